import Derived.Test.YtmkkdjpebbdikaaGreatDoorZb12
set_option linter.all false
set_option maxHeartbeats 16000000
set_option maxRecDepth 100000
namespace Go.Proofs.YtmkkdjpebbdikaaGreatDoor
open Go.RowKit Tryz
namespace Pr
open Ar Fl
open Rw (R E)
open Ps (lo PS kindOf OK vR Bs jT kM Ay holder outer)
theorem GV(l:List Nd)(c i:Nat):(keyed l (c:Int))[i]?=(l[i]?).map (λx=>if i=c then{x with y:=true}else x):=by
 unfold keyed;rw[jd];cases hc:l[c]? with
 |none=>
  dsimp only;cases hi:l[i]? with
  |none=>rfl
  |some x=>
   have:i≠c:=λe=>by rw[e,hc]at hi;cases hi
   rw[AB,dW this]
 |some x=>
  dsimp only;rw[oI];by_cases e:c=i
  ·subst e;rw[dX rfl,dX (eY.1 hc).1,hc,AB,dX rfl]
  ·rw[dW e];cases hi:l[i]? with
   |none=>rfl
   |some y=>rw[AB,dW (λh=>e h.symm)]
theorem abn(l:List Nd)(c k:Nat)(x:Nd):keyed (l.set k x) (c:Int)=(keyed l (c:Int)).set k (if k=c then{x with y:=true}else x):=by
 refine r9 (λi=>?_);rw[GV,oI,oI,GV];by_cases e:k=i
 ·subst e;rw[dX rfl,dX rfl];have hl:(keyed l (c:Int)).length=l.length:=JN
  rw[hl];by_cases hk:k<l.length
  ·rw[dX hk,dX hk,AB]
  ·rw[dW hk,dW hk];rfl
 ·rw[dW e,dW e]
theorem MV:∀(g:Nat)(l:List Nd)(k:Nat)(z:Int)(c:Nat),iO g (keyed l (c:Int)) k z=keyed (iO g l k z) (c:Int)
 |0,_,_,_,_=>rfl
 |g+1,l,k,z,c=>by
  rw[iO,iO];by_cases h0:k=0
  ·rw[dX h0,dX h0]
  ·rw[dW h0,dW h0,GV];cases hk:l[k]? with
   |none=>rfl
   |some x=>
    rw[AB];dsimp only;rw[show(if k=c then({x with y:=true}:Nd)else x).u=x.u by split<;>rfl,<-MV g,abn];congr 2;split<;>rfl
theorem ajb(a:List Nd)(c:Nat)(k f z:Int)(hc:c<a.length):add (keyed a (c:Int)) c k f z=keyed (add a c k f z) (c:Int):=by
 have hkl:(keyed a (c:Int)).length=a.length:=JN
 have aa:ql (keyed a (c:Int)) c=keyed (ql a c) (c:Int):=by
  obtain⟨x,hx⟩:∃x,a[c]?=some x:=⟨_,fu hc⟩
  unfold ql;rw[GV,hx,AB,dX rfl,hkl];dsimp only;rw[abn,dX rfl]
 unfold add hold reach;rw[aa,MV];refine r9 (λi=>?_);rw[GV];have hl1:(iO (c+1) (ql a c) c z).length=a.length:=by rw[zg,Ho]
 have hl2:(keyed (iO (c+1) (ql a c) c z) (c:Int)).length=a.length:=by
  have:∀l:List Nd,(keyed l (c:Int)).length=l.length:=λl=>JN
  rw[this,hl1]
 by_cases hi:i<a.length
 ·rw[nK dS,nK dS,GV]
 ·rw[oH dS,oH dS,hl1,hl2];cases h:([(⟨k,f,z,c,[],false⟩:Nd)])[i-a.length]? with
  |none=>rfl
  |some x=>rw[AB,dW dS]
theorem V8(P:Nat->Bool)(n:Nat)(h:P n=false):(List.range (n+1)).any P=(List.range n).any P:=by
 rw[List.range_succ,List.any_append];simp[h]
theorem MW{l:List Tk}{B:Bs}{nd:Nat}{en:E}{s:St}{b:Int}{h:Lv}(hok:Fe.Ok l B.1 l.length nd B.2 en.from' b s)(hb:b<=en.bu)(hlt:en.from'<en.bu)(hle:en.bu<=l.length)(hk:raw l (en.bu-1)≠13)(hn:h.node=nd):
 enter l s h en=((Ps.cur l s nd en).1,{h with full:=false,cur:=s.t.length})/\(Ps.cur l s nd en).2=(s.t.length:Int):=by
 subst hn;unfold enter Ps.cur;by_cases hd:en.dash=true
 ·rw[dX hd,dX hd];have:=(uZ (kind:=4) hok (jk _) dS (by omega:((en.bu:Nat):Int)<=(l.length:Int)) dS dS dS).1;have this:Fl.add s h.node 4 en.from' en.bu=(⟨add s.t h.node 4 en.from' en.bu,s.d⟩,(s.t.length:Int)):=this;rw[this];exact⟨rfl,rfl⟩
 ·rw[dW hd,dW hd];obtain⟨h1,h2⟩:=uZ (kind:=6) hok (jk _) dS (by omega:((en.bu:Nat):Int)<=(l.length:Int)) dS dS dS;have h1:Fl.add s h.node 6 en.from' en.bu=(⟨add s.t h.node 6 en.from' en.bu,s.d⟩,(s.t.length:Int)):=h1;unfold pair;rw[h1];dsimp only;split
  ·exact⟨rfl,rfl⟩
  ·rename_i hw;obtain⟨s',a1,_,a3,_⟩:=Fe.kJ (kind:=6) hok (jk _) dS (by omega:((en.bu:Nat):Int)<=(l.length:Int)) dS dS;have a1:Fl.add s h.node 6 en.from' en.bu=(s',(s.t.length:Int)):=a1;rw[h1]at a1;obtain rfl:s'=_:=(congrArg Prod.fst a1).symm;have hbl:=gH l (en.bu-1) (en.from'+1);have hbg:en.from'+1<=back l (en.bu-1) (en.from'+1):=xH l _ _ dS;have hkk:1<=(if(List.range (en.bu-en.from')).any (λx=>raw l (en.from'+x)==13)=true then 8 else 7:Nat)/\(if(List.range (en.bu-en.from')).any (λx=>raw l (en.from'+x)==13)=true then 8 else 7:Nat)<=10:=by split<;>omega
   have h3:=(uZ a3 (jk _) dS (by omega:((back l (en.bu-1) (en.from'+1):Nat):Int)<=(l.length:Int)) hkk.1 dS dS).1;dsimp only at h3;rw[h3];have hany:(List.range (en.bu-en.from')).any (λx=>raw l (en.from'+x)==13)=(List.range (en.bu-1-en.from')).any (λx=>raw l (en.from'+x)==13):=by
    rw[show en.bu-en.from'=(en.bu-1-en.from')+1 by omega];refine V8 _ _ ?_;rw[show en.from'+(en.bu-1-en.from')=en.bu-1 by omega]
    simpa using hk
   rw[hany,ajb _ _ _ _ _ Jk];refine⟨?_,rfl⟩;congr 3;split<;>rfl
def jP(o:Ps.Op):Lv:=⟨o.kind,o.node.toNat,o.eT,o.cur.toNat,o.has⟩
def jF(p:PS):Lv:=⟨2,p.doc.toNat,-1,p.doc.toNat,p.root⟩
def Gv(p:PS):List Lv:=if p.doc<0 then[]else p.st.map jP++[jF p]
def Gw:List Ps.Op->Prop
 |[]=>True
 |o::r=>(0<=o.eT/\(o.kind=3\/o.kind=5)/\(match r with
  |[]=>True
  |o2::_=>o2.has=true/\(o2.eT<o.eT\/(o2.eT=o.eT/\o.kind=3/\o2.kind=5))))/\Gw r
def Wf(p:PS):Prop:=Gw p.st/\(p.st≠[]->p.root=true)
theorem vw(e:E):kindOf e=3\/kindOf e=5:=by unfold kindOf;split<;>simp
def nxO:List Ps.Op->Int
 |[]=>-1
 |o::_=>o.eT
theorem Uq(depth n:Nat)(e:E)(D:Lv)(hk:D.kind=2)(hc:D.eT=-1)(he:0<=e.eT):∀st:List Ps.Op,Gw st->
 nS depth n e (st.map jP++[D])=(match st.dropWhile (λo=>decide (e.eT<o.eT))with
  |[]=>if D.full=true then(7,[])else if depth<n then(10,[])else(1,[])
  |o::r=>
   if o.eT=e.eT then
    if o.kind=kindOf e then(0,(o::r).map jP++[D])
    else if kindOf e=3 then(if o.has=true then(5,[])else if depth<n then(10,[])else(1,[]))
    else match r with
     |o2::_=>if o2.eT=e.eT/\o2.kind=5 then(0,r.map jP++[D])else(5,[])
     |[]=>(5,[])
   else if o.has=true then(6,[])else if depth<n then(10,[])else(1,[]))
 |[]=>λ_=>by
  have h2:=vw e;show nS depth n e [D]=_;rw[nS,dW dS,dW (by rw[hc];omega),dW dS];show _=(if D.full=true then(7,[])else if depth<n then(10,[])else(1,[]))
  by_cases hf:D.full=true
  ·rw[dX ⟨hf,hk⟩,dX hf]
  ·rw[dW (λh=>hf h.1),dW hf,dW hf]
 |o::r=>λhw=>by
  obtain⟨⟨w1,w2,w3⟩,w4⟩:=hw;have h2:=vw e;rw[LC];by_cases hlt:e.eT<o.eT
  ·rw[dX (kD hlt)];show nS depth n e (jP o::(r.map jP++[D]))=_;rw[nS,dW (by show¬(o.eT=e.eT/\_);omega),dX (.inl hlt)];exact Uq depth n e D hk hc he r w4
  ·rw[dW (by simpa using hlt)];show nS depth n e (jP o::(r.map jP++[D]))=_;have hnx:Yh (r.map jP++[D])=nxO r:=by
    cases r with
    |nil=>exact hc
    |cons o2 q=>rfl
   have hs:nS depth n e (jP o::(r.map jP++[D]))=(if o.eT=e.eT/\o.kind=kindOf e then(0,jP o::(r.map jP++[D]))
    else if e.eT<o.eT\/(o.eT=e.eT/\nxO r=e.eT)then nS depth n e (r.map jP++[D])
    else if o.eT=e.eT/\(o.has=true\/o.kind=3)then(5,[])
    else if o.has=true/\o.kind=2 then(7,[])else if o.has=true then(6,[])else if depth<n then(10,[])else(1,[])):=by
    rw[nS,hnx];rfl
   rw[hs];clear hs hnx;dsimp only;by_cases heq:o.eT=e.eT
   ·rw[dX heq];by_cases hkd:o.kind=kindOf e
    ·rw[dX ⟨heq,hkd⟩,dX hkd];rfl
    ·rw[dW (λh=>hkd h.2),dW hkd]
     have tail:∀v:Int,v≠e.eT->(kindOf e≠3->o.kind=3)->(if e.eT<o.eT\/(o.eT=e.eT/\v=e.eT)then nS depth n e (r.map jP++[D])
      else if o.eT=e.eT/\(o.has=true\/o.kind=3)then(5,[])
      else if o.has=true/\o.kind=2 then(7,[])else if o.has=true then(6,[])else if depth<n then(10,[])else(1,[]))=(if kindOf e=3 then(if o.has=true then(5,[])else if depth<n then(10,[])else(1,[]))else(5,[])):=by
      intro v hv hk3;rw[dW (show¬(e.eT<o.eT\/(o.eT=e.eT/\v=e.eT))by omega)];by_cases h3:kindOf e=3
      ·have h5:o.kind=5:=by omega
       rw[dX h3];by_cases hh:o.has=true
       ·rw[dX ⟨heq,.inl hh⟩,dX hh]
       ·rw[dW (show¬(o.eT=e.eT/\(o.has=true\/o.kind=3))from λh=>h.2.elim hh dS),dW (λh=>hh h.1),dW hh,dW hh]
      ·rw[dW h3,dX ⟨heq,.inr (hk3 h3)⟩]
     cases r with
     |nil=>exact tail (-1) dS (λh=>dS)
     |cons o2 q=>
      dsimp only;obtain⟨v1,v2⟩:=w3;by_cases hc2:o2.eT=e.eT
      ·have hk3:o.kind=3/\o2.kind=5:=by omega
       rw[dX (.inr ⟨heq,hc2⟩),dW (show¬kindOf e=3 by omega),dX ⟨hc2,hk3.2⟩];show nS depth n e (jP o2::(q.map jP++[D]))=_;rw[nS];exact dX (show o2.eT=e.eT/\o2.kind=kindOf e by omega)
      ·refine(tail o2.eT hc2 (λh=>dS)).trans ?_;by_cases h3:kindOf e=3
       ·rw[dX h3,dX h3]
       ·rw[dW h3,dW h3,dW (λh=>hc2 h.1)]
   ·rw[dW (λh=>heq h.1),dW (show¬(e.eT<o.eT\/(o.eT=e.eT/\_))from λh=>h.elim hlt (λh=>heq h.1)),dW (λh=>heq h.1),dW heq];by_cases hh:o.has=true
    ·rw[dW (show¬(o.has=true/\o.kind=2)by omega),dX hh]
    ·rw[dW (λh=>hh h.1),dW hh]
end Pr
namespace Pr
open Ar Fl
open Rw (R E)
open Ps (lo PS kindOf OK vR Bs jT kM Ay holder outer)
structure Rel(i:Nat)(q:QS)(p:PS):Prop where
 st:q.st=Gv p
 doc:0<=p.doc
 d:q.s.d=p.s.d
 t:q.s.t=p.s.t\/(p.st=[]/\p.root=false/\HS p.doc.toNat ((i+1:Nat):Int) q.s.t p.s.t)
 wf:Wf p
theorem Rel.len{i:Nat}{q:QS}{p:PS}(h:Rel i q p):q.s.t.length=p.s.t.length:=by
 rcases h.t with h|⟨_,_,h⟩
 ·rw[h]
 ·exact h.len
theorem jN{p:PS}(h:0<=p.doc):Gv p=p.st.map jP++[jF p]:=by unfold Gv;rw[dW dS]
theorem Rel.hs{i:Nat}{q:QS}{p:PS}(h:Rel i q p)(up:Nat)(hu:p.st=[]->p.root=false->up=p.doc.toNat):HS up ((i+1:Nat):Int) q.s.t p.s.t:=by
 rcases h.t with e|⟨h1,h2,h3⟩
 ·rw[e];exact HS.refl _ _ _
 ·rw[hu h1 h2];exact h3
theorem Wd{p:PS}{n:Nat}(hd:0<=p.doc)(hn:holder p=(n:Int)):mV (Gv p)=n:=by
 rw[jN hd];unfold holder at hn;cases hs:p.st with
 |nil=>
  rw[hs]at hn;show(if p.root=true then p.doc.toNat else p.doc.toNat)=n;have hn:p.doc=(n:Int):=hn;split<;>omega
 |cons o r=>
  rw[hs]at hn;dsimp only at hn;show(if o.has=true then o.node.toNat else o.cur.toNat)=n;split at hn
  ·rename_i h;rw[dX h];omega
  ·rename_i h;rw[dW h];omega
theorem EO{l:List Tk}{B:Bs}{i a b c code:Nat}{q:QS}{p:PS}(h:Rel i q p)(ho:Ay l B i p)(hia:i<=lo l a c)(hlt:lo l a c<c)(hc:c<=l.length)(ha:lo l a c=b):
 fault l q.s (mV q.st) code a c=err l p.s (holder p) b (back l c b) code:=by
 obtain⟨d,h1,h2,h3⟩:=ho;obtain⟨m,e1,e2⟩:=h3.hold;have hh:holder p=(m:Int):=by rw[Ps.qM,h1];exact e1
 have hcn:=Ps.qh l hlt;subst ha;have hbg:=Ps.ow l c (lo l a c) (lo l a c) (eO _) hlt hcn;have hbl:=gH l c (lo l a c);unfold fault;dsimp only;rw[dX hlt,h.st,Wd h.doc hh,hh];rw[Ug e2 dS dS dS]
 have hs:=h.hs m (λg1 g2=>by
  unfold holder at hh;rw[g1]at hh;have hh:p.doc=(m:Int):=hh
  omega)
 rw[hs.put dS,h.d]
theorem Gw.drop(f:Ps.Op->Bool):∀{st:List Ps.Op},Gw st->Gw (st.dropWhile f)
 |[],h=>h
 |o::r,h=>by
  rw[LC];split
  ·exact Gw.drop f h.2
  ·exact h
theorem Gw.has(f:Ps.Op->Bool):∀{st:List Ps.Op}{o:Ps.Op}{r:List Ps.Op},Gw st->st.dropWhile f=o::r->o.has=false->st=o::r
 |[],_,_,_,h,_=>fV
 |a::s,o,r,hw,h,ho=>by
  rw[LC]at h;split at h
  ·have hs:=Gw.has f hw.2 h ho;subst hs;have:=hw.1.2.2.1;rw[ho]at this;cases this
  ·exact h
structure Put(q:QS)(k:QS)(p':PS):Prop where
 s:k.s=p'.s
 st:k.st=Gv p'
 row:k.row=q.row
 en:k.en=q.en
 wf:Wf p'
 doc:0<=p'.doc
theorem ajc{a b:Lv}(h1:a.kind=b.kind)(h2:a.node=b.node)(h3:a.eT=b.eT)(h4:a.cur=b.cur)(h5:a.full=b.full):a=b:=by
 cases a;cases b;dsimp only at h1 h2 h3 h4 h5;subst h1 h2 h3 h4 h5;rfl
theorem acA{l:List Tk}{B:Bs}{e:Nat}{p:PS}{o:Ps.Op}{r:List Ps.Op}{en:E}(hc:∃d,jT p.s.t d (o::r))(h:vR l B o.node e p.s)(he:e<=en.from')(hlt:en.from'<en.bu)(hle:en.bu<=l.length)(hk:raw l (en.bu-1)≠13)(hd:0<=p.doc)(hw:Gw (o::r))(hroot:p.root=true):
 (enter l p.s (jP o) en).1=(Ps.again l p o r en).2.s/\(enter l p.s (jP o) en).2::(r.map jP++[jF p])=Gv (Ps.again l p o r en).2/\Wf (Ps.again l p o r en).2:=by
 obtain⟨d,⟨nd,c,k,h1,h2,h3,h4,h5⟩,h6⟩:=hc;obtain⟨m,e1,e2⟩:=h;obtain rfl:m=nd:=dS
 obtain⟨g1,g2⟩:=MW (h:=jP o) (e2.le (e':=en.from') (b':=en.from') dS dS) dS hlt hle hk (by show o.node.toNat=m;omega);unfold Ps.again;rw[h1];dsimp only;rw[g1];refine⟨rfl,?_,⟨⟨hw.1,hw.2⟩,λ_=>hroot⟩⟩;refine U7 ?_ (jN (by exact hd)).symm;refine congrArg (λx=>x::(r.map jP++[jF p])) (ajc rfl ?_ rfl ?_ rfl)
 ·show o.node.toNat=((m:Int)).toNat;rw[h1]
 ·show p.s.t.length=((Ps.cur l p.s (m:Int) en).2).toNat;rw[g2];rfl
def Nx(en:E):List Ps.Op->Prop
 |[]=>True
 |o2::_=>o2.has=true/\(o2.eT<en.eT\/(o2.eT=en.eT/\kindOf en=3/\o2.kind=5))
theorem acB{l:List Tk}{B:Bs}{i d:Nat}{up:Int}{en:E}{q:QS}{p:PS}{st:List Ps.Op}(h:Rel i q p)(hch:jT p.s.t d st)(h0:vR l B up i p.s)(hi:i<=en.from')(hlt:en.from'<en.bu)(hle:en.bu<=l.length)(hk:raw l (en.bu-1)≠13)
 (aa:0<=en.eT) (hst:∃hd tl,q.st=hd::tl/\(hd.cur:Int)=up/\{hd with full:=true}::tl=st.map jP++[jF {p with root:=true}]) (hup:p.st=[]->p.root=false->up=p.doc)
 (hw:Gw st) (hnext:Nx en st) {depth:Nat} (ae:¬depth<st.length+1):
 ∀(root:Bool),root=true->∃hd tl,q.st=hd::tl/\
  (enter l ⟨add q.s.t hd.cur (kindOf en) en.from' en.bu,q.s.d⟩ ⟨kindOf en,q.s.t.length,en.eT,0,false⟩ en).1=(Ps.fresh l depth p up root st en).2.s/\
  (enter l ⟨add q.s.t hd.cur (kindOf en) en.from' en.bu,q.s.d⟩ ⟨kindOf en,q.s.t.length,en.eT,0,false⟩ en).2::{hd with full:=true}::tl=Gv (Ps.fresh l depth p up root st en).2/\Wf (Ps.fresh l depth p up root st en).2/\(Ps.fresh l depth p up root st en).1=0/\0<=(Ps.fresh l depth p up root st en).2.doc:=by
 intro root hroot;subst hroot;obtain⟨hd,tl,g1,g2,g3⟩:=hst;refine⟨hd,tl,g1,?_⟩;obtain⟨m,e1,e2⟩:=h0;obtain rfl:hd.cur=m:=dS
 have hkk:=Ps.kindOf en|>λ_=>vw en
 have hs:=h.hs hd.cur (λa b=>by have:=hup a b;omega);have hadd:add q.s.t hd.cur (kindOf en) en.from' en.bu=add p.s.t hd.cur (kindOf en) en.from' en.bu:=hs.put dS;obtain⟨f1,f2⟩:=uZ (kind:=kindOf en) (f:=en.from') (t:=en.bu) e2 dS dS (by omega:((en.bu:Nat):Int)<=(l.length:Int)) dS dS dS;obtain⟨s',a1,_,a3,_⟩:=Fe.kJ (kind:=kindOf en) (f:=en.from') (t:=en.bu) e2 dS dS (by omega:((en.bu:Nat):Int)<=(l.length:Int)) dS dS;rw[f1]at a1;obtain rfl:s'=_:=(congrArg Prod.fst a1).symm;rw[hadd,h.d,h.len];obtain⟨k1,k2⟩:=MW (h:=⟨kindOf en,p.s.t.length,en.eT,0,false⟩) (a3.le (e':=en.from') (b':=en.bu) dS dS) (jk _) hlt hle hk rfl;dsimp only at k1 k2;unfold Ps.fresh;rw[dW ae,e1];dsimp only;rw[f1];dsimp only;rw[k1];refine⟨rfl,?_,?_,rfl,h.doc⟩
 ·refine U7 ?_ (jN (by exact h.doc)).symm;rw[g3,k2];rfl
 ·refine⟨⟨⟨aa,hkk,?_⟩,hw⟩,λ_=>rfl⟩;cases st with
  |nil=>trivial
  |cons o2 r=>exact hnext
theorem acC{l:List Tk}{B:Bs}{i depth:Nat}{en:E}{q:QS}{p:PS}(h:Rel i q p)(ho:Ay l B i p)(hi:i<=en.from')(hlt:en.from'<en.bu)(hle:en.bu<=l.length)(hk:raw l (en.bu-1)≠13)(ae:0<=en.eT):
 (place l depth q en).1=(Ps.place l depth p en).1/\((Ps.place l depth p en).1=0->Put q (place l depth q en).2 (Ps.place l depth p en).2)/\((Ps.place l depth p en).1≠0->(place l depth q en).2=q):=by
 obtain⟨d,hd,hc,hh⟩:=ho;obtain⟨hc',hh'⟩:=kM.drop (λo=>decide (en.eT<o.eT)) hc hh;have XA:=h.st;rw[jN h.doc]at XA;have hsk:=Uq depth q.st.length en (jF p) rfl rfl ae p.st h.wf.1;have ag:q.st.length=p.st.length+1:=by rw[XA];simp
 have hw':=Gw.drop (λo=>decide (en.eT<o.eT)) h.wf.1;unfold place;rw[<-XA]at hsk;rw[hsk]
 have hr:(Ps.place l depth p en)=(match p.st.dropWhile (λo=>decide (en.eT<o.eT))with
  |[]=>if p.root=true then(7,p)else Ps.fresh l depth p p.doc true [] en
  |o::r=>
   if o.eT=en.eT then
    if o.kind=kindOf en then Ps.again l p o r en
    else if kindOf en=3 then(if o.has=true then(5,p)else Ps.fresh l depth p o.cur p.root ({o with has:=true}::r) en)
    else match r with
     |o2::r2=>if o2.eT=en.eT/\o2.kind=5 then Ps.again l p o2 r2 en else(5,p)
     |[]=>(5,p)
   else if o.has=true then(6,p)else Ps.fresh l depth p o.cur p.root ({o with has:=true}::r) en):=rfl
 rw[hr];have bad:∀code:Nat,5<=code->(act l q en (code,[])).1=(code,p).1/\((code,p).1=0->Put q (act l q en (code,[])).2 (code,p).2)/\((code,p).1≠0->(act l q en (code,[])).2=q):=by
  intro code h5;have e:act l q en (code,[])=(code,q):=by
   obtain⟨c,rfl⟩:∃c,code=c+5:=⟨code-5,dS⟩
   rfl
  rw[e];exact⟨rfl,λh=>by have h:code=0:=h;omega,λ_=>rfl⟩
 have two:∀(o:Ps.Op)(r:List Ps.Op),jT p.s.t d (o::r)->vR l B o.node i p.s->Gw (o::r)->p.st≠[]->
  (act l q en (0,(o::r).map jP++[jF p])).1=(Ps.again l p o r en).1/\((Ps.again l p o r en).1=0->Put q (act l q en (0,(o::r).map jP++[jF p])).2 (Ps.again l p o r en).2)/\((Ps.again l p o r en).1≠0->(act l q en (0,(o::r).map jP++[jF p])).2=q):=by
  intro o r g1 g2 g3 g4;have ah:q.s=p.s:=by
   rcases h.t with e|⟨e,_⟩
   ·have:=h.d;cases hq:q.s with
    |mk a b=>cases hp:p.s with
     |mk a' b'=>rw[hq,hp]at e this;dsimp only at e this;rw[e,this]
   ·exact absurd e g4
  obtain⟨k1,k2,k3⟩:=acA ⟨d,g1⟩ g2 hi hlt hle hk h.doc g3 (h.wf.2 g4);show(0:Nat)=0/\_/\_;refine⟨rfl,λ_=>⟨?_,?_,rfl,rfl,k3,h.doc⟩,λhx=>absurd rfl hx⟩
  ·show(enter l q.s (jP o) en).1=_;rw[ah];exact k1
  ·show(enter l q.s (jP o) en).2::(r.map jP++[jF p])=_;rw[ah];exact k2
 have three:∀(up:Int)(root:Bool)(st:List Ps.Op),jT p.s.t d st->vR l B up i p.s->(∃hd tl,q.st=hd::tl/\(hd.cur:Int)=up/\{hd with full:=true}::tl=st.map jP++[jF {p with root:=true}])->(p.st=[]->p.root=false->up=p.doc)->
  Gw st->Nx en st->q.st.length=st.length+1->root=true->
  (act l q en (if depth<q.st.length then(10,[])else(1,[]))).1=(Ps.fresh l depth p up root st en).1/\((Ps.fresh l depth p up root st en).1=0->Put q (act l q en (if depth<q.st.length then(10,[])else(1,[]))).2 (Ps.fresh l depth p up root st en).2)/\((Ps.fresh l depth p up root st en).1≠0->(act l q en (if depth<q.st.length then(10,[])else(1,[]))).2=q):=by
  intro up root st g1 g2 g3 g4 g5 g6 g7 g8;by_cases af:depth<st.length+1
  ·rw[dX dS];have e:Ps.fresh l depth p up root st en=(10,p):=by unfold Ps.fresh;rw[dX af]
   rw[e];exact bad 10 dS
  ·rw[dW dS];obtain⟨hd,tl,k1,k2,k3,k4,k5,k6⟩:=acB h g1 g2 hi hlt hle hk ae g3 g4 g5 g6 af root g8;have e:act l q en (1,[])=(0,fresh l q en hd tl):=by show(match q.st with|h::r=>(0,fresh l q en h r)|[]=>(0,q))=_;rw[k1]
   rw[e,k5];exact⟨rfl,λ_=>⟨k2,k3,rfl,rfl,k4,k6⟩,λhx=>absurd rfl hx⟩
 cases hdw:p.st.dropWhile (λo=>decide (en.eT<o.eT))with
 |nil=>
  rw[hdw]at hc' hh' hw';dsimp only;show _/\_/\_;by_cases hrt:p.root=true
  ·rw[dX (show(jF p).full=true from hrt),dX hrt];exact bad 7 dS
  ·rw[dW (show¬(jF p).full=true from hrt),dW hrt];have hp0:p.st=[]:=by
    cases hs:p.st with
    |nil=>rfl
    |cons o r=>exact absurd (h.wf.2 yP) hrt
   refine three p.doc true [] hc' (by rw[hd];exact hh') ⟨jF p,[],by rw[XA,hp0];rfl,?_,rfl⟩ (λ_ _=>rfl) hw' trivial (by rw[ag,hp0]) rfl;show((p.doc.toNat:Nat):Int)=p.doc;have:=h.doc;omega
 |cons o r=>
  rw[hdw]at hc' hh' hw';have hne:p.st≠[]:=λe=>by rw[e]at hdw;cases hdw
  have hroot:=h.wf.2 hne;have ai:o.eT<=en.eT:=by
   have:=ake (λo:Ps.Op=>decide (en.eT<o.eT)) p.st;rw[hdw]at this;simp at this;exact this
  have hf:o.has=false->(o.eT<en.eT\/(o.eT=en.eT/\kindOf en=3/\o.kind=5))->
   (act l q en (if depth<q.st.length then(10,[])else(1,[]))).1=(Ps.fresh l depth p o.cur p.root ({o with has:=true}::r) en).1/\((Ps.fresh l depth p o.cur p.root ({o with has:=true}::r) en).1=0->Put q (act l q en (if depth<q.st.length then(10,[])else(1,[]))).2 (Ps.fresh l depth p o.cur p.root ({o with has:=true}::r) en).2)/\((Ps.fresh l depth p o.cur p.root ({o with has:=true}::r) en).1≠0->(act l q en (if depth<q.st.length then(10,[])else(1,[]))).2=q):=by
   intro g1 g2;have hs:=Gw.has _ h.wf.1 hdw g1;obtain⟨m,e1,_⟩:=hh'.2 g1;refine three o.cur p.root ({o with has:=true}::r) hc' (hh'.2 g1) ⟨jP o,r.map jP++[jF p],by rw[XA,hs];rfl,?_,?_⟩ (λg=>absurd g hne) ⟨hw'.1,hw'.2⟩ ⟨rfl,g2⟩ (by rw[ag,hs];rfl) hroot
   ·show((o.cur.toNat:Nat):Int)=o.cur;omega
   ·show _=jP {o with has:=true}::(r.map jP++[jF {p with root:=true}])
    have:jF {p with root:=true}=jF p:=by unfold jF;rw[hroot]
    rw[this];rfl
  dsimp only;have h2:=vw en;by_cases heq:o.eT=en.eT
  ·rw[dX heq,dX heq];by_cases hkd:o.kind=kindOf en
   ·rw[dX hkd,dX hkd];exact two o r hc' hh'.1 hw' hne
   ·rw[dW hkd,dW hkd];have hko:=hw'.1.2.1;by_cases h3:kindOf en=3
    ·rw[dX h3,dX h3];by_cases aa:o.has=true
     ·rw[dX aa,dX aa];exact bad 5 dS
     ·rw[dW aa,dW aa];exact hf (by simpa using aa) (.inr ⟨heq,h3,dS⟩)
    ·rw[dW h3,dW h3];cases r with
     |nil=>exact bad 5 dS
     |cons o2 r2=>
      dsimp only;by_cases hc2:o2.eT=en.eT/\o2.kind=5
      ·rw[dX hc2,dX hc2];exact two o2 r2 hc'.2 (Ps.zY hc'.2 (kM.outer hc' hh')).1 hw'.2 hne
      ·rw[dW hc2,dW hc2];exact bad 5 dS
  ·rw[dW heq,dW heq];by_cases aa:o.has=true
   ·rw[dX aa,dX aa];exact bad 6 dS
   ·rw[dW aa,dW aa];exact hf (by simpa using aa) (.inl dS)
end Pr
namespace Ps
open Ar Fl
open Rw (R E)
theorem afL{l:List Tk}{B:Bs}{a b depth:Nat}{p:PS}{r:R}(h:Ay l B a p)(hB:B.1<=a)(hab:a<b)(hb:b<=l.length)(hread:b<=p.read)(hrl:p.read<=l.length):
 Ay l B (bare l (Rw.eF l) depth p r a b).read (bare l (Rw.eF l) depth p r a b)/\(bare l (Rw.eF l) depth p r a b).read<=l.length:=by
 have aa:Ay l B p.read {p with s:=err l p.s (holder p) a b 7}:=(KI h hB (eO _) hab hb dS dS dS).le hread;obtain⟨d,hd,hc,hh⟩:=h;obtain⟨hc',hh'⟩:=kM.drop (λo=>decide (r.eT<=o.eT)) hc hh
 have hr:bare l (Rw.eF l) depth p r a b=(match p.st.dropWhile (λo=>decide (r.eT<=o.eT))with
  |[]=>if p.root=true then{p with s:=err l p.s (holder p) a b 7}
   else
    let v:=value l (Rw.eF l) depth {p with st:=[]} p.doc a
    {v.1 with root:=v.2}
  |o::q=>if o.has=true then{p with s:=err l p.s (holder p) a b 7}
   else
    let v:=value l (Rw.eF l) depth {p with st:=o::q} o.cur a
    {v.1 with st:={o with has:=v.2}::q}):=rfl
 rw[hr];cases hdw:p.st.dropWhile (λo=>decide (r.eT<=o.eT))with
 |nil=>
  rw[hdw]at hc' hh';dsimp only;split
  ·exact⟨aa,hrl⟩
  ·obtain⟨m,e1,e2⟩:=hh';obtain rfl:m=d:=by omega
   obtain⟨P,hP⟩:∃P:PS,{p with st:=[]}=P:=⟨_,rfl⟩
   have hP1:P.s=p.s:=wC
   have hP2:P.st=[]:=wC
   have hP3:P.doc=(m:Int):=by rw[<-hP];exact hd
   rw[hP,hd];rw[<-hP1]at e2 hc';obtain⟨v1,v2,v3,v4,v5⟩:=mh (depth:=depth) (p:=P) (i:=a) (k:=m) e2 hB (eO _) dS;refine⟨⟨m,by rw[<-hP3];exact v1,?_,?_⟩,v3⟩
   ·dsimp only;rw[v2,hP2];exact Up.keep hc' v4
   ·dsimp only;rw[v2,hP2];exact⟨m,rfl,v5⟩
 |cons o q=>
  rw[hdw]at hc' hh';dsimp only;split
  ·exact⟨aa,hrl⟩
  ·rename_i ho;obtain⟨m,e1,e2⟩:=hh'.2 DY;obtain⟨⟨nd,c,k,g1,g2,g3,g4,g5⟩,g6⟩:=hc';obtain rfl:m=c:=by omega
   obtain⟨o1,o2,o3,o4,o5⟩:=o;have e1:o4=(m:Int):=e1;subst e1;obtain⟨v1,v2,v3,v4,v5⟩:=mh (depth:=depth) (p:={p with st:=⟨o1,o2,o3,(m:Int),o5⟩::q}) (i:=a) (k:=m) e2 hB (eO _) dS;have hch:jT (value l (Rw.eF l) depth {p with st:=⟨o1,o2,o3,(m:Int),o5⟩::q} (m:Int) a).1.s.t d (⟨o1,o2,o3,(m:Int),(value l (Rw.eF l) depth {p with st:=⟨o1,o2,o3,(m:Int),o5⟩::q} (m:Int) a).2⟩::q):=
    jT.keep (st:=⟨o1,o2,o3,(m:Int),(value l (Rw.eF l) depth {p with st:=⟨o1,o2,o3,(m:Int),o5⟩::q} (m:Int) a).2⟩::q) v4 ⟨⟨nd,m,k,g1,g2,g3,g4,g5⟩,g6⟩
   refine⟨⟨d,by rw[<-hd];exact v1,hch,?_⟩,v3⟩;refine zM hch ?_;show vR l B (if(value l (Rw.eF l) depth {p with st:=⟨o1,o2,o3,(m:Int),o5⟩::q} (m:Int) a).2=true then o1 else(m:Int)) _ _;split
   ·exact⟨nd,g1,LU v5 (g3.keep v4)⟩
   ·exact⟨m,g2,v5⟩
theorem afM{l:List Tk}{B:Bs}{e depth:Nat}{p:PS}{r:R}(ht:Rw.jO 0 l)(h:Inv l B e p)(hr:lV l r)(h5:r.kind=5)(hB:B.1<=r.from')(he:e<=r.from')(hread:p.read=r.bu):
 Inv l B (body l (Rw.eF l) depth p r).read (body l (Rw.eF l) depth p r)/\(body l (Rw.eF l) depth p r).read<=l.length:=by
 have hlt:=hr.lt;have hle:=hr.le;have hlo:=hr.body h5;have hge:=kF l r.from' r.bu;have hcn:=qh l hlo;obtain⟨n1,n2,n3,n4⟩:=uY ht hr h5;unfold body;dsimp only;obtain⟨a,ha⟩:=eu (lo l r.from' r.bu);rw[ha]at hlo hge hcn n1 n3⊢;obtain⟨b,hb⟩:=eu (back l r.bu a);have hbl:=gH l r.bu a;have hbg:=ow l r.bu a a (eO _) hlo hcn;rw[hb]at n1 hbl hbg⊢;obtain⟨o1,o2⟩:=uk h (i:=a) dS dS;obtain⟨p1,hp1⟩:=eu (gI p a);rw[hp1]at o1 o2⊢;obtain⟨es,hes⟩:=eu (Rw.iH l r);rw[hes]at n1 n2 n3 n4⊢;split
 ·obtain⟨g1,g2⟩:=afL (r:=r) (depth:=depth) o1 dS hbg dS dS dS;exact⟨.inr g1,g2⟩
 ·rename_i hne;obtain⟨e',k1,k2,k3,k4,k5⟩:=x9 (depth:=depth) (b:=b) dS es.1 a p1 (holder p1) o1 dS rfl n1 dS;obtain⟨q,hq⟩:=eu (places l depth b p1 (holder p1) es.1);rw[hq]at k3 k4 k5⊢;have ae:q.2.read=r.bu:=by rw[k4,o2,hread]
  have stay:Inv l B q.2.read q.2/\q.2.read<=l.length:=⟨.inr (k3.le dS),dS⟩
  split
  ·rename_i hall;split
   ·rename_i hx;obtain⟨_,m1,m2⟩:=k5 hall;obtain⟨t,k,m3,m4⟩:=m2 hne;have hlast:∃z,es.1.getLast?=some z:=by
     cases hz:es.1.getLast? with
     |none=>rw[aer]at hz;exact absurd hz hne
     |some z=>exact⟨z,rfl⟩
    obtain⟨z,hz⟩:=hlast;have hrest:es.2=e':=by rw[n2 z hz,m1 z hz]
    have hxg:=kF l es.2 r.bu;have hxb:=gH l r.bu (lo l es.2 r.bu);obtain⟨d,d1,d2,d3⟩:=k3;obtain⟨x,aa⟩:=eu (lo l es.2 r.bu);rw[aa]at hx hxg hxb⊢;rw[m3]at d2 d3⊢;dsimp only;obtain⟨m,e1,e2⟩:=d3.2 m4;obtain⟨⟨nd,c,kk,g1,g2,g3,g4,g5⟩,g6⟩:=d2;obtain rfl:m=c:=dS
    obtain⟨o1,o2,o3,o4,o5⟩:=t;have e1:o4=(m:Int):=e1;subst e1;obtain⟨v1,v2,v3,v4,v5⟩:=mh (depth:=depth) (p:=q.2) (i:=x) (k:=m) e2 dS dS dS;have hch:jT (value l (Rw.eF l) depth q.2 (m:Int) x).1.s.t d (⟨o1,o2,o3,(m:Int),(value l (Rw.eF l) depth q.2 (m:Int) x).2⟩::k):=
     jT.keep (st:=⟨o1,o2,o3,(m:Int),(value l (Rw.eF l) depth q.2 (m:Int) x).2⟩::k) v4 ⟨⟨nd,m,kk,g1,g2,g3,g4,g5⟩,g6⟩
    refine⟨.inr ⟨d,by rw[<-d1];exact v1,hch,zM hch ?_⟩,v3⟩;show vR l B (if(value l (Rw.eF l) depth q.2 (m:Int) x).2=true then o1 else(m:Int)) _ _;split
    ·exact⟨nd,g1,LU v5 (g3.keep v4)⟩
    ·exact⟨m,g2,v5⟩
   ·exact stay
  ·exact stay
theorem Kn{l:List Tk}{B:Bs}{depth:Nat}{p:PS}{r:R}(ht:Rw.jO 0 l)(h:Inv l B p.read p)(hr:lV l r)(hB:B.1<=r.from')(he:p.read<=r.from'):
 Inv l B (row l (Rw.eF l) depth p r).read (row l (Rw.eF l) depth p r)/\(row l (Rw.eF l) depth p r).read<=l.length:=by
 have hlt:=hr.lt;have hle:=hr.le;have h0:Inv l B p.read {p with read:=r.bu}:=h;unfold row;dsimp only;split
 ·rename_i h4;exact aft h0 hr h4 hB he rfl
 ·split
  ·rename_i h5;exact afM ht h0 hr h5 hB he rfl
  ·split
   ·split
    ·rename_i hab;have hge:=kF l r.from' r.bu;have hbl:=gH l r.bu (lo l r.from' r.bu);obtain⟨o1,o2⟩:=uk h0 (i:=lo l r.from' r.bu) dS dS;have:=KI (code:=8) o1 dS (eO _) hab dS dS dS dS;have e2:(gI {p with read:=r.bu} (lo l r.from' r.bu)).read=r.bu:=o2;refine⟨.inr (this.le ?_),?_⟩
     ·show back l r.bu (lo l r.from' r.bu)<=(gI {p with read:=r.bu} (lo l r.from' r.bu)).read;omega
     ·show(gI {p with read:=r.bu} (lo l r.from' r.bu)).read<=_;omega
    ·exact⟨h0.le (by show p.read<=r.bu;omega),hle⟩
   ·exact⟨h0.le (by show p.read<=r.bu;omega),hle⟩
theorem rA{l:List Tk}{B:Bs}{depth:Nat}(ht:Rw.jO 0 l):∀(rs:List R)(p:PS),(∀r∈rs,lV l r/\B.1<=r.from')->Inv l B p.read p->p.read<=l.length->
 Inv l B (iA l (Rw.eF l) depth p rs).read (iA l (Rw.eF l) depth p rs)/\(iA l (Rw.eF l) depth p rs).read<=l.length
 |[],p=>λ_ h hl=>⟨h,hl⟩
 |r::rs,p=>λhrs h hl=>by
  rw[iA];by_cases hr:p.read<=r.from'
  ·rw[dX hr];obtain⟨h1,h2⟩:=Kn (depth:=depth) ht h (hrs r eG).1 (hrs r eG).2 hr;exact rA ht rs _ (λx hx=>hrs x qT) h1 h2
  ·rw[dW hr];exact rA ht rs p (λx hx=>hrs x qT) h hl
theorem oF(l:List Tk)(hl:l.length<=32768):Inv l (0,(start l).s) (start l).read (start l):=by
 refine .inl ⟨rfl,rfl,?_⟩;have hn:fU (l.length:Int)=[⟨1,0,l.length,-1,[],false⟩]:=yT
 have hx:∀(i:Nat)(x:Nd),(fU (l.length:Int))[i]?=some x->x.k=1:=by
  intro i x hx;rw[hn]at hx;cases i with
  |zero=>
   have hx:(⟨1,0,l.length,-1,[],false⟩:Nd)=x:=jJ
   subst hx;rfl
  |succ i=>simp at hx
 exact Fe.Ok.start (aaU _ dS dS) (My _ _ dS dS (by show(0:Int)<=((0:Nat):Int);omega)) (λi x h hk=>by have:=hx i x h;omega) (λx h=>by have:=hx 0 x h;omega)
theorem xN(l:List Tk)(depth:Nat)(ht:Rw.jO 0 l)(hl:l.length<=32768):
 Ck (read l depth).t l.length/\Fe.Lf (read l depth).t/\(∀g,Fe.errs l (read l depth).t g=Fe.told (read l depth).d g)/\(∀x∈(read l depth).d,Fe.W l 0 l.length x):=by
 have h:=(rA (depth:=depth) ht (Rw.eF l) (start l) (λr hr=>⟨rows_ok l r hr,fP _⟩) (oF l hl) (fP _)).1.root;unfold read;refine⟨h.ck,h.lf,λg=>?_,?_⟩
 ·have ht:Fe.errs l _ g+Fe.told (start l).s.d g=Fe.errs l (start l).s.t g+Fe.told _ g:=h.tells g;have h0:Fe.told (start l).s.d g=0:=rfl;have h1:Fe.errs l (start l).s.t g=0:=by
   show Fe.errs l (fU (l.length:Int)) g=0;unfold fU Fe.errs;rw[qH,Dn];rfl
  omega
 ·obtain⟨ds,h1,h2⟩:=h.TI;rw[h1];exact λx hx=>h2 x (by simpa [start]using hx)
end Ps
namespace Pr
open Ar Fl
open Rw (R E)
open Ps (lo PS kindOf OK vR Bs jT kM Ay holder outer lV)
structure Scn(l:List Tk):Prop where
 first:∀r∈Rw.eF l,(r.kind=4↔(raw l r.from'=20\/raw l r.from'=21))
 mark:∀r∈Rw.eF l,∀j,r.from'<j->j<r.bu->raw l j≠20/\raw l j≠21
 idle:∀r∈Rw.eF l,∀a,r.from'<a->lo l a r.bu<r.bu->∀j,a<=j->j<lo l a r.bu->raw l j=3
 tail:∀r∈Rw.eF l,r.bu<l.length->raw l (r.bu-1)=1\/raw l (r.bu-1)=19
structure Rws(l:List Tk):Prop where
 zero:∀r,(Rw.eF l)[0]?=some r->r.from'=0
 next:∀(i:Nat) r r',(Rw.eF l)[i]?=some r->(Rw.eF l)[i+1]?=some r'->r'.from'=r.bu
 last:∀(i:Nat) r,(Rw.eF l)[i]?=some r->i+1=(Rw.eF l).length->r.bu=l.length
theorem MX(l:List Tk):∀(n op fr:Nat),l.length-fr<=n->fr<=l.length->(∀r,(Rw.jq op fr (l.drop fr))[0]?=some r->r.from'=fr)/\
 (∀(i:Nat) r r',(Rw.jq op fr (l.drop fr))[i]?=some r->(Rw.jq op fr (l.drop fr))[i+1]?=some r'->r'.from'=r.bu)/\
 (∀(i:Nat) r,(Rw.jq op fr (l.drop fr))[i]?=some r->i+1=(Rw.jq op fr (l.drop fr)).length->r.bu=l.length)/\(Rw.jq op fr (l.drop fr)=[]->fr=l.length)
 |0,op,fr=>λh hf=>Zl
 |n+1,op,fr=>λh hf=>by
  by_cases hfr:fr<l.length
  ·have hne:l.drop fr≠[]:=λe=>by
    have:=congrArg List.length e;rw[ky,Gi]at this;omega
   rw[Rw.nO _ _ _ hne];have hp:=Rw.oC _ hne;have hle:=Rw.xJ (l.drop fr);rw[ky]at hle;obtain⟨k,hk⟩:=eu (Rw.jm (l.drop fr));rw[hk]at hp hle⊢;rw[nP];obtain⟨g1,g2,g3,g4⟩:=MX l n (Rw.mZ op ((l.drop fr).take k)) (fr+k) dS dS;refine⟨λr h=>?_,λi r r' h h'=>?_,λi r h h'=>?_,λh=>fV⟩
   ·rw[<-iG h]
   ·cases i with
    |zero=>
     rw[<-iG h];rw[Vd]at h';exact g1 r' h'
    |succ i=>
     rw[Vd]at h h';exact g2 i r r' h h'
   ·rw[iR]at h';cases i with
    |zero=>
     rw[<-iG h];exact g4 (l9 dS)
    |succ i=>
     rw[Vd]at h;exact g3 i r h dS
  ·exact Zl
theorem rws(l:List Tk):Rws l:=by
 obtain⟨h1,h2,h3,_⟩:=MX l l.length 0 0 dS dS;rw[lM]at h1 h2 h3;exact⟨h1,h2,h3⟩
theorem Ur{l:List Tk}(h:Rws l):∀(d i:Nat)(r r':R),(Rw.eF l)[i]?=some r->(Rw.eF l)[i+1+d]?=some r'->r.bu<=r'.from'
 |0,i,r,r'=>λh1 h2=>by rw[h.next i r r' h1 h2];exact eO _
 |d+1,i,r,r'=>λh1 h2=>by
  have hl:=(eY.1 h2).1;obtain⟨x,hx⟩:∃x,(Rw.eF l)[i+1+d]?=some x:=⟨_,fu dS⟩
  have h3:=Ur h d i r x h1 hx;have h4:=h.next (i+1+d) x r' hx h2;have h5:=(Ps.rows_ok l x (gW hx)).lt;omega
theorem yg{l:List Tk}(h:Rws l){i j:Nat}{r r':R}(h1:(Rw.eF l)[i]?=some r)(h2:(Rw.eF l)[j]?=some r')(hij:i<j):r.bu<=r'.from' :=
 Ur h (j-(i+1)) i r r' h1 (by rw[show i+1+(j-(i+1))=j by omega];exact h2)
theorem oz{rs:List R}{i:Nat}{r:R}(h:rs[i]?=some r):uM rs i=r.bu:=by unfold uM;rw[h]
theorem CW{l:List Tk}{i next:Nat}{r:R}(hr:(Rw.eF l)[i]?=some r)(hn:next<=l.length):
 ∃(j:Nat)(r':R),skip (Rw.eF l) i next=j/\i<=j/\(Rw.eF l)[j]?=some r'/\next<=r'.bu/\(∀k,i<=k->k<j->uM (Rw.eF l) k<next):=by
 have hi:=(eY.1 hr).1;obtain⟨N,hN⟩:=eu ((Rw.eF l).length);rw[hN]at hi;have h1:=kH (λi=>decide (uM (Rw.eF l) i<next)) (N-i) i;have h2:=lq (λi=>decide (uM (Rw.eF l) i<next)) (N-i) i;have h3:=ma (λi=>decide (uM (Rw.eF l) i<next)) (N-i) i;have h4:=kP (λi=>decide (uM (Rw.eF l) i<next)) (N-i) i;unfold skip;rw[hN];obtain⟨j,hj⟩:=eu (iy (λi=>decide (uM (Rw.eF l) i<next)) (N-i) i);rw[hj]at h1 h2 h3 h4⊢;have aa:j<N:=by
  rcases mD j N with h|h
  ·exact h
  ·exfalso;obtain⟨x,hx⟩:∃x,(Rw.eF l)[N-1]?=some x:=⟨_,fu dS⟩
   have h5:=h4 (N-1) dS dS;rw[oz hx,(rws l).last (N-1) x hx dS]at h5;simp at h5;omega
 obtain⟨x,hx⟩:∃x,(Rw.eF l)[j]?=some x:=⟨_,fu dS⟩
 refine⟨j,x,rfl,h1,hx,?_,λk g1 g2=>by simpa using h4 k g1 g2⟩;rcases h3 with h3|h3
 ·omega
 ·rw[oz hx]at h3
  simpa using h3
theorem MY{l:List Tk}{j next:Nat}{r:R}{none':Bool}(hr:(Rw.eF l)[j]?=some r)(h1:(decide (r.bu<next)||(none' &&r.bu==next))=false)(h2:∀k x,k<j->(Rw.eF l)[k]?=some x->(decide (x.bu<next)||(none' &&x.bu==next))=true):Ps.oU (Rw.eF l) next none'=r.bu:=by
 obtain⟨hj,hr'⟩:=eY.1 hr;have e:(Rw.eF l).find? (λr=>!(decide (r.bu<next)||(none' &&r.bu==next)))=some r:=by
  rw[List.find?_eq_some_iff_getElem];refine⟨by rw[h1];rfl,j,hj,hr',λk hk=>?_⟩;rw[h2 k _ hk (fu dS)];rfl
 unfold Ps.oU;rw[e]
theorem xO{l:List Tk}{a b:Nat}(h:a<=b)(hb:b<=l.length)(hm:∀j,a<=j->j<b->raw l j≠20/\raw l j≠21):Ps.limit l a=Ps.limit l b:=by
 unfold Ps.limit;exact abh _ h hb (λj g1 g2=>by have:=hm j g1 g2;simp[this])
theorem Ko(l:List Tk){i:Nat}(hi:i<=l.length):i<=Ps.limit l i/\Ps.limit l i<=l.length:=by
 have h1:=kH (λj=>raw l j !=20&&raw l j !=21) (l.length-i) i;have h2:=lq (λj=>raw l j !=20&&raw l j !=21) (l.length-i) i;unfold Ps.limit;omega
theorem ajd(l:List Tk){i j:Nat}(h1:i<=j)(h2:j<Ps.limit l i):raw l j≠20/\raw l j≠21:=by
 have:=kP (λj=>raw l j !=20&&raw l j !=21) (l.length-i) i j h1 h2
 simpa using this
theorem We{l:List Tk}{e d a x:Nat}{up:Int}{s:St}(hax:a<=x)(hxe:x<=e)(hb:∀j,a<=j->j<x->raw l j=3):
 gP l e d up a s=gP l e d up x s\/(gP l e d up a s=(-1,a,s)/\gP l e d up x s=(-1,x,s)):=by
 have hbl:blanks l e a=blanks l e x:=by
  unfold blanks;exact abh _ hax hxe (λj g1 g2=>by simp[hb j g1 g2])
 have hf:e-blanks l e a=e-blanks l e x:=by rw[hbl]
 have key:∀eT,oJ l e eT up a s=oJ l e eT up x s\/(oJ l e eT up a s=(-1,a,s)/\oJ l e eT up x s=(-1,x,s)):=by
  intro eT;unfold oJ;rw[hbl];dsimp only;obtain⟨o,ho⟩:=eu (lead l e (e-blanks l e x) none (blanks l e x));rw[ho];obtain⟨o,i⟩:=o;dsimp only;by_cases h1:kd l e i=13
  ·left;rw[dX h1,dX h1]
  rw[dW h1,dW h1];by_cases h2:gX (kd l e i)=true
  ·left;rw[dX h2,dX h2]
  rw[dW h2,dW h2];by_cases h3:kd l e i=18
  ·left;rw[dX h3,dX h3]
  rw[dW h3,dW h3];by_cases h4:opens (kd l e i)=true
  ·left;rw[dX h4,dX h4]
  rw[dW h4,dW h4];cases o with
  |some y=>left;rfl
  |none=>right;exact⟨rfl,rfl⟩
 cases d with
 |zero=>exact key none
 |succ d=>exact key _
theorem acD{l:List Tk}{e d a b:Nat}{up:Int}{s:St}(hae:a<=e)(hel:e<=l.length)(hab:a<=b)(hn:∀j,a<=j->j<b->cnt (raw l j)=false)(hend:b=l.length\/(a<b/\raw l (b-1)=1)):
 gP l e d up a s=(-1,a,s):=by
 obtain⟨j,hj⟩:=eu (blanks l e a);have h1:=kH (λj=>raw l j==3) (e-a) a;have h2:=lq (λj=>raw l j==3) (e-a) a;have h3:=kP (λj=>raw l j==3) (e-a) a;unfold blanks at hj;rw[hj]at h1 h2 h3;have hk:kd l e j=0\/(kd l e j=raw l j/\cnt (raw l j)=false):=by
  unfold kd;by_cases hc:e<=j\/raw l j=20\/raw l j=21
  ·left;rw[dX hc]
  ·rw[dW hc];right;refine⟨rfl,hn j h1 ?_⟩;rcases hend with hb|⟨hb1,hb2⟩
   ·omega
   ·rcases mD j b with h|h
    ·exact h
    ·have:=h3 (b-1) dS dS;rw[hb2]at this;cases this
 have hcases:kd l e j=0\/kd l e j=1\/kd l e j=2\/kd l e j=3\/kd l e j=4:=by
  rcases hk with hk|⟨hk,hc⟩
  ·exact .inl hk
  ·rw[hk];unfold cnt at hc;simp at hc;omega
 have hp:gG (kd l e j)=false:=PX
 have hs:gX (kd l e j)=false:=PX
 have ho:opens (kd l e j)=false:=PX
 have hl:=EH (l:=l) (e:=e) (i:=j) (f:=e-j) hp;have key:∀eT,oJ l e eT up a s=(-1,a,s):=by
  intro eT;unfold oJ;have hb:blanks l e a=j:=hj;rw[hb,hl];dsimp only;rw[dW dS,dW yP,dW dS,dW (by rw[ho];simp)]
 cases d with
 |zero=>exact key none
 |succ d=>exact key _
theorem HS.le{up:Nat}{v v':Int}{a b:List Nd}(h:HS up v a b)(hv:v<=v'):HS up v' a b:=⟨h.len,λz hz=>h.eq z dS⟩
structure Read(l:List Tk)(q q':QS)(p':PS)(full:Bool)(hd:Lv)(tl:List Lv):Prop where
 s:q'.s=p'.s
 st:q'.st={hd with full:=full}::tl
 en:q'.en=q.en
 row:q.row<=q'.row/\∃r',(Rw.eF l)[q'.row]?=some r'/\r'.bu=p'.read
 lim:Ps.limit l p'.read=q.en
theorem aje{s:St}{t:List Nd}{d:List Dg}(h1:t=s.t)(h2:d=s.d):(⟨t,d⟩:St)=s:=by cases s;subst h1 h2;rfl
theorem EP{l:List Tk}{B:Bs}{up e a b:Nat}{s:St}{t:List Nd}(h:OK l B up e s)(hs:∀z,((lo l a b+1:Nat):Int)<=z->hold t up z=hold s.t up z)(ht:b<=lo l a b->t=s.t)(he:e<=lo l a b)(hab:a<=b)(hb:b<=l.length):
 fault l ⟨t,s.d⟩ up 8 a b=Ps.mR l s up (lo l a b) (back l b (lo l a b)) 8:=by
 have hge:=Ps.kF l a b;unfold fault Ps.mR;dsimp only;by_cases hlt:lo l a b<b
 ·have hcn:=Ps.qh l hlt;have hbg:=Ps.ow l b (lo l a b) (lo l a b) (eO _) hlt hcn;have hbl:=gH l b (lo l a b);rw[dX hlt,dX hbg,Ug h dS dS dS];unfold add;rw[hs _ dS]
 ·have hle:=Ps.lo_le l hab;have e1:lo l a b=b:=by omega
  have hbl:=gH l b (lo l a b);rw[dW hlt,dW dS];exact aje (ht dS) rfl
theorem zO{l:List Tk}{x b:Nat}(h:cnt (raw l x)=true)(hx:x<=b):lo l x b=x:=by
 unfold Ps.lo;exact Bi _ _ _ _ (eO _) dS (λj a b=>dS) (.inr (by rw[h];rfl))
theorem Ht{rs:List R}{i next:Nat}(h:next<=uM rs i):skip rs i next=i:=by
 unfold skip;exact Bi _ _ _ _ (eO _) dS (λj a b=>dS) (.inr eQ)
theorem vz{l:List Tk}{B:Bs}{k:Nat}{r:R}{i a x depth:Nat}{q:QS}{p:PS}{hd:Lv}{tl:List Lv}(hS:Scn l)(hrow:(Rw.eF l)[q.row]?=some r)(hl:l.length<=32768)
 (hst:q.st=hd::tl) (qp:hd.cur=k) (hfull:hd.full=false) (htl:tl.length=p.st.length) (hd1:q.s.d=p.s.d) (hs:HS k ((i+1:Nat):Int) q.s.t p.s.t) (hok:OK l B k i p.s) (hB:B.1<=i)
 (hen:q.en=Ps.limit l x) (hra:r.from'<=a) (hax:lo l a r.bu=x) (ah:x<r.bu) (hix:i<=x) (hbl:∀j,a<=j->j<x->raw l j=3) (hmk:∀j,a<=j->j<r.bu->raw l j≠20/\raw l j≠21):
 Read l q (value l (Rw.eF l) depth q a) (Ps.value l (Rw.eF l) depth p k x).1 (Ps.value l (Rw.eF l) depth p k x).2 hd tl:=by
 subst qp;have hro:=Ps.rows_ok l r (gW hrow);have ae:=hro.le;have af:=Ps.kF l a r.bu;have hcn:=Ps.qh l (a:=a) (b:=r.bu) (by rw[hax];exact ah);rw[hax]at af hcn;have hxs:=zO hcn (pJ ah);have hlim:=Ko l (i:=x) dS;have hval:=acr (l:=l) (n:=l.length) (e:=Ps.limit l x) (dd:=depth-p.st.length) (i:=x) (up:=hd.cur) (s:=p.s) hok.ck (hok.fits.le dS dS) hlim.1 hlim.2 hl;have hva:=Fe.zL l (Ps.limit l x) l.length dS (depth-p.st.length) hd.cur x p.s i hok.ck (hok.fits.le dS (jk _)) hok.lf hok.no dS hlim.1;have hbv:=We (l:=l) (e:=Ps.limit l x) (d:=depth-p.st.length) (a:=a) (x:=x) (up:=0) (s:=⟨fU l.length,[]⟩) af hlim.1 hbl;have hbef:∀(j:Nat)(y:R),j<q.row->(Rw.eF l)[j]?=some y->y.bu<=r.from':=λj y g1 g2=>yg (rws l) g2 hrow g1
 unfold value;rw[hst];dsimp only;rw[hen,htl];unfold Ps.value;dsimp only;rcases hval with⟨v1,v2⟩|⟨next,s',v,vq,V,v1,v2,v3,v4,v5,v6,v7,v8⟩
 ·obtain⟨n0,hn0,hv0⟩:∃n0,(n0=a\/n0=x)/\gP l (Ps.limit l x) (depth-p.st.length) 0 a ⟨fU l.length,[]⟩=(-1,n0,⟨fU l.length,[]⟩):=by
   rcases hbv with h|⟨h,_⟩
   ·exact⟨x,.inr rfl,by rw[h,v2]⟩
   ·exact⟨a,.inl rfl,h⟩
  have ai:lo l n0 r.bu=x:=by rcases hn0 with rfl|rfl<;>assumption
  have ag:n0<=r.bu:=by rcases hn0 with rfl|rfl<;>omega
  rw[hv0,v1];dsimp only;rw[Ht (by rw[oz hrow];exact ag),oz hrow,dX (by omega:((-1:Int)<0)),show decide ((-1:Int)<0)=true from rfl,show decide (0<=(-1:Int))=false from rfl];have hto:Ps.oU (Rw.eF l) x true=r.bu:=MY hrow eQ (λj y g1 g2=>by have:=hbef j y g1 g2;simp;omega);unfold Ps.rest;dsimp only;rw[hto,hxs];refine⟨?_,by dsimp only;rw[dX rfl,hfull],hen.symm,⟨eO _,r,hrow,rfl⟩,?_⟩
  ·dsimp only;rw[dX rfl,nJ,hd1,<-ai];exact EP hok (λz hz=>hs.eq z dS) (λh=>dS) dS ag ae
  ·dsimp only;rw[hen];exact(xO dS ae (λj g1 g2=>hmk j dS g2)).symm
 ·have hv0:gP l (Ps.limit l x) (depth-p.st.length) 0 a ⟨fU l.length,[]⟩=(1,next,V):=by
   rcases hbv with h|⟨_,h⟩
   ·rw[h,v2]
   ·rw[v2]at h;have:=congrArg Prod.fst h;dsimp only at this;omega
  have hok':OK l B hd.cur next s':=by
   rcases hva with⟨w1,_⟩|⟨next',aj,w1,w2,w3,_,w5⟩
   ·rw[v1]at w1;have:=congrArg Prod.fst w1;dsimp only at this;omega
   ·rw[v1]at w1;obtain⟨_,w1⟩:=LK w1;obtain⟨rfl,rfl⟩:=LK w1;exact hok.trans (w5.low dS)
  obtain⟨j,r',s1,s2,s3,s4,s5⟩:=CW hrow (next:=next) dS;have aa:=(Ps.rows_ok l r' (gW s3)).le;have hfr:r'.from'<next:=by
   by_cases e:q.row=j
   ·subst e;rw[hrow]at s3;obtain rfl:=iG s3;omega
   ·obtain⟨y,hy⟩:∃y,(Rw.eF l)[j-1]?=some y:=⟨_,fu (by have:=(eY.1 s3).1;omega)⟩
    have h1:=s5 (j-1) dS dS;rw[oz hy]at h1;rw[(rws l).next (j-1) y r' hy (by rw[show j-1+1=j by omega];exact s3)];exact h1
  rw[hv0,v1];dsimp only;rw[s1,oz s3,dW (by omega:¬(((p.s.t.length:Nat):Int)<0)),show decide (((p.s.t.length:Nat):Int)<0)=false from ic dS,show decide (0<=((p.s.t.length:Nat):Int))=true from kD dS,aeC dS]
  have hto:Ps.oU (Rw.eF l) next false=r'.bu:=MY s3 eQ (λi y g1 g2=>by
   have:y.bu<next:=by
    rcases mD i q.row with h|h
    ·have:=hbef i y h g2;omega
    ·have:=s5 i h g1;rw[oz g2]at this;exact this
   simp;omega)
  unfold Ps.rest;dsimp only;rw[hto,dW (by omega:¬((1:Int)=-1)),dW (by omega:¬((1:Int)=-1)),show((1:Int)).toNat=1 from rfl,v5,v8 hd.cur q.s.t (hs.le dS) rfl,<-v6,hd1,<-v7];refine⟨?_,rfl,hen.symm,⟨s2,r',s3,rfl⟩,?_⟩
  ·exact EP hok' (λz hz=>rfl) (λh=>rfl) (Ps.kF l next r'.bu) s4 aa
  ·dsimp only;rw[hen];refine(xO dS aa (λm g1 g2=>?_)).symm;rcases mD m next with h|h
   ·exact ajd l g1 dS
   ·exact hS.mark r' (gW s3) m dS g2
theorem FJ{l:List Tk}{r:R}{a depth:Nat}{q:QS}{hd:Lv}{tl:List Lv}(hS:Scn l)(hrow:(Rw.eF l)[q.row]?=some r)(hst:q.st=hd::tl)(hen:q.en=Ps.limit l a)(hal:a<=r.bu)(hlo:lo l a r.bu=r.bu)(hlast:a<r.bu\/r.bu=l.length):
 value l (Rw.eF l) depth q a=q:=by
 have hro:=Ps.rows_ok l r (gW hrow);have aa:=hro.le;have hlim:=Ko l (i:=a) dS;have hno:∀j,a<=j->j<r.bu->cnt (raw l j)=false:=λj g1 g2=>by
  have h:=kP (λj=>!cnt (raw l j)) (r.bu-a) a j g1 (by unfold Ps.lo at hlo;omega)
  simpa using h
 have hv:=acD (l:=l) (e:=Ps.limit l a) (d:=depth-tl.length) (a:=a) (b:=r.bu) (up:=0) (s:=⟨fU l.length,[]⟩) hlim.1 hlim.2 hal hno (by
  rcases hlast with h|h
  ·by_cases e:r.bu=l.length
   ·exact .inl e
   ·right;refine⟨h,?_⟩;rcases hS.tail r (gW hrow) dS with g|g
    ·exact g
    ·have:=hno (r.bu-1) dS dS;rw[g]at this;cases this
  ·exact .inl h)
 unfold value;rw[hst];dsimp only;rw[hen,hv];dsimp only;rw[Ht (by rw[oz hrow];exact hal),oz hrow,dX rfl,dX rfl,nJ];unfold fault;dsimp only;rw[hlo,dW (vU _),<-hen,<-hst]
end Pr
end Go.Proofs.YtmkkdjpebbdikaaGreatDoor

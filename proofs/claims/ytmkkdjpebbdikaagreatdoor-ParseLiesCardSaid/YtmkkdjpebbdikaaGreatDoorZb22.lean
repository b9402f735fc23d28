import Derived.Test.YtmkkdjpebbdikaaGreatDoorZb12
import Derived.Test.YtmkkdjpebbdikaaGreatDoorZb17
import Derived.Test.YtmkkdjpebbdikaaGreatDoorZb20
set_option linter.all false
set_option maxHeartbeats 16000000
set_option maxRecDepth 100000
namespace Go.Proofs.YtmkkdjpebbdikaaGreatDoor
open Go.RowKit Tryz
section
open Go.RowKit
open Sq
open Ar
theorem FL{α:Type}{E:mW α}{w:World}{B e g N cap:Nat}{L:List α}(h:w.ownsRow B e E.k (.slice (some ⟨g,0,none⟩) N cap) L.length (E.all L)){n:Nat}(hn:n<=L.length):
 w.ownsRow B e E.k (.slice (some ⟨g,0,none⟩) n cap) (L.take n).length (E.all (L.take n)):=by
 obtain⟨h1,h2⟩:=h;have hlt:(L.take n).length=n:=nX
 rcases h2 with⟨h2,_⟩|⟨g',cap',cur,hv,hg,hh,hN,hcp,hcs,ht⟩
 ·cases h2
 ·obtain⟨e1,e2,e3⟩:=lX hv;injection e1 with e1
  injection e1 with e1
  subst e1 e3;refine⟨lD E _,.inr ⟨g,cap,cur,by rw[hlt],hg,hh,by rw[hlt];omega,hcp,hcs,?_⟩⟩;rw[hlt,<-ab4 E L n,<-ht,List.take_take];congr 1;have:=O4 E.k hn;omega
section
variable {w w':World}{B:Nat}{v:Value}{L:List Ln}
theorem OT.Rm{kg kn kc:Nat}(h:OT w B v L)(i j:Nat)(p:Ln)(hp:L[i]?=some p)(hv:p.val=.slice (some ⟨kg,0,none⟩) kn kc)(z z':Int)(hz:p.nd.ks[j]?=some z):
 OT (w.setCell ⟨kg,j,none⟩ (.int .i64 z')) B v (L.set i {p with nd:={p.nd with ks:=p.nd.ks.set j z' }}):=by
 have hpk:=h.kids i p hp;rw[hv]at hpk;have hset:=ou (E:=encI) hpk j 0 z z' (.int .i64 z') hz rfl dU;have hj0:j*encI.k+0=j:=Js
 rw[hj0]at hset;have hall:fZ.all (L.set i {p with nd:={p.nd with ks:=p.nd.ks.set j z' }})=fZ.all L:=by
  have gen:∀(L:List Ln)(i:Nat),L[i]?=some p->fZ.all (L.set i {p with nd:={p.nd with ks:=p.nd.ks.set j z' }})=fZ.all L:=by
   intro L
   induction L with
   |nil=>intro i h;simp at h
   |cons q r ih=>
    intro i h;cases i with
    |zero=>
     obtain rfl:q=p:=kU
     rfl
    |succ i=>
     show fZ.all (q::r.set i _)=_;rw[mW.all,mW.all,ih i kU]
  exact gen L i hp
 refine⟨?_,λa q hq=>?_,λa b q r hab hq hr g hg=>?_⟩
 ·rw[hall,nQ];exact Dw h.row (λe=>eX hpk h.row dU kg rfl e) _
 ·exact YZ
 ·have key:∀(a:Nat)(q:Ln),(L.set i {p with nd:={p.nd with ks:=p.nd.ks.set j z' }})[a]?=some q->∃q',L[a]?=some q'/\q.val=q'.val:=Za
  obtain⟨q',h1,h2⟩:=key a q hq;obtain⟨r',h3,h4⟩:=key b r hr;rw[h2]at hg;rw[h4];exact h.apart a b q' r' hab h1 h3 g hg
def tX(at':Int)(p:Ln):Ln:={p with nd:={p.nd with u:=p.nd.u+at',ks:=p.nd.ks.map (·+at')}}
def lZ(at':Int)(i:Nat)(L:List Ln):List Ln:=L.mapIdx (λk p=>if k<i then tX at' p else p)
theorem kZ(at':Int)(i:Nat)(L:List Ln):(lZ at' i L).length=L.length:=by simp[lZ]
theorem sI(at':Int)(i:Nat)(L:List Ln)(k:Nat)(p:Ln)(h:L[k]?=some p):(lZ at' i L)[k]?=some (if k<i then tX at' p else p):=by
 unfold lZ;rw[aeo,h];rfl
theorem Ib(at':Int)(L:List Ln):lZ at' 0 L=L:=by
 refine r9 (λk=>?_);unfold lZ;rw[aeo];cases h:L[k]? with
 |none=>rfl
 |some p=>simp
theorem Vq(at':Int)(i:Nat)(L:List Ln)(p:Ln)(h:L[i]?=some p):(lZ at' i L).set i (tX at' p)=lZ at' (i+1) L:=by
 have hi:=(eY.1 h).1;refine r9 (λk=>?_);by_cases e:k=i
 ·subst e;rw[yE (by rw[kZ];exact hi),sI _ _ _ _ _ h,dX dS]
 ·rw[zu (λh=>e h.symm)];cases hk:L[k]? with
  |none=>
   rw[sZ (by rw[kZ];exact AA.1 hk),sZ (by rw[kZ];exact AA.1 hk)]
  |some q=>
   rw[sI _ _ _ _ _ hk,sI _ _ _ _ _ hk];by_cases h2:k<i
   ·rw[dX h2,dX dS]
   ·rw[dW h2,dW dS]
def nT(at':Int)(j:Nat)(p:Ln):Ln:={p with nd:={p.nd with u:=p.nd.u+at',ks:=(p.nd.ks.take j).map (·+at')++p.nd.ks.drop j}}
theorem mid_zero(at':Int)(p:Ln):nT at' 0 p={p with nd:={p.nd with u:=p.nd.u+at' }}:=by unfold nT;simp
theorem ae5(at':Int)(p:Ln):nT at' p.nd.ks.length p=tX at' p:=by unfold nT tX;simp
theorem Nf(at':Int)(j:Nat)(p:Ln)(z:Int)(h:p.nd.ks[j]?=some z):{nT at' j p with nd:={(nT at' j p).nd with ks:=(nT at' j p).nd.ks.set j (z+at')}}=nT at' (j+1) p:=by
 have hj:=(eY.1 h).1;have e:(((p.nd.ks.take j).map (·+at')++p.nd.ks.drop j).set j (z+at'))=(p.nd.ks.take (j+1)).map (·+at')++p.nd.ks.drop (j+1):=by
  have hl:((p.nd.ks.take j).map (·+at')).length=j:=by rw[jl,mX];omega
  rw[LH _ _ dS,hl,si,xz hj,fB,Dq,h];simp
 unfold nT;dsimp only;rw[e]
theorem C4(at':Int)(j:Nat)(p:Ln)(z:Int)(h:p.nd.ks[j]?=some z):(nT at' j p).nd.ks[j]?=some z:=by
 have hj:=(eY.1 h).1;have hl:((p.nd.ks.take j).map (·+at')).length=j:=by rw[jl,mX];omega
 unfold nT;dsimp only;rw[oH dS,hl,si,sW,oW,h]
theorem Ux(at':Int)(j:Nat)(p:Ln):(nT at' j p).nd.ks.length=p.nd.ks.length:=by
 unfold nT;dsimp only;rw[iK,jl,mX,ky];omega
theorem FM(up:Int)(B:Nat)(L:List Ln)(p:Ln)(h:L[0]?=some p):((lZ (B:Int) L.length L).set 0 {tX (B:Int) p with nd:={(tX (B:Int) p).nd with u:=up}}).map Ln.nd=Fl.shift up B (L.map Ln.nd):=by
 have h0:=(eY.1 h).1;refine r9 (λk=>?_);rw[kS];by_cases e:k=0
 ·subst e;rw[yE (by rw[kZ];exact h0)];have hx:(L.map Ln.nd)[0]?=some p.nd:=by rw[kS,h];rfl
  rw[Fl.mf _ _ _ _ _ hx,dX rfl];rfl
 ·rw[zu (λh=>e h.symm)];cases hk:L[k]? with
  |none=>
   have h1:=AA.1 hk;rw[sZ (by rw[kZ];exact h1),sZ (by rw[Fl.jL,jl];exact h1)];rfl
  |some q=>
   have hlt:=(eY.1 hk).1;have hx:(L.map Ln.nd)[k]?=some q.nd:=by rw[kS,hk];rfl
   rw[sI _ _ _ _ _ hk,dX hlt,Fl.mf _ _ _ _ _ hx,dW e];rfl
theorem PT.low(h:PT w B v L)(hk:∀g,B<=g->w'.heap[g]?=w.heap[g]?):PT w' B v L:=by
 refine⟨fE h.row (λg hg=>hk g (h.row.lt g hg).1),λp hp=>?_⟩;obtain⟨h1,h2⟩:=h.kids p hp;refine⟨zX h1 (λad had o x hx _ _=>?_),λad had=>⟨(h2 ad had).1,?_⟩⟩
 ·rw[XX (a:=⟨ad.block,o,none⟩) (hk _ (h2 ad had).1)];exact hx
 ·obtain⟨cs,fr,h3⟩:=(h2 ad had).2;exact⟨cs,fr,(hk _ (h2 ad had).1).trans h3⟩
theorem OT.box(h:OT w B v L){g:Nat}{C:Array Value}{t:TypeId}{fr:Nat×Nat}(hh:w.heap[g]?=some (.cells C t fr))(ht:3≠t)(ht2:38≠t)(o:Nat)(u:Value):OT (w.setCell ⟨g,o,none⟩ u) B v L:=by
 have st:∀k,k≠g->(w.setCell ⟨g,o,none⟩ u).heap[k]?=w.heap[k]?:=λk hk=>jo _ _ _ _ hk
 exact⟨fE h.row (λk hk=>st k (λe=>eU h.row hh ht2 (e▸hk))),λi p hp=>fE (h.kids i p hp) (λk hk=>st k (λe=>eU (h.kids i p hp) hh ht (e▸hk))),h.apart⟩
theorem Sm{w9:World}{Bp:Nat}{U:Value}{Lp L':List Ln}{M:Nat}{v9:Value}(hP:PT w Bp U Lp)(hO:OT w B v L')(hrow:w9.ownsRow Bp 38 6 v9 (Lp.take M++L').length (fZ.all (Lp.take M++L')))(hg:w.grownBy w9 U.ownBlock):iC w9 v9 ((Lp.take M++L').map Ln.nd):=by
 refine⟨_,rfl,Reads.fo (E:=fZ) hrow,λp hp=>?_⟩;rw[kC]at hp;rcases hp with hp|hp
 ·exact((hP.kids p (Gl hp)).keep (xh hP.row hg)).reads
 ·obtain⟨i,hi⟩:=jy hp;exact Reads.fo (E:=encI) ((hO.kids i p hi).kept hg (nE (eX hP.row (hO.kids i p hi) dU)))
end
structure PL(w wr:World)(NR:Nat->Prop)(B Bp Br g gu M N cap uc:Nat)(LL Lp:List Ln):Prop where
 ot:OT wr B (.slice (some ⟨g,0,none⟩) N cap) LL
 pt:PT wr Bp (.slice (some ⟨gu,0,none⟩) (M+1) uc) Lp
 box:wr.heap[Br]?=some (.cells #[.slice (some ⟨gu,0,none⟩) (M+1) uc] 31 (0,0))
 kL:Below B w wr
 keep:∀k,k<w.heap.size->¬NR k->wr.heap[k]?=w.heap[k]?
section
variable {w wr:World}{NR:Nat->Prop}{B Bp Br g gu M N cap uc:Nat}{LL Lp:List Ln}
theorem PL.X6(h:PL w wr NR B Bp Br g gu M N cap uc LL Lp)(i:Nat)(p:Ln)(hp:LL[i]?=some p)(u:Int)(hg:g<Bp)(hn:NR g):PL w (wr.setCell ⟨g,i*6+3,none⟩ (.int .i64 u)) NR B Bp Br g gu M N cap uc (LL.set i {p with nd:={p.nd with u:=u}}) Lp:=by
 have hne:Br≠g:=λe=>eU h.ot.row h.box dU (by rw[e];rfl)
 exact⟨h.ot.set i 3 p {p.nd with u:=u} _ hp rfl rfl dU,h.pt.low (λk hk=>jo _ _ _ _ (λe=>by have e:k=g:=e;omega)),(jo _ _ _ _ hne).trans h.box,h.kL.setCell (p:=⟨g,i*6+3,none⟩) (h.ot.row.lt g rfl).1 _,λk hk hr=>(jo _ _ _ _ (λe=>hr (by have e:k=g:=e;rw[e];exact hn))).trans (h.keep k hk hr)⟩
theorem PL.aik(h:PL w wr NR B Bp Br g gu M N cap uc LL Lp)(i j kg kn kc:Nat)(p:Ln)(hp:LL[i]?=some p)(hv:p.val=.slice (some ⟨kg,0,none⟩) kn kc)(z z':Int)(hz:p.nd.ks[j]?=some z)(hg:kg<Bp)(hn:NR kg):PL w (wr.setCell ⟨kg,j,none⟩ (.int .i64 z')) NR B Bp Br g gu M N cap uc (LL.set i {p with nd:={p.nd with ks:=p.nd.ks.set j z' }}) Lp:=by
 have hpk:=h.ot.kids i p hp;have hne:Br≠kg:=λe=>eU hpk h.box dU (by rw[hv,e];rfl)
 exact⟨h.ot.Rm i j p hp hv z z' hz,h.pt.low (λk hk=>jo _ _ _ _ (λe=>by have e:k=kg:=e;omega)),(jo _ _ _ _ hne).trans h.box,h.kL.setCell (p:=⟨kg,j,none⟩) (hpk.lt kg DZ).1 _,λk hk hr=>(jo _ _ _ _ (λe=>hr (by have e:k=kg:=e;rw[e];exact hn))).trans (h.keep k hk hr)⟩
theorem PL.cell(h:PL w wr NR B Bp Br g gu M N cap uc LL Lp)(i:Nat)(p:Ln)(hp:LL[i]?=some p)(k:Nat)(u:Value)(hu:(l8 p)[k]?=some u):wr.cell? ⟨g,i*6+k,none⟩=some u:=by
 have aa:k<6:=(eY.1 hu).1
 have:=h.ot.row.cells (g:=g) rfl _ _ ((iJ fZ LL i p hp k aa).trans hu);rw[fT,jY]at this;exact this
theorem PL.free(h:PL w wr NR B Bp Br g gu M N cap uc LL Lp)(h0:0<LL.length)(o:Nat):wr.frozen? ⟨g,o,none⟩=false:=by
 obtain⟨g',c',hv,_,hf,_⟩:=jf h.ot.row h0;have e:=(lX hv).1;injection e with e
 injection e with e
 rw[e];exact hf o
theorem PL.kid(h:PL w wr NR B Bp Br g gu M N cap uc LL Lp)(i:Nat)(p:Ln)(hp:LL[i]?=some p)(j:Nat)(z:Int)(hz:p.nd.ks[j]?=some z):
 ∃kg kc,p.val=.slice (some ⟨kg,0,none⟩) p.nd.ks.length kc/\wr.cell? ⟨kg,j,none⟩=some (.int .i64 z)/\wr.frozen? ⟨kg,j,none⟩=false:=by
 have hpk:=h.ot.kids i p hp;have hj:=(eY.1 hz).1;obtain⟨kg,kc,hv,_,hf,_⟩:=jf (E:=encI) hpk dS;refine⟨kg,kc,hv,?_,hf j⟩;have:=hpk.cells (g:=kg) DZ _ _ ((iJ encI p.nd.ks j z hz 0 dU).trans rfl);rw[fT,jY]at this;have e:j*encI.k+0=j:=Js
 rw[e]at this;exact this
end
theorem vg{w:World}{B B' e s n:Nat}{v:Value}{xs:List Value}(h:w.ownsRow B e s v n xs)(hB:B'<=B):w.ownsRow B' e s v n xs:=by
 obtain⟨h1,h2⟩:=h;refine⟨h1,?_⟩;rcases h2 with h2|⟨g,cap,cur,hv,hg,hr⟩
 ·exact .inl h2
 ·exact .inr ⟨g,cap,cur,hv,iU hB hg,hr⟩
structure VT(w:World)(B:Nat)(v:Value)(P L:List Ln):Prop where
 row:w.ownsRow B 38 6 v (P++L).length (fZ.all (P++L))
 kids:∀(i:Nat)(p:Ln),L[i]?=some p->w.ownsRow B 3 1 p.val p.nd.ks.length (encI.all p.nd.ks)
 apart:∀(i j:Nat)(p q:Ln),i≠j->L[i]?=some p->L[j]?=some q->∀g,p.val.ownBlock=some g->q.val.ownBlock≠some g
section
variable {w w':World}{B:Nat}{v:Value}{P L:List Ln}
theorem VT.same(h:VT w B v P L)(hk:∀g,(v.ownBlock=some g\/∃p∈L,p.val.ownBlock=some g)->w'.heap[g]?=w.heap[g]?):VT w' B v P L:=
 ⟨fE h.row (λg hg=>hk g (.inl hg)),λi p hp=>fE (h.kids i p hp) (λg hg=>hk g (.inr ⟨p,gW hp,hg⟩)),h.apart⟩
theorem VT.lt(h:VT w B v P L){g:Nat}(hg:v.ownBlock=some g\/∃p∈L,p.val.ownBlock=some g):B<=g/\g<w.heap.size:=by
 rcases hg with hg|⟨p,hp,hg⟩
 ·exact h.row.lt g hg
 ·obtain⟨i,hi⟩:=jy hp;exact(h.kids i p hi).lt g hg
theorem VT.below(h:VT w B v P L)(hb:Below w.heap.size w w'):VT w' B v P L:=h.same (λg hg=>hb.block g (h.lt hg).2)
theorem VT.off(h:VT w B v P L){g:Nat}{C:Array Value}{t:TypeId}{fr:Nat×Nat}(hh:w.heap[g]?=some (.cells C t fr))(ht:3≠t)(ht2:38≠t):¬(v.ownBlock=some g\/∃p∈L,p.val.ownBlock=some g):=λe=>by
 rcases e with e|⟨p,hp,e⟩
 ·exact eU h.row hh ht2 e
 ·obtain⟨i,hi⟩:=jy hp;exact eU (h.kids i p hi) hh ht e
theorem VT.box(h:VT w B v P L){g:Nat}{C:Array Value}{t:TypeId}{fr:Nat×Nat}(hh:w.heap[g]?=some (.cells C t fr))(ht:3≠t)(ht2:38≠t)(o:Nat)(u:Value):VT (w.setCell ⟨g,o,none⟩ u) B v P L:=
 h.same (λk hk=>jo _ _ _ _ (λe=>h.off hh ht ht2 ((show k=g from e)▸hk)))
theorem VT.join{w9:World}{Bp:Nat}{U:Value}{Lp L':List Ln}{M:Nat}{v9:Value}(hP:PT w Bp U Lp)(hO:OT w B v L')(hB:B<=Bp)(hrow:w9.ownsRow Bp 38 6 v9 (Lp.take M++L').length (fZ.all (Lp.take M++L')))(hg:w.grownBy w9 U.ownBlock):VT w9 B v9 (Lp.take M) L' :=
 ⟨vg hrow hB,λi p hi=>(hO.kids i p hi).kept hg (nE (eX hP.row (hO.kids i p hi) dU)),hO.apart⟩
end
def xF(w:World)(B:Nat)(u:Value)(T:List Nd)(k:Int):Prop:=0<=k->∃P L,(P.length:Int)=k/\(P++L).map Ln.nd=T/\VT w B u P L
end
section
open Go.RowKit
open Sq
open Ar
def KO(B:Nat)(NR:Nat->Prop)(R:List Nd×Int)(w:World)(e:Ending)(w':World):Prop:=
 ∃u,e=.returned (.tuple #[.agg #[u],.int .i64 R.2])/\iC w' u R.1/\Below B w w'/\∀k,k<w.heap.size->¬NR k->w'.heap[k]?=w.heap[k]?
def EW(B:Nat)(NR:Nat->Prop)(R:List Nd×Int)(w:World)(e:Ending)(w':World):Prop:=
 ∃u,e=.returned (.tuple #[.agg #[u],.int .i64 R.2])/\iC w' u R.1/\Below B w w'/\(∀k,k<w.heap.size->¬NR k->w'.heap[k]?=w.heap[k]?)/\xF w' B u R.1 R.2
theorem Wn(v:Value)(T0:List Nd)(up:Int)(a:Option Addr)(cap:Nat)(w:World)(hN:iC w v T0)(hG:Ar.dR T0)(hs:T0.length<=4000)(hk:∀x∈T0,x.ks.length<=4000):
 Calls prog 132 #[.agg #[v],.int .i64 up,.slice a 0 cap] w (KO w.heap.size (λ_=>False) (T0,-1) w):=by
 obtain⟨ta,tc,rfl⟩:=hN.shape;have hno:addN T0 (-1) 0 0 0=(T0,-1):=by
  unfold addN il;rfl
 have HA:=dY (λW (hb:Below w.heap.size w W)=>by have:=akS _ T0 (-1) 0 0 0 W (hN.below hb) hG hs hk;rw[hno]at this;exact this);obtain⟨N,aa⟩:=eu (T0.length);rw[aa]at HA⊢;have af:=dY aa;obtain⟨w1,hw1⟩:=eu ((w.alloc (.cells #[.slice ta N tc] 31)).alloc (.cells #[.slice none 0 0] 31));obtain⟨Bt,pW⟩:=eu (w.heap.size);obtain⟨Br,hBr⟩:=eu (w.heap.size+1);have hb1:=gD (dZ w (.cells #[.slice ta N tc] 31)) (.cells #[.slice none 0 0] 31);have ct:w1.cell? ⟨Bt,0,none⟩=some (.slice ta N tc):=yQ
 have cr:Lt w1 Br 0 (.slice none 0 0):=by
  rw[<-hw1,<-hBr];have h:=xG (W:=w.alloc (.cells #[.slice ta N tc] 31)) (C:=#[.slice none 0 0]) (t:=31) (k:=0) rfl;rw[size_alloc]at h;exact h
 rw[hw1]at hb1;obtain⟨HB1,ag,HA1,HW1⟩:=oK hb1 cr (HA.out w1 hb1) hw1;have hlo:w.heap.size<=Br:=dS
 obtain⟨ng,rJ⟩:=fw hBr pW;have HQ:=dY (λu w'=>show(iC w' u T0/\Below w.heap.size w w')->KO w.heap.size (λ_=>False) (T0,-1) w (.returned (.tuple #[.agg #[u],.int .i64 (-1)])) w' from λh=>⟨u,rfl,h.1,h.2,λk hk _=>h.2.block k hk⟩);obtain⟨Q,hQ⟩:=eu (KO w.heap.size (λ_=>False) (T0,-1) w);rw[hQ]at HQ⊢;clear hN hG hs hk hno HA hw1 hBr pW hb1 cr aa hQ
 go_enter func132,ntmps132
 go_upto_region 1 with fail
 rw[HW1.out,ng.out,rJ.out];clear HW1 ng rJ;go_wp2_with fail
 refine HA1.out.mono ?_;rintro e w2 ⟨u,rfl,hn2,-,hb2⟩;obtain⟨ua,uc,rfl⟩:=hn2.shape;rw[af.out]at hn2⊢;have hcr:=jK hb2 ag.out;have ae:=hcr.1;have ah:=hcr.2;have HD:=dY (HQ.out (.slice ua N uc) _ ⟨hn2.set ae (.slice ua N uc),(eD HB1.out hb2).setCell (p:=⟨Br,0,none⟩) hlo _⟩);clear hn2 hb2 hcr HA1;go_wp2_with fail
 refine vK (v:=.tuple #[.agg #[.slice ua N uc],.int .i64 (-1)]) ?_ rfl HD.out;simp[results,results132,go_sem,ae,ig]
theorem Wo(v nv:Value)(T0:List Nd)(up0:Nat)(L:List Ln)(p0:Ln)(B:Nat)(w:World)(hN:iC w v T0)(hG:Ar.dR T0)(hs:T0.length<=4000)(hk:∀x∈T0,x.ks.length<=4000)
 (hO:OT w B nv L) (hBw:B<=w.heap.size) (bT:L.length<=400000) (bf:∀p∈L,p.nd.ks.length<=400000/\-1<=p.nd.u/\p.nd.u<=400000/\∀z∈p.nd.ks,-4000<=z/\z<=400000)
 (hp0:L[0]?=some p0) (hm:il T0 up0 p0.nd.k p0.nd.f p0.nd.t=true):
 Calls prog 132 #[.agg #[v],.int .i64 up0,nv] w (EW B (λk=>nv.ownBlock=some k\/∃p∈L,p.val.ownBlock=some k) (Fl.qZ T0 up0 (L.map Ln.nd)) w):=by
 have hL0:=(eY.1 hp0).1;obtain⟨ta,tc,rfl⟩:=hN.shape;obtain⟨g,cap,rfl,hBg,hfz,hc1,hc2⟩:=jf hO.row hL0;obtain⟨NR,aG⟩:∃NR:Nat->Prop,(λk=>(Value.slice (some ⟨g,0,none⟩) L.length cap).ownBlock=some k\/∃p∈L,p.val.ownBlock=some k)=NR:=⟨_,rfl⟩
 have bg:NR g:=by rw[<-aG];exact .inl rfl
 have bU:=dY (show∀p∈L,∀k,p.val.ownBlock=some k->NR k from λp hp k hk=>by rw[<-aG];exact .inr ⟨p,hp,hk⟩);rw[aG];clear aG;obtain⟨r,hr⟩:=eu (addN T0 up0 p0.nd.k p0.nd.f p0.nd.t);have hr2:r.2=(T0.length:Int):=by
  obtain⟨h0,h1,y,hy⟩:=yY hm;rw[<-hr];unfold addN;rw[dX hm,hy]
 have hrl:r.1.length=T0.length+1:=by
  obtain⟨h0,h1,y,hy⟩:=yY hm;rw[<-hr];unfold addN;rw[dX hm,hy];dsimp only;rw[rC _ _ (zU hG up0 p0.nd.k p0.nd.f p0.nd.t y h0 hy (J7 hm hy).1)];simp
 have hres:Fl.qZ T0 up0 (L.map Ln.nd)=(r.1.take T0.length++Fl.shift up0 T0.length (L.map Ln.nd),(T0.length:Int)):=by
  cases L with
  |nil=>simp at hL0
  |cons q Lr=>
   obtain rfl:q=p0:=by simpa using hp0
   show(if il T0 up0 q.nd.k q.nd.f q.nd.t=true then _ else _)=_;rw[dX hm,hr];rfl
 rw[hres];have HA:=dY (λW (hb:Below w.heap.size w W)=>by have:=ahi _ T0 up0 p0.nd.k p0.nd.f p0.nd.t W (hN.below hb) hG hs hk;rw[hr]at this;unfold CX at this;rw[hr2]at this;exact this);obtain⟨M,bn⟩:=eu (T0.length);rw[bn]at HA hrl hs⊢;obtain⟨N,aN⟩:=eu (L.length);obtain⟨w1,hw1⟩:=eu ((w.alloc (.cells #[.slice ta M tc] 31)).alloc (.cells #[.slice none 0 0] 31));obtain⟨Bt,pW⟩:=eu (w.heap.size);obtain⟨Br,hBr⟩:=eu (w.heap.size+1);have hb1:=gD (dZ w (.cells #[.slice ta M tc] 31)) (.cells #[.slice none 0 0] 31);have ct:w1.cell? ⟨Bt,0,none⟩=some (.slice ta M tc):=yQ
 have kr:w1.heap[Br]?=some (.cells #[.slice none 0 0] 31 (0,0)):=by
  rw[<-hw1,<-hBr,<-size_alloc w (.cells #[.slice ta M tc] 31)];exact lz _ _
 rw[hw1]at hb1;have ae:=hO.below hb1;obtain⟨aO,aP,hv0⟩:=(Reads.fo (E:=encI) (ae.kids 0 p0 hp0)).shape;obtain⟨aQ,aI⟩:=eu (p0.nd.ks.length);rw[aI]at hv0;have ce:∀(W:World)(LL:List Ln)(hW:OT W B (.slice (some ⟨g,0,none⟩) L.length cap) LL)(i:Nat)(p:Ln)(hp:LL[i]?=some p)(k:Nat)(u:Value),(l8 p)[k]?=some u->W.cell? ⟨g,i*6+k,none⟩=some u:=λW LL hW i p hp k u hu=>by
  have bV:k<6:=by have:=(eY.1 hu).1;exact this
  have:=hW.row.cells (g:=g) rfl _ _ ((iJ fZ LL i p hp k bV).trans hu);rw[fT,jY]at this;exact this
 have e0:w1.cell? ⟨g,0,none⟩=some (.int .i64 p0.nd.k):=by have:=ce w1 L ae 0 p0 hp0 0 _ rfl;simpa using this
 have e1:w1.cell? ⟨g,1,none⟩=some (.int .i64 p0.nd.f):=by have:=ce w1 L ae 0 p0 hp0 1 _ rfl;simpa using this
 have e2:w1.cell? ⟨g,2,none⟩=some (.int .i64 p0.nd.t):=by have:=ce w1 L ae 0 p0 hp0 2 _ rfl;simpa using this
 have e3:w1.cell? ⟨g,3,none⟩=some (.int .i64 p0.nd.u):=by have:=ce w1 L ae 0 p0 hp0 3 _ rfl;simpa using this
 have e4:w1.cell? ⟨g,4,none⟩=some (.slice aO aQ aP):=by have:=ce w1 L ae 0 p0 hp0 4 _ rfl;rw[hv0]at this;simpa using this
 have e5:w1.cell? ⟨g,5,none⟩=some (.bool p0.nd.y):=by have:=ce w1 L ae 0 p0 hp0 5 _ rfl;simpa using this
 obtain⟨w2,hw2⟩:=eu (w1.alloc (.cells #[.int .i64 p0.nd.k,.int .i64 p0.nd.f,.int .i64 p0.nd.t,.int .i64 p0.nd.u,.slice aO aQ aP,.bool p0.nd.y] 38));obtain⟨Bv,aR⟩:=eu (w1.heap.size);have hb2:Below w1.heap.size w1 w2:=hw2▸dZ w1 _;have kv:w2.heap[Bv]?=some (.cells #[.int .i64 p0.nd.k,.int .i64 p0.nd.f,.int .i64 p0.nd.t,.int .i64 p0.nd.u,.slice aO aQ aP,.bool p0.nd.y] 38 (0,0)):=by rw[<-hw2,<-aR];exact lz _ _
 have n0:w2.cell? ⟨Bv,0,none⟩=some (.int .i64 p0.nd.k):=fq kv 0;have n1:w2.cell? ⟨Bv,1,none⟩=some (.int .i64 p0.nd.f):=fq kv 1;have n2:w2.cell? ⟨Bv,2,none⟩=some (.int .i64 p0.nd.t):=fq kv 2;have bW:=eB hb2 ct;have bq:=(hb2.block Br (gK kr)).trans kr;have hO2:=ae.below hb2;have ax:=eD hb1 hb2;obtain⟨HA2,HW1,HW2,ng,rJ,bX⟩:=kG (HA.out w2 ax) hw1 hw2 hBr pW aR;obtain⟨xm,ay,aa,aS,bY,bz⟩:=kG hO2 bq ax hBw bf hp0;obtain⟨HR2,bZ,ag,dA⟩:=oK hr2 hrl aN hBg;have az:B<=Br:=dS
 have dm:g≠Br:=λe=>eU ae.row kr dU (by rw[<-e];rfl)
 have hgw:g<w.heap.size:=(hO.row.lt g rfl).2
 have dn:w.heap.size<=Br:=dS
 have cr:0<N:=dS
 have hNs:N<=400000:=dS
 have HQ:=dY (λu w'=>show(iC w' u (r.1.take M++Fl.shift up0 M (L.map Ln.nd))/\Below B w w'/\(∀k,k<w.heap.size->¬NR k->w'.heap[k]?=w.heap[k]?)/\xF w' B u (r.1.take M++Fl.shift up0 M (L.map Ln.nd)) (M:Int))->EW B NR (r.1.take M++Fl.shift up0 M (L.map Ln.nd),(M:Int)) w (.returned (.tuple #[.agg #[u],.int .i64 M])) w' from λh=>⟨u,rfl,h⟩);obtain⟨Q,hQ⟩:=eu (EW B NR (r.1.take M++Fl.shift up0 M (L.map Ln.nd),(M:Int)) w);rw[hQ]at HQ⊢;have cz:=dY ce;rw[aN]at xm cz⊢;clear hN hG hk hO hBw bT bf hp0 hm hL0 hBg hfz hc1 hc2 hr hr2 hrl hres HA bn aN hw1 hb1 kr ae hw2 hb2 kv bq hO2 ax hQ ce hv0 aI hBr aR pW
 go_enter func132,ntmps132
 go_upto_region 1 with fail
 rw[HW1.out,ng.out,rJ.out];clear HW1 ng rJ;have gN:((N:Int)==0)=false:=eQ
 have dB:(0:Int)<(N:Int):=dS
 go_upto_region 4 with fail
 rw[HW2.out,bX.out];clear HW2 e0 e1 e2 e3 e4 e5 ct;go_wp2_with fail
 refine HA2.out.mono ?_;rintro e w3 ⟨u,rfl,cB,⟨Lp,aT,tQ⟩,hb3⟩;have aA:Lp.length=M+1:=by have:=congrArg List.length aT;rw[jl]at this;exact this.trans bZ.out
 obtain⟨gu,uc,hu,cK,hfu,aJ,bA⟩:=jf tQ.row dS;rw[aA]at hu aJ;subst hu;have av:=(hb3.block Br (gK ay.out)).trans ay.out;have cO:w3.cell? ⟨Br,0,none⟩=some (.slice none 0 0):=jh av;have cZ:w3.frozen? ⟨Br,0,none⟩=false:=qc av 0;obtain⟨w4,hw4⟩:=eu (w3.setCell ⟨Br,0,none⟩ (.slice (some ⟨gu,0,none⟩) (M+1) uc));obtain⟨Bp,aU⟩:=eu (w2.heap.size)
 have bB:=dY (show PL w w4 NR B Bp Br g gu M N cap uc L Lp from by
  rw[<-hw4,<-aU];refine⟨(xm.out.below hb3).box av dU dU 0 _,tQ.box av dU dU 0 _,sw av _,?_,λk hk _=>?_⟩
  case refine_2=>rw[jo _ _ _ _ (λe=>by have e:k=Br:=e;omega),hb3.block k (zx hk aa.out.size),aa.out.block k hk]
  exact(((aa.out.mono aS.out).trans (hb3.mono (iU aS.out aa.out.size))).setCell (p:=⟨Br,0,none⟩) az _))
 have aK:g<Bp:=by have:=aa.out.size;omega
 have bC:w.heap.size<=Bp:=by have:=aa.out.size;omega
 have aL:=dY (iU aS.out bC)
 have bD:=dY (fun(p:Ln)(hp:p∈L)(kg:Nat)(hk:p.val.ownBlock=some kg)=>show kg<Bp from by
  obtain⟨i,hi⟩:=jy hp;have:=((xm.out.kids i p hi).lt kg hk).2
  omega)
 obtain⟨bE,bF,bG⟩:=je hw4 aT aA;have dw:=dY (show Bp<=w4.heap.size from by rw[<-hw4,<-aU];simpa using hb3.size);have gM:((M:Int)==-1)=false:=eG
 clear cB aT tQ hb3 aA cK hfu aJ bA av hw4 aU HA2 xm ay aa bW n0 n1 n2;go_upto_region 5 with fail
 rw[bE.out];clear bE cO cZ;go_wp2_with fail
 go_loopw [38] (λiv wr=>∃i:Nat,iv=.int .i64 i/\i<=N/\Hid (PL w wr NR B Bp Br g gu M N cap uc (lZ (M:Int) i L) Lp)) (λiv _=>N-(intOf iv).toNat)
 case atStart=>exact⟨0,rfl,fP _,by rw[Ib];exact bB⟩
 case round=>
  obtain⟨i,rfl,hi,HP⟩:=hrel;by_cases hlt:i<N
  ·obtain⟨p,hp⟩:∃p,L[i]?=some p:=⟨_,fu (by rw[ag.out];exact hlt)⟩
   have hpt:=sI (M:Int) i L i p hp;rw[dW (vU _)]at hpt;have hpm:=gW hp;obtain⟨hkn,hu1,hu2,hzb⟩:=bY.out p hpm;have c3:=HP.out.cell i p hpt 3 _ rfl;have f3:=HP.out.free (by rw[kZ,ag.out];omega) (i*6+3);have hP2:=HP.out.X6 i p hpt (p.nd.u+(M:Int)) aK bg;obtain⟨w5,zC⟩:=eu (wr.setCell ⟨g,i*6+3,none⟩ (.int .i64 (p.nd.u+(M:Int))));rw[zC]at hP2;have hil:i<(lZ (M:Int) i L).length:=by rw[kZ,ag.out];exact hlt
   have hmz:({p with nd:={p.nd with u:=p.nd.u+(M:Int)}}:Ln)=nT (M:Int) 0 p:=(mid_zero _ _).symm;rw[hmz]at hP2;obtain⟨ka,kc,aH⟩:=(Reads.fo (E:=encI) (HP.out.ot.kids i p hpt)).shape;obtain⟨kn,aB⟩:=eu (p.nd.ks.length);rw[aB]at aH hkn;have c4:w5.cell? ⟨g,i*6+4,none⟩=some (.slice ka kn kc):=by
    have:=hP2.cell i (nT (M:Int) 0 p) (yE hil) 4 _ rfl;rw[<-aH];exact this
   have gi:(i:Int)<(N:Int):=dS
   obtain⟨U,hU⟩:=eu (p.nd.u);rw[hU]at c3 hu1 hu2 zC;have gw:wrap64 (U+(M:Int))=U+(M:Int):=AF _ dS;obtain⟨o9,bH,HP,dC,Pq,L8⟩:=kG hP2 zC hp hpt aH aB;obtain⟨df,bI⟩:=fw hzb hpm;clear hP2 zC hp hpt aH aB hzb hpm hmz hU;go_upto_region 11 with fail
   rw[bH.out];clear bH c3 f3;go_wp2_with fail
   rename World=>wq
   go_loopw [56] (λjv ws=>∃j:Nat,jv=.int .i64 j/\j<=kn/\Hid (PL w ws NR B Bp Br g gu M N cap uc ((lZ (M:Int) i L).set i (nT (M:Int) j p)) Lp)) (λjv _=>kn-(intOf jv).toNat)
   case atStart=>exact⟨0,rfl,fP _,o9⟩
   case round=>
    obtain⟨j,rfl,hj,HPj⟩:=hrel;have XY:i<(lZ (M:Int) i L).length:=by rw[kZ,ag.out];exact hlt
    have hget:((lZ (M:Int) i L).set i (nT (M:Int) j p))[i]?=some (nT (M:Int) j p):=yE XY;by_cases hjl:j<kn
    ·obtain⟨z,hz⟩:∃z,p.nd.ks[j]?=some z:=⟨_,fu (by rw[L8.out];exact hjl)⟩
     obtain⟨kg,bJ,hv',ck,fk⟩:=HPj.out.kid i (nT (M:Int) j p) hget j z (C4 _ _ _ _ hz);have hv2:p.val=.slice (some ⟨kg,0,none⟩) (nT (M:Int) j p).nd.ks.length bJ:=hv';rw[Ux,L8.out,Pq.out]at hv2;obtain⟨e1,-,-⟩:=lX hv2;subst e1;have hz2:=df.out z (gW hz);have c4j:=HPj.out.cell i _ hget 4 _ rfl;have dD:wr.cell? ⟨g,i*6+4,none⟩=some (.slice (some ⟨kg,0,none⟩) kn kc):=by rw[<-Pq.out];exact c4j
     have bK:kg<Bp:=bD.out p bI.out kg (by rw[Pq.out];rfl)
     have hP3:=HPj.out.aik i j kg _ bJ (nT (M:Int) j p) hget hv' z (z+(M:Int)) (C4 _ _ _ _ hz) bK (bU.out p bI.out kg (by rw[Pq.out];rfl));rw[aeA,Nf _ _ _ _ hz]at hP3;have PE:=dY hP3;have gj:(j:Int)<(kn:Int):=dS
     exact aae
    ·exact Z9
  ·obtain rfl:i=N:=by omega
   have gi:¬(i:Int)<(i:Int):=dS
   have hpt:=sI (M:Int) i L 0 p0 bz.out;rw[dX cr]at hpt;have c3:=HP.out.cell 0 _ hpt 3 _ rfl;have f3:=HP.out.free (by rw[kZ,ag.out];omega) (0*6+3);have hP2:=HP.out.X6 0 _ hpt (up0:Int) aK bg;have hsh:=FM (up0:Int) M L p0 bz.out;rw[ag.out]at hsh;obtain⟨L',hL'⟩:∃L',(lZ (M:Int) i L).set 0 {tX (M:Int) p0 with nd:={(tX (M:Int) p0).nd with u:=(up0:Int)}}=L':=⟨_,rfl⟩
   rw[hL']at hP2 hsh;have aj:L'.length=i:=by rw[<-hL',nQ,kZ,ag.out]
   obtain⟨w6,oN⟩:=eu (wr.setCell ⟨g,0*6+3,none⟩ (.int .i64 (up0:Int)));rw[oN]at hP2;simp only[O5,jY]at c3 f3 oN;have dE:=jh hP2.box;have dF:w6.frozen? ⟨Br,0,none⟩=false:=qc hP2.box 0;have af:=hP2.pt.row;have aV:=bG.out;have aC:=uW af;have hsl:∀W:World,(Instr.slice 29 (.slice (some ⟨gu,0,none⟩) (M+1) uc) none (some (.int .i64 (M:Int))) none).run prog W=.ok (.slice (some ⟨gu,0,none⟩) M uc) W:=λW=>by
    have hc:=aC.2.2;simp only[maxLen]at hc;rw[aeL W _ (some ⟨gu,0,none⟩) (M+1) uc (by rw[OV.he];exact OV.ht) .i64 M dS dS,OV.he,OV.size];simp[Result.andThen,sliced,fT]
   have hpre:=FL (E:=fZ) (n:=M) af dS;have hlt2:(Lp.take M).length=M:=nX
   have aM:=dY hpre;have hrd:=Reads.fo (E:=fZ) hP2.ot.row;obtain⟨bL,o9,bM,bN⟩:=oK hrd hP2 hsh oN;have dx:=dY aj;have dh:=dY (show(Lp.take M).length+L'.length<=maxLen by rw[hlt2,aj];simp only[maxLen];omega);have di:=dY (show((Lp.take M).length+L'.length)*64<=140737488355328 by rw[hlt2,aj];omega);have bO:=dY (show Bp<=w6.heap.size from pJ (Nat.lt_of_le_of_lt (af.lt gu rfl).1 (af.lt gu rfl).2));have aW:=dY hlt2;clear hP2 hsh hL' aj oN af aV aC hpre hlt2 hrd hpt HP bB;go_upto_region 18 with fail
   rw[bN.out];clear bN c3 f3;go_upto_region 19 with(at_builtin;go_must (refine lS OV rfl (.tmp 79) (.tmp 80) rfl Bp _ (Lp.take M) rfl aM.out _ L' rfl bL.out dh.out di.out bO.out ?_;intro v9 w9 ah aX bP;obtain⟨a9,c9,bQ⟩:=(Reads.fo (E:=fZ) ah).shape;obtain⟨n9,bR⟩:∃n9,(Lp.take M++L').length=n9:=⟨_,rfl⟩;rw[bR]at bQ;clear bR;subst bQ;have ai:=dY ah;have aD:=dY aX;have ak:w9.heap[Br]?=some (.cells #[.slice (some ⟨gu,0,none⟩) (M+1) uc] 31 (0,0)):=(aX.block Br (gK o9.out.box) (λe=>eU o9.out.pt.row o9.out.box dU e.symm)).trans o9.out.box;have aF:=dY ak;have aY:=jh ak;have dG:w9.frozen? ⟨Br,0,none⟩=false:=qc ak 0;clear ah aX bP ak))
   have aZ:=Sm (M:=M) o9.out.pt o9.out.ot ai.out aD.out;rw[yF,aeu,bF.out,bM.out]at aZ;have htj:VT w9 B (.slice a9 n9 c9) (Lp.take M) L':=VT.join (M:=M) o9.out.pt o9.out.ot aL.out ai.out aD.out;have bS:(Lp.take M++L').map Ln.nd=r.1.take M++Fl.shift up0 M (L.map Ln.nd):=by rw[yF,aeu,bF.out,bM.out]
   have GJ:=o9.out.kL.grown aD.out (iU o9.out.kL.size (eO _)|>λh=>by have:=o9.out.ot.row.lt g rfl;omega) (λq hq=>by have e:gu=q:=iG hq;have:=(o9.out.pt.row.lt gu rfl).1;have:=(o9.out.ot.row.lt g rfl).1;omega);have c10:(w9.setCell ⟨Br,0,none⟩ (.slice a9 n9 c9)).cell? ⟨Br,0,none⟩=some (.slice a9 n9 c9):=ig _ _ _ (by rw[aY];rfl)
   have HD:=dY (HQ.out (.slice a9 n9 c9) _ ⟨(aZ.set aY (.slice a9 n9 c9)).set c10 (.slice a9 n9 c9),(GJ.setCell (p:=⟨Br,0,none⟩) az _).setCell (p:=⟨Br,0,none⟩) az _,λk hk hr=>by
    have hkb:k≠Br:=dS
    rw[jo _ _ _ _ hkb,jo _ _ _ _ hkb,aD.out.block k (zx hk o9.out.kL.size) (λe=>by have e:gu=k:=iG e.symm;have:=(o9.out.pt.row.lt gu rfl).1;omega)]
    exact o9.out.keep k hk hr,λ_=>⟨_,_,by rw[aW.out],bS,(htj.box (g:=Br) aF.out dU dU 0 _).box (g:=Br) (sw aF.out _) dU dU 0 _⟩⟩)
   clear aZ GJ htj bS aF aL o9 ai aD aM bL;go_wp2_with fail
   refine vK (v:=.tuple #[.agg #[.slice a9 n9 c9],.int .i64 (M:Int)]) ?_ rfl HD.out;simp[results,results132,go_sem,aY,ig]
end
section
open Go.RowKit
open Sq
open Ar
theorem Uy(w0:World)(rb:Nat)(tv:Value)(l:List Tk)(hT:oV l):∀d:Nat,d<=1000->Vk w0 rb tv l d
 |0=>λh=>abv w0 rb tv l 0 hT h (λd' e=>dS)
 |d+1=>λh=>abv w0 rb tv l (d+1) hT h (λd' e=>by
  obtain rfl:d'=d:=dS
  exact Uy w0 rb tv l hT d' dS)
def C6(r:Int×Nat×Fl.St)(w:World)(e:Ending)(w':World):Prop:=
 ∃u dv,e=.returned (.tuple #[.agg #[u],.int .i64 r.1,.int .i64 r.2.1,dv])/\iC w' u r.2.2.t/\Reads fK w' dv r.2.2.d/\Below w.heap.size w w'/\xF w' w.heap.size u r.2.2.t r.1/\w'.ownsRow w.heap.size 40 3 dv r.2.2.d.length (fK.all r.2.2.d)
theorem ajk(bv v tv:Value)(l0:List Tk)(en:Nat)(T0:List Nd)(up0 at' d:Nat)(n b:Int)(w:World)(hl:Reads iQ w v l0)(aZ:l0.length<=100000)(hen:en<=l0.length)(av:oV l0)(hN:iC w tv T0)(hck:Ck T0 n)(hf:Fits T0 at' b up0)(hb:b<=at'+1)(hpe:at'<=en)(hn:(en:Int)<=n)
 (hs:T0.length<=4000) (hk:∀x∈T0,x.ks.length<=4000) (hd:d<=50):
 Calls prog 94 #[bv,v,.agg #[tv],.int .i64 up0,.int .i64 at',.int .i64 en,.int .i64 d] w (C6 (Fl.gP l0 en d up0 at' ⟨T0,[]⟩) w):=by
 rw[<-Ft.acn l0 en d at' up0 ⟨T0,[]⟩ hpe];have ax:=av.take en;obtain⟨va,vc,rfl⟩:=hl.shape;obtain⟨v3,hv3,hr3⟩:=ag5 (P:=prog) tyT hl hen;obtain⟨l,aP⟩:=eu (l0.take en);have hll:l.length=en:=by rw[<-aP,mX];omega
 rw[aP]at ax hr3⊢;have hls:l.length<=100000:=dS
 clear aP;subst hll;obtain⟨M0,hM0⟩:=eu (l0.length);rw[hM0]at aZ hen hv3⊢;have ae:=Fl.uj (l:=l) (e:=l.length) hn d at' b hck hf hb hpe;have hG:=hck.good;obtain⟨ta,tc,rfl⟩:=hN.shape;obtain⟨a3,c3,rfl⟩:=hr3.shape;obtain⟨VR,bf⟩:=eu (Fl.gP l l.length d up0 at' ⟨T0,[]⟩);rw[bf]at ae⊢;obtain⟨PR,aQ⟩:=eu (Fl.iw l l.length d (-1) at' ⟨[],[]⟩);have hpv:=Fl.wM (l:=l) (e:=l.length) d (-1) at' ⟨[],[]⟩ hpe dS Jp;rw[aQ]at ae hpv;have hkb:Fl.KB PR.2.q:=by
  rcases hpv with⟨e1,_⟩|⟨nx,s1,e1,_,_,_,g,_,_⟩
  ·rw[e1];intro i x h;simp at h
  ·rw[e1];exact g.kids (λi x h=>jQ)
 clear hpv;obtain⟨w1,hw1,hb1,kT,kR,kB⟩:=FH w (.cells #[.slice ta T0.length tc] 31) (.cells #[.slice none 0 0] 31) (.cells #[.slice none 0 0,.slice none 0 0,.slice none 0 0] 154);obtain⟨Bt,pW⟩:=eu (w.heap.size);obtain⟨Br,hBr⟩:=eu (w.heap.size+1);obtain⟨rb,hrb⟩:=eu (w.heap.size+2);rw[pW]at kT;rw[hBr]at kR;rw[hrb]at kB;obtain⟨w2,hw2⟩:=eu (w1.setCell ⟨rb,0,none⟩ (.slice a3 l.length c3));have hne1:Bt≠rb:=dS
 have hne2:Br≠rb:=dS
 have bg:w2.heap[Bt]?=some (.cells #[.slice ta T0.length tc] 31 (0,0)):=by rw[<-hw2,jo _ _ _ _ hne1];exact kT
 have bn:w2.heap[Br]?=some (.cells #[.slice none 0 0] 31 (0,0)):=by rw[<-hw2,jo _ _ _ _ hne2];exact kR
 have kB2:w2.heap[rb]?=some (.cells #[.slice a3 l.length c3,.slice none 0 0,.slice none 0 0] 154 (0,0)):=by rw[<-hw2];exact sw kB _
 have aL:Below w.heap.size w w2:=by rw[<-hw2];exact hb1.setCell (p:=⟨rb,0,none⟩) (by show w.heap.size<=rb;omega) _
 have hM2:RM w w2 rb (.slice a3 l.length c3) (.slice none 0 0) (.slice none 0 0) l [] []:=⟨aL,hr3,hls,dS,kB2,OT.nil _ _,kX fK _ _⟩
 have hS2:RS w w2 rb (.slice a3 l.length c3) l ⟨[],[]⟩ (jX (.slice none 0 0) (.slice none 0 0) []):=⟨_,_,_,hM2,rfl,rfl⟩
 have ay:=Uy w rb (.slice a3 l.length c3) l ax d dS w2 (-1) at' ⟨[],[]⟩ _ hS2 dS Jp hpe ⟨by show 0+_+_<=_;omega,by show 0+_<=_;omega,λi x h=>jQ⟩;rw[aQ]at ay;have c0:w1.cell? ⟨rb,0,none⟩=some (.slice none 0 0):=(fq kB 0).trans rfl;have f0:w1.frozen? ⟨rb,0,none⟩=false:=qc kB 0;obtain⟨ai,aR,aS,HT2,HR2⟩:=vV ay ae hkb bg bn;have HN:=dY (λW (hb:Below w.heap.size w W)=>hN.below hb);obtain⟨HG,HS,aH,yo,HW1,HW2⟩:=kG hG hs hk hls hw1 hw2;obtain⟨rJ,ng,bq⟩:=je pW hBr hrb;have HQ:=dY (λu dv w'=>show(iC w' u VR.2.2.t/\Reads fK w' dv VR.2.2.d/\Below w.heap.size w w'/\xF w' w.heap.size u VR.2.2.t VR.1/\w'.ownsRow w.heap.size 40 3 dv VR.2.2.d.length (fK.all VR.2.2.d))->C6 VR w (.returned (.tuple #[.agg #[u],.int .i64 VR.1,.int .i64 VR.2.1,dv])) w' from λh=>⟨u,dv,rfl,h⟩);obtain⟨Q,hQ⟩:=eu (C6 VR w);rw[hQ]at HQ⊢;have hlo1:w.heap.size<=Br:=dS
 have bM:=dY (show w.heap.size<=Bt/\w.heap.size<=Br/\w.heap.size<=rb from⟨dS,dS,dS⟩);have Cx:=dY (show Bt≠rb/\Br≠rb from⟨hne1,hne2⟩);obtain⟨TN,aT⟩:=eu (T0.length);obtain⟨N,aU⟩:=eu (l.length);obtain⟨bN,aV⟩:=fw aU aT;rw[aT]at HW1 HT2⊢;rw[aU]at HW2 ai hv3 hpe hls hen⊢;clear hM0 av;clear hkb hl ax hN hck hf hb hn hs hk ae hG hr3 bf aQ hw1 hb1 kT kR kB pW hBr hrb hw2 hne1 hne2 bg bn kB2 aL hM2 hS2 ay hQ aT aU
 go_enter func94,ntmps94
 go_upto_region 2 with fail
 rw[HW1.out,bq.out,ng.out,rJ.out];clear HW1 bq ng rJ;go_upto_region 4 with fail
 rw[HW2.out];clear HW2 c0 f0 hv3;go_wp2_with fail
 refine ai.out.mono ?_;rintro e w3 ⟨rfl,R3,⟨nv,dv,L,aa,hL3,rfl⟩,ku⟩;have hnone:∀k,¬jX (.slice none 0 0) (.slice none 0 0) [] k:=λk h=>by
  rcases h with h|h|⟨p,hp,_⟩
  ·cases h
  ·cases h
  ·cases hp
 have aW:=(ku.block Bt (gK HT2.out) Cx.out.1 (hnone Bt)).trans HT2.out;have az:=(ku.block Br (gK HR2.out) Cx.out.2 (hnone Br)).trans HR2.out;have hb3:=aa.kL;have cT:=jh aW;have cR:=jh az;have c1:=aa.cells.2.1;have bH:=(Reads.fo (E:=fZ) aa.nodes.row).shape;obtain⟨na,nc,bz⟩:=bH;rcases aR.out with⟨e1,e2⟩|⟨next,s',ps',e1,e2,g1,g2,g3,g4,g5,g6,g7,g8,g9,v,g10,g11⟩
 ·subst e1 e2;have hL0:L=[]:=by
   have h:L.map Ln.nd=[]:=hL3;exact akg.1 h
  subst hL0;subst bz;have af:=dY (Wn _ T0 (up0:Int) na nc w3 (HN.out w3 hb3) HG.out HS.out aH.out);rw[aV.out]at af;obtain⟨HR3,HB3⟩:=fw az hb3;clear ku aa hL3 hnone aW az hb3 ai HN HG aH aR HT2 HR2 aS;go_wp2_with fail
  refine af.out.mono ?_;rintro e w4 ⟨u,rfl,ag,hb4,-⟩;obtain⟨ua,uc,rfl⟩:=ag.shape;rw[aV.out]at ag⊢;have kR4:=(hb4.block Br (gK HR3.out)).trans HR3.out;have aA:=jh kR4;have bA:w4.frozen? ⟨Br,0,none⟩=false:=qc kR4 0;have c10:(w4.setCell ⟨Br,0,none⟩ (.slice ua TN uc)).cell? ⟨Br,0,none⟩=some (.slice ua TN uc):=ig _ _ _ (by rw[aA];rfl);have HD:=dY (HQ.out (.slice ua TN uc) (.slice none 0 0) _ ⟨(ag.set aA (.slice ua TN uc)).set c10 (.slice ua TN uc),.inl ⟨rfl,rfl⟩,((HB3.out.trans (hb4.mono HB3.out.size)).setCell (p:=⟨Br,0,none⟩) hlo1 _).setCell (p:=⟨Br,0,none⟩) hlo1 _,λh=>absurd h (by show¬(0:Int)<=-1;decide),kX fK _ _⟩);clear ag hb4 kR4 af;go_wp2_with fail
  refine vK (v:=.tuple #[.agg #[.slice ua TN uc],.int .i64 (-1),.int .i64 (at':Int),.slice none 0 0]) ?_ rfl HD.out;simp[results,results94,go_sem,c10,ig]
 ·subst e1 e2;have hL3:L.map Ln.nd=ps'.q:=hL3;have bI:L.length=ps'.q.length:=by rw[<-hL3,jl]
  obtain⟨p0,hp0⟩:∃p0,L[0]?=some p0:=⟨_,fu dS⟩
  have hpv:p0.nd=v:=by
   have h:(L.map Ln.nd)[0]?=some p0.nd:=by rw[kS,hp0];rfl
   rw[hL3,g10]at h;exact(iG h).symm
  have bJ:ps'.q.length<=400000:=by have:=yo.out;have:=HS.out;omega
  have hpt:=Wo _ nv T0 up0 L p0 w.heap.size w3 (HN.out w3 hb3) HG.out HS.out aH.out aa.nodes hb3.size dS (λp hp=>by
   obtain⟨i,hi⟩:=jy hp;have hx:ps'.q[i]?=some p.nd:=by rw[<-hL3,kS,hi];rfl
   have hil:=(eY.1 hx).1;have h1:=g9 i p.nd hx;have h2:=aS.out i p.nd hx;have h2:p.nd.ks.length<=ps'.q.length:=h2;refine⟨dS,h1.1,dS,λz hz=>?_⟩;have:=h1.2.2 z hz;have:=HS.out
   omega) hp0 (by rw[hpv];exact g11)
  rw[hL3,g6]at hpt;have hnr:∀(k:Nat)(C:Array Value)(t:TypeId)(fr:Nat×Nat),w3.heap[k]?=some (.cells C t fr)->3≠t->38≠t->¬(nv.ownBlock=some k\/∃p∈L,p.val.ownBlock=some k):=λk C t fr hh h1 h2 h3=>by
   rcases h3 with h3|⟨p,hp,h3⟩
   ·exact eU aa.nodes.row hh h2 h3
   ·obtain⟨i,hi⟩:=jy hp;exact eU (aa.nodes.kids i p hi) hh h1 h3
  have hdt:∀k,dv.ownBlock=some k->k<w3.heap.size/\¬(nv.ownBlock=some k\/∃p∈L,p.val.ownBlock=some k):=λk hk=>by
   refine⟨(aa.told.lt k hk).2,λh3=>?_⟩;rcases h3 with h3|⟨p,hp,h3⟩
   ·exact eX aa.nodes.row aa.told dU k h3 hk
   ·obtain⟨i,hi⟩:=jy hp;exact eX (aa.nodes.kids i p hi) aa.told dU k h3 hk
  have hbx:=aa.box;obtain⟨af,HR3,HB3,aI,aJ,tO⟩:=kG hpt az hb3 hdt hnr hbx;obtain⟨bB,bC⟩:=fw aa.told g4;rw[aV.out]at af HQ;have gT:((TN:Int)==-1)=false:=eG
  clear ku aa hL3 hnone aW az hb3 ai HN HG aH aR HT2 HR2 aS bI hp0 hpv bJ hpt hnr hdt hbx g1 g2 g3 g4 g5 g6 g7 g8 g9 g10 g11;subst bz;obtain⟨LN,bD⟩:=eu (L.length);rw[bD]at af tO aI aJ c1;clear bD;go_wp2_with fail
  refine af.out.mono ?_;rintro e w4 ⟨u,rfl,ag,hb4,hkp,htl⟩;obtain⟨ua,uc,rfl⟩:=ag.shape;obtain⟨un,hun⟩:=eu (s'.t.length);have aM:iC w4 (.slice ua un uc) s'.t:=by rw[<-hun];exact ag
  have aN:(s'.t,(TN:Int)).1.length=un:=hun;rw[aN];have kR4:=(hkp Br (gK HR3.out) (aJ.out _ _ _ _ HR3.out dU dU)).trans HR3.out;have aK:=(hkp rb (gK tO.out) (aJ.out _ _ _ _ tO.out dU dU)).trans tO.out;have O8:=fE bB.out (λk hk=>hkp k (aI.out k hk).1 (aI.out k hk).2);obtain⟨da,dc,hdv⟩:=(Reads.fo (E:=fK) O8).shape;have aB:=Reads.fo (E:=fK) O8;rw[hdv]at aB aK;obtain⟨dn,hdn⟩:=eu (ps'.d.length);have ah:(next,ps').2.d.length=dn:=hdn;rw[ah]at aB aK;have aA:=jh kR4;have bA:w4.frozen? ⟨Br,0,none⟩=false:=qc kR4 0;obtain⟨w5,zC⟩:=eu (w4.setCell ⟨Br,0,none⟩ (.slice ua un uc));have ak:w5.heap[Br]?=some (.cells #[.slice ua un uc] 31 (0,0)):=by rw[<-zC];exact sw kR4 _
  have aX:=(jo w4 ⟨Br,0,none⟩ (.slice ua un uc) rb (λe=>Cx.out.2 e.symm)).trans aK;rw[zC]at aX;have aY:=aM.set aA (.slice ua un uc);have hb5:=(HB3.out.trans (hb4.mono (eO _))).setCell (p:=⟨Br,0,none⟩) hlo1 (.slice ua un uc);have bE:Reads fK w5 (.slice da dn dc) ps'.d:=by
   have h:=fE (w':=w5) O8 (λk hk=>Qs);have:=Reads.fo (E:=fK) h;rw[hdv,ah]at this;exact this
  rw[zC]at aY hb5;have q1:=jh ak;have q2:w5.cell? ⟨rb,2,none⟩=some (.slice da dn dc):=(fq aX 2).trans rfl;have q3:w5.frozen? ⟨Br,0,none⟩=false:=qc ak 0;have c10:(w5.setCell ⟨Br,0,none⟩ (.slice ua un uc)).cell? ⟨Br,0,none⟩=some (.slice ua un uc):=ig _ _ _ (by rw[q1];rfl);have x1:=c10;have x2:(w5.setCell ⟨Br,0,none⟩ (.slice ua un uc)).cell? ⟨rb,2,none⟩=some (.slice da dn dc):=mQ Cx.out.2 q2;have aC:Reads fK (w5.setCell ⟨Br,0,none⟩ (.slice ua un uc)) (.slice da dn dc) ps'.d:=by
   have h5:=fE (w':=w5) O8 (λk hk=>Qs);have h:=fE (w':=w5.setCell ⟨Br,0,none⟩ (.slice ua un uc)) h5 (λk hk=>jo _ _ _ _ (λe=>eU h5 ak dU Qd));have:=Reads.fo (E:=fK) h;rw[hdv,ah]at this;exact this
  have aD:(w5.setCell ⟨Br,0,none⟩ (.slice ua un uc)).ownsRow w.heap.size 40 3 (.slice da dn dc) ps'.d.length (fK.all ps'.d):=by
   have h5:=fE (w':=w5) O8 (λk hk=>Qs);have h:=fE (w':=w5.setCell ⟨Br,0,none⟩ (.slice ua un uc)) h5 (λk hk=>jo _ _ _ _ (λe=>eU h5 ak dU Qd));rw[hdv,ah]at h;rw[hdn];exact h
  have aF:=aY.set q1 (.slice ua un uc);obtain⟨tP,tL,ht1,ht2,ht3⟩:=htl (by show(0:Int)<=(TN:Int);omega);have aO:(s'.t,(TN:Int)).1.length=un:=hun;rw[aO]at ht3;have aG:VT (w5.setCell ⟨Br,0,none⟩ (.slice ua un uc)) w.heap.size (.slice ua un uc) tP tL:=by
   have h5:=ht3.box kR4 dU dU 0 (.slice ua un uc);rw[zC]at h5;exact h5.box ak dU dU 0 _
  have ht1:(tP.length:Int)=(TN:Int):=ht1;have ht2:(tP++tL).map Ln.nd=s'.t:=ht2;have aj:=hb5.setCell (p:=⟨Br,0,none⟩) hlo1 (.slice ua un uc);obtain⟨w6,oN⟩:=eu (w5.setCell ⟨Br,0,none⟩ (.slice ua un uc));rw[oN]at c10 aC aF aj aG aD;have bF:w6.drew.cell? ⟨Br,0,none⟩=some (.slice ua un uc):=c10;have HD:=dY (λW (hW:Below w6.heap.size w6 W)=>HQ.out (.slice ua un uc) (.slice da dn dc) W ⟨aF.below hW,by show Reads fK W _ s'.d;rw[bC.out];exact aC.below hW,aj.trans (hW.mono aj.size),λ_=>⟨tP,tL,ht1,ht2,aG.below hW⟩,by show World.ownsRow W _ _ _ _ s'.d.length (fK.all s'.d);rw[bC.out];exact eZ aD hW⟩);obtain⟨bG,bK⟩:=fw zC oN;clear aD ht1 ht2 ht3 htl aG aO ag hb4 hkp hun aM aN kR4 aK O8 hdv aB hdn ah zC ak aX aY hb5 bE aC aF aj oN af HR3 HB3 aI aJ tO bB;go_upto_region 6 with fail
  rw[bG.out];clear bG aA bA;go_upto_region 8 with fail
  refine Vl (S:=λwx=>wx.cell? ⟨Br,0,none⟩=some (.slice ua un uc)/\wx.cell? ⟨rb,2,none⟩=some (.slice da dn dc)) dV (⟨q1,q2⟩) (λhH=>?_);refine uf 0 (.agg #[.slice ua un uc]) (λW hW=>?_) hH ?_
  ·obtain⟨z1,z2⟩:=hW;go_simp
  refine iI 1 (.int .i64 (TN:Int)) hH ?_;refine iI 2 (.int .i64 (next:Int)) hH ?_;refine iI 3 (.pointer (some ⟨rb,2,none⟩)) hH ?_;refine uf 4 (.slice da dn dc) (λW hW=>?_) hH ?_
  ·obtain⟨z1,z2⟩:=hW;go_simp
  refine Cc 5 λK hK=>?_
  go_simp;refine hK.out _ _ (⟨x1,x2⟩) (λhH2=>?_);clear hK K;try simp only[Act.put,fG,fB,fC]
  refine iI 6 (.int .i64 (TN:Int)) hH2 ?_;refine iI 7 (.int .i64 (next:Int)) hH2 ?_;refine iI 8 (.slice da dn dc) hH2 ?_;refine aeW dV ?_ _;rw[bK.out];have bL:=dY (HD.out w6.drew (fD _ w6).drew);go_wp2_with fail
  refine vK (v:=.tuple #[.agg #[.slice ua un uc],.int .i64 (TN:Int),.int .i64 (next:Int),.slice da dn dc]) ?_ rfl bL.out;simp[results,results94,go_sem,bF]
end
end Go.Proofs.YtmkkdjpebbdikaaGreatDoor

/- The law correctorlaw12.ParseFirst: whatever the input, the call returns true, and each argument reads afterwards as it read before. Conditions: none but those of the form (package-level variables as the program text lays them, tied by the card).
   The idea stands in the walk (W12Fi) and in what it imports; this text is the frame. -/
import Derived.Test.YtmkkdjpebbdikaaGreatDoorZb36
import Derived.Test.YtmkkdjpebbdikaaGreatDoorZb38
import Derived.Test.YtmkkdjpebbdikaaGreatDoorZb42
import Derived.ChangeOld
import Derived.ShutString
import Derived.Test.YtmkkdjpebbdikaaGreatDoorCards
import Derived.Test.YtmkkdjpebbdikaaGreatDoorTie
set_option linter.all false
set_option maxHeartbeats 16000000
set_option maxRecDepth 100000
namespace Go.Proofs.YtmkkdjpebbdikaaGreatDoor
open Go.RowKit Go.Proofs.Tryz
namespace Ps
open Ar Fl
open Rw (R E)
open Go.Proofs.YtmkkdjpebbdikaaGreatDoor.Sc in
theorem Tf:∀(n:Nat)(s:Sc.St)(p:Nat)(a:List Nat),a.length<=n->ends a->(∀c∈a,still c)->s.op=0->s.least=-1->
 (∀x∈lY s p a,x.1≠8/\x.1≠9/\x.1≠18)/\∃x,(lY s p a).getLast?=some x/\x.1=1:=by
 intro n
 induction n with
 |zero=>
  intro s p a hl h;exact absurd (l9 dS) (zS h)
 |succ n ih=>
  intro s p a hl h hs ho hm;have hne:=zS h;have hp:=step_pos s a hne;have hst:=wS s a (λ_=>hm);rw[lF s p a hne];by_cases h0:jg a=0
  ·rw[hst,mid_end s a h0]at hp⊢;show(∀x∈(1,p,p+lI a)::lY (Sc.fresh s.op s.least) (p+lI a) (a.drop (lI a)),_)/\_;rw[ho,hm];by_cases he:lI a<a.length
   ·have hb:0<lI a:=hp.1
    obtain⟨g1,x,g2,g3⟩:=ih (Sc.fresh 0 (-1)) (p+lI a) (a.drop (lI a)) jc (qN h he) (λc hc=>hs c (LG hc)) rfl rfl;refine⟨λy hy=>?_,x,?_,g3⟩
    ·rcases kY.1 hy with rfl|hy
     ·exact⟨eG,eG,eG⟩
     ·exact g1 y hy
    ·show((1,p,p+lI a)::lY (Sc.fresh 0 (-1)) (p+lI a) (a.drop (lI a))).getLast?=some x;rw[List.getLast?_cons,g2];rfl
   ·rw[OY dS,xV];refine⟨λy hy=>?_,(1,p,p+lI a),?_,rfl⟩
    ·obtain rfl:=tF.1 hy;exact⟨eG,eG,eG⟩
    ·rfl
  ·have hk:=FY s.dash s.blank (s.eT==0) (iV a) (λc hc=>hs c (Gl hc));have hr:=(wZ a [] h).2;have hn:(next 0 s.dash s.blank (s.eT==0) (iV a)).2<=jg a:=by
    have hl:=ru a;cases hrl:iV a with
    |nil=>rw[hrl]at hl;exact absurd hl.symm h0
    |cons c r=>
     have:=(zH 0 s.dash s.blank (s.eT==0) c r).2;rw[<-hrl,hl]at this;rw[<-hrl];exact this
   rw[hst,Q7 s a h0,ho]at hp⊢;obtain⟨k,m,aa⟩:∃k m,next 0 s.dash s.blank (s.eT==0) (iV a)=(k,m):=⟨_,_,rfl⟩
   rw[aa]at hp hk hn⊢;have hp1:0<m:=hp.1
   have hn1:m<=jg a:=hn;obtain⟨k1,k2,k3⟩:k≠8/\k≠9/\k≠18:=hk
   obtain⟨g1,x,g2,g3⟩:=ih (Sc.take s k m) (p+m) (a.drop m) jc (qN h dS) (λc hc=>hs c (LG hc)) (by
    show Sc.opens s.op k=0;unfold Sc.opens;rw[ho,dW dS]
    (repeat' split)<;>rfl) (by
    show(if k=18 then _ else s.least)=-1
    rw[dW k3,hm])
   refine⟨λy hy=>?_,x,?_,g3⟩
   ·rcases kY.1 hy with rfl|hy
    ·exact⟨k1,k2,k3⟩
    ·exact g1 y hy
   ·show((k,p,p+m)::lY (Sc.take s k m) (p+m) (a.drop m)).getLast?=some x;rw[List.getLast?_cons,g2];rfl
theorem BP(c:Nat)(r:List Nat)(h:c<128):Sc.bad (c::r)=false/\(Sc.yt (c::r)).2=1:=by
 have:Sc.yt (c::r)=((c:Int),1):=by
  unfold Sc.yt;exact Sg.Ez _ _ _ _ _ eG h
 unfold Sc.bad;rw[this];exact⟨eG,rfl⟩
theorem F5:∀(A B:List Nat)(f p:Nat),(∀c∈A,c<128)->∀x∈lQ f p (A++B),p+A.length<=x
 |[],B,f,p=>λ_ x hx=>by
  have key:∀(f p:Nat)(l:List Nat),∀x∈lQ f p l,p<=x:=by
   intro f
   induction f with
   |zero=>intro p l x hx;cases hx
   |succ f ih=>
    intro p l x hx;rw[lQ]at hx;split at hx
    ·cases hx
    ·split at hx
     ·rcases kY.1 hx with rfl|hx
      ·exact eO _
      ·have:=ih _ _ x hx;omega
     ·have:=ih _ _ x hx;omega
  exact key f p _ x hx
 |c::A,B,f,p=>λh x hx=>by
  cases f with
  |zero=>cases hx
  |succ f=>
   obtain⟨g1,g2⟩:=BP c (A++B) (h c eG);rw[Dm,lQ,dW eG,g1,dW eG,g2,xB,lM]at hx;have:=F5 A B f (p+1) (λc hc=>h c (by simp[hc])) x hx;rw[iR];omega
theorem IC:∀(A:List Nat)(f p:Nat),(∀c∈A,c<128)->lQ f p A=[]
 |[],f,p=>λ_=>by cases f<;>rfl
 |c::A,f,p=>λh=>by
  cases f with
  |zero=>rfl
  |succ f=>
   obtain⟨g1,g2⟩:=BP c A (h c eG);rw[lQ,dW eG,g1,dW eG,g2,xB,lM];exact IC A f (p+1) (λc hc=>h c (by simp[hc]))
theorem ID(m:Nat):∀{E:List Dg},By E->E.take (E.countP (λx=>decide (x.f<m)))=E.filter (λx=>decide (x.f<m))
 |[]=>λ_=>rfl
 |x::r=>λh=>by
  unfold By at h;rw[vI]at h;by_cases hx:x.f<m
  ·rw[qH,dX jJ,vJ,List.filter_cons,dX jJ,ID m h.2]
  ·have h0:∀y∈x::r,¬(y.f<m):=by
    intro y hy;rcases kY.1 hy with rfl|hy
    ·exact hx
    ·have:=(pZ x y).1 (h.1 y hy);omega
   rw[Gg.2 (λy hy=>by have:=h0 y hy;simpa using this),vT,List.filter_eq_nil_iff.2 (λy hy=>by have:=h0 y hy;simpa using this)]
theorem NP(A B:List Nat){f t:Nat}(hf:f<=t)(ht:t<=A.length):part (A++B) f t=part A f t:=by
 unfold part;rw[Vb dS,XR jc]
theorem adI(x B:List Nat)(depth:Nat)(hs:∀c∈x,Sc.still c/\c<128/\c≠9)(hl:x.length+1+B.length<=16384)(hd:1<=depth)(hd2:depth<=50):
 (tree ((x++[10])++B) depth).2.2.countP (λg=>decide (g.f<x.length+1))=(tree (x++[10]) depth).2.2.length/\
 (tree ((x++[10])++B) depth).2.2.take ((tree (x++[10]) depth).2.2.length)=(tree (x++[10]) depth).2.2:=by
 obtain⟨A,hA⟩:=eu (x++[10]);have aQ:A.length=x.length+1:=by rw[<-hA];simp
 have aj:∀c∈A,c<128/\c≠9/\Sc.still c:=by
  intro c hc;rw[<-hA]at hc;rcases kC.1 hc with hc|hc
  ·have:=hs c hc;exact⟨this.2.1,this.2.2,this.1⟩
  ·obtain rfl:=tF.1 hc;exact⟨dS,dS,by unfold Sc.still;omega⟩
 have az:Sc.ends A:=by rw[<-hA];unfold Sc.ends;rw[ahJ];rfl
 have aa:=Sc.OO x B (λc hc=>(hs c hc).1) hl;rw[hA]at aa⊢;obtain⟨LA,ae⟩:=eu (Sc.tokens A);obtain⟨LX,aF⟩:=eu ((Sc.tokens B).map (Sc.shift (x.length+1)));obtain⟨LB,ak⟩:=eu (Sc.tokens (A++B));rw[ae,aF,ak]at aa;have hq:=Tf A.length (Sc.fresh 0 (-1)) 0 A (eO _) az (λc hc=>(aj c hc).2.2) rfl rfl;rw[show Sc.lY (Sc.fresh 0 (-1)) 0 A=LA from by rw[<-ae,Sc.pE,dW dS]]at hq;obtain⟨hq1,z,hz1,hz2⟩:=hq;have af:Rw.jO 0 LA:=by rw[<-ae];exact Rw.iZ A
 have aG:Rw.jO 0 LB:=by rw[<-ak];exact Rw.iZ (A++B)
 have hlA:LA.length<=A.length:=by rw[<-ae];exact mq A
 have hlB:LB.length<=(A++B).length:=by rw[<-ak];exact mq (A++B)
 rw[iK]at hlB;have hF:jM LA LB:=by
  refine⟨⟨LX,aa⟩,λi hi=>?_,λhp=>?_⟩
  ·rw[lu (fu hi)];exact hq1 _ (OZ hi)
  ·rw[ahK]at hz1;rw[lu hz1];exact hz2
 have av:∀y∈LX,A.length<=y.2.1:=by
  intro y hy;rw[<-aF]at hy;obtain⟨w,_,rfl⟩:=tC.1 hy;show A.length<=w.2.1+(x.length+1)
  omega
 have ax:∀i,LA.length<=i->i<LB.length->A.length<=kW LB i:=by
  intro i h1 h2;obtain⟨w,hw⟩:∃w,LB[i]?=some w:=⟨_,fu h2⟩
  unfold kW;rw[hw];dsimp only;rw[aa,oH h1]at hw;exact av _ (gW hw)
 have hR:Rw.eF LB=Rw.eF LA++Rw.jq 0 LA.length LX:=by
  rw[Rw.NC,Rw.NC,aa,NM LX LA.length LA 0 (eO _) (λy hy=>⟨(hq1 y hy).1,(hq1 y hy).2.1⟩) (λ_=>⟨z,hz1,by unfold Rw.ends;rw[hz2];rfl⟩),jY]
 have hrows2:∀r∈Rw.jq 0 LA.length LX,lV LB r/\LA.length<=r.from':=by
  intro r hr;have:=(CR LB LB.length 0 LA.length dS).1 r (by rw[aa,List.drop_left];exact hr);exact⟨this.1,this.2⟩
 have hw0:Wi LA.length (start LA).s.t:=by
  have hn:fU (LA.length:Int)=[⟨1,0,LA.length,-1,[],false⟩]:=yT
  show Wi LA.length (fU (LA.length:Int));rw[hn];refine⟨rfl,eG,λi y hy w hw=>?_⟩;cases i with
  |zero=>
   have hy:(⟨1,0,LA.length,-1,[],false⟩:Nd)=y:=wB
   subst hy;cases hw
  |succ i=>simp at hy
 have hstart:start LB=iD (LB.length:Int) (start LA):=by
  have h1:fU (LA.length:Int)=[⟨1,0,LA.length,-1,[],false⟩]:=yT
  have h2:fU (LB.length:Int)=[⟨1,0,LB.length,-1,[],false⟩]:=yT
  unfold start iD nU;rw[h1,h2];rfl
 obtain⟨e1,_⟩:=zl af hF ⟨_,hR⟩ (n':=(LB.length:Int)) (by have:=hF.len;omega) depth (Rw.eF LA) (start LA) (rows_ok LA) hw0;rw[<-hstart]at e1;obtain⟨pA,aA⟩:=eu (iA LA (Rw.eF LA) depth (start LA) (Rw.eF LA));rw[aA]at e1;have aL:read LA depth=pA.s:=by unfold read;rw[aA]
 have aM:read LB depth=(iA LB (Rw.eF LB) depth (iD (LB.length:Int) pA) (Rw.jq 0 LA.length LX)).s:=by
  unfold read
  conv=>lhs;rw[show iA LB (Rw.eF LB) depth (start LB) (Rw.eF LB)=iA LB (Rw.eF LB) depth (start LB) (Rw.eF LA++Rw.jq 0 LA.length LX)from by rw[<-hR]]
  rw[IB,e1]
 obtain⟨i1,i2⟩:=rA (depth:=depth) aG (Rw.eF LA) (start LB) (λr hr=>⟨rows_ok LB r (by rw[hR];exact aev _ hr),fP _⟩) (oF LB dS) (fP _);rw[e1]at i1 i2;have hrd:pA.read<=LA.length:=by
  have:=(rA (depth:=depth) af (Rw.eF LA) (start LA) (λr hr=>⟨rows_ok LA r hr,fP _⟩) (oF LA dS) (fP _)).2;rw[aA]at this;exact this
 have hre:∀{e:Nat}{p:PS},Inv LB (0,(start LB).s) e p->Inv LB (LA.length,p.s) e p:=by
  intro e p h;have ho:∀{k e:Nat},OK LB (0,(start LB).s) k e p.s->OK LB (LA.length,p.s) k e p.s:=λh=>Fe.Ok.start h.ck h.fits h.lf h.no
  have hi:∀{k:Int}{e:Nat},vR LB (0,(start LB).s) k e p.s->vR LB (LA.length,p.s) k e p.s:=fun⟨m,h1,h2⟩=>⟨m,h1,ho h2⟩
  rcases h with⟨h1,h2,h3⟩|⟨d,h1,h2,h3⟩
  ·exact .inl ⟨h1,h2,ho h3⟩
  ·refine .inr ⟨d,h1,h2,?_⟩;cases hst:p.st with
   |nil=>rw[hst]at h3;exact hi h3
   |cons o r=>rw[hst]at h3;exact⟨hi h3.1,λg=>hi (h3.2 g)⟩
 have hI2:=hre i1;obtain⟨j1,_⟩:=rA (depth:=depth) aG (Rw.jq 0 LA.length LX) (iD (LB.length:Int) pA) hrows2 hI2 i2;have hroot:=j1.root;rw[<-aM]at hroot;obtain⟨ds,hds,hdw⟩:=hroot.TI;have hds:(read LB depth).d=(read LA depth).d++ds:=by rw[aL];exact hds
 have aB:∀g∈ds,A.length<=g.f:=by
  intro g hg;obtain⟨f,t,g1,g2,g3,g4,_⟩:=hdw g hg;rw[g4];exact ax f g1 dS
 have aN:∀g∈(read LA depth).d,g.f<A.length:=by
  intro g hg;obtain⟨f,t,_,g2,g3,g4,_⟩:=(xN LA depth af dS).2.2.2 g hg;have hf:LA[f]?=some LA[f]:=fu dS;have k1:=(af.le f _ hf).2;have k2:=mJ A LA[f] (by rw[ae];exact OZ (show f<LA.length by omega));rw[g4];unfold kW;rw[hf];dsimp only;omega
 have aO:lQ A.length 0 A=[]:=IC A _ _ (λc hc=>(aj c hc).1);have htab:∀(Q:List Nat),(∀c∈Q,c≠9)->Q.contains 9=false:=by
  intro Q hQ;rw[Lu];intro h;rw[U9]at h;exact hQ 9 h rfl
 have ay:∀f t,∀c∈part A f t,c≠9:=λf t c hc=>(aj c (LG (Gl hc))).2.1
 have aC:(Rw.eF LA).flatMap (tabs A LA)=[]:=by
  rw[List.flatMap_eq_nil_iff];intro r _;unfold tabs;split
  ·rw[List.filterMap_eq_nil_iff];intro i _;rw[dW (by rw[htab _ (ay _ _)];simp)]
  ·rfl
 have aH:∀y∈LA,iF (A++B) y=iF A y:=by
  intro y hy;obtain⟨j,hj⟩:=jy hy;have k1:=(af.le j y hj).2;have k2:=mJ A y (by rw[ae];exact hy);unfold iF;rw[NP A B dS k2.2]
 have aI:jA A LA=LA.flatMap (iF A):=by
  unfold jA;rw[aO,aC];rfl
 have aD:∀g∈jA A LA,g.f<A.length:=by
  intro g hg;rw[aI]at hg;obtain⟨y,hy,hg⟩:=Ce.1 hg;obtain⟨j,hj⟩:=jy hy;have k1:=(af.le j y hj).2;have k2:=mJ A y (by rw[ae];exact hy);unfold iF at hg;split at hg
  ·rcases kC.1 hg with hg|hg
   ·split at hg
    ·cases hg
    ·obtain rfl:=tF.1 hg;show y.2.1<_;omega
   ·obtain⟨q,hq,rfl⟩:=tC.1 hg;have:=Ae _ _ q hq;unfold part at this;rw[jl,mX,ky]at this;show y.2.1+q<_;omega
  ·cases hg
 have aJ:∀g,g.f<A.length->(g∈jA (A++B) LB↔g∈jA A LA):=by
  intro g hg;rw[aI];unfold jA;rw[kC,kC];constructor
  ·rintro((h|h)|h)
   ·obtain⟨p,hp,rfl⟩:=tC.1 h;have:=F5 A B _ 0 (λc hc=>(aj c hc).1) p hp;exact absurd hg (by show¬p<_;omega)
   ·exfalso;obtain⟨r,hr,h⟩:=Ce.1 h;unfold tabs at h;split at h
    ·obtain⟨i,_,h⟩:=ahP.1 h;split at h
     ·rename_i hc;injection h with h
      subst h;have hi:=Rb (l:=LB) (i:=r.from'+i) dS;by_cases hlt:r.from'+i<LA.length
      ·rw[hF.kW hlt,hF.too hlt]at hc;have hgt:LA[r.from'+i]?=some LA[r.from'+i]:=fu hlt;have k1:=(af.le _ _ hgt).2;have k2:=mJ A LA[r.from'+i] (by rw[ae];exact OZ hlt);have hft:kW LA (r.from'+i)<=too LA (r.from'+i)/\too LA (r.from'+i)<=A.length:=by
        unfold kW too;rw[hgt];dsimp only;omega
       rw[NP A B hft.1 hft.2,htab _ (ay _ _)]at hc;simp at hc
      ·have:=ax _ dS hi;have hg:kW LB (r.from'+i)<A.length:=hg
       omega
     ·cases h
    ·cases h
   ·obtain⟨y,hy,h⟩:=Ce.1 h;rw[aa]at hy;rcases kC.1 hy with hy|hy
    ·exact Ce.2 ⟨y,hy,by rw[<-aH y hy];exact h⟩
    ·exfalso;have k:=av y hy;unfold iF at h;split at h
     ·rcases kC.1 h with h|h
      ·split at h
       ·cases h
       ·obtain rfl:=tF.1 h;have hg:y.2.1<A.length:=hg
        omega
      ·obtain⟨q,_,rfl⟩:=tC.1 h;have hg:y.2.1+q<A.length:=hg
       omega
     ·cases h
  ·intro h;obtain⟨y,hy,h⟩:=Ce.1 h;refine .inr (Ce.2 ⟨y,?_,by rw[aH y hy];exact h⟩);rw[aa];exact aev _ hy
 have ag:(tree A depth).2.2=qP ((read LA depth).d++jA A LA):=by
  unfold tree;rw[dW dS,ae]
 have ah:(tree (A++B) depth).2.2=qP ((read LB depth).d++jA (A++B) LB):=by
  unfold tree;rw[dW dS,ak]
 obtain⟨D,hD⟩:=eu ((tree A depth).2.2);obtain⟨E,hE⟩:=eu ((tree (A++B) depth).2.2);rw[hD,hE];have aP:By D:=by rw[<-hD,ag];exact wU _
 have aK:By E:=by rw[<-hE,ah];exact wU _
 have ai:E.filter (λg=>decide (g.f<x.length+1))=D:=by
  refine Re (List.Pairwise.filter _ aK) aP (λg=>?_);rw[ahO,<-hE,<-hD,ag,ah,ry,ry,kC,kC,hds,kC];simp only[LM];constructor
  ·rintro⟨(h|h)|h,hlt⟩
   ·exact .inl h
   ·have:=aB g h;omega
   ·exact .inr ((aJ g dS).1 h)
  ·rintro(h|h)
   ·exact⟨.inl (.inl h),by have:=aN g h;omega⟩
   ·have:=aD g h;exact⟨.inr ((aJ g this).2 h),dS⟩
 have hcnt:E.countP (λg=>decide (g.f<x.length+1))=D.length:=by
  rw[ael,ai]
 refine⟨hcnt,?_⟩;rw[<-hcnt,ID _ aK,ai]
end Ps
section
open Go.RowKit
open Sg
open Sq
open Ar
theorem adJ{w:World}{a:Option Addr}{s:ByteArray}{cap j:Nat}(h:qR w (.slice a s.size cap) s)(hj:j<s.size):
 ∃b off,a=some ⟨b,off,none⟩/\s.size<=cap/\w.cell? ⟨b,off+j,none⟩=some (.int .u8 (s.get! j).toNat):=by
 rcases h with⟨hv,h0⟩|⟨b,off,cap',hv,g2,g3,g4⟩
 ·omega
 ·obtain⟨rfl,-,rfl⟩:=lX hv;exact⟨b,off,rfl,g2,g4 j hj⟩
theorem Xl{S:ByteArray}(h:∀j,j<S.size->Sc.still (S.get! j).toNat):∀c∈Sc.eH S,Sc.still c:=by
 intro c hc;obtain⟨i,hi⟩:=jy hc;have hlt:=(eY.1 hi).1;rw[Sc.fM]at hlt;have:=h i hlt;have e:c=(S.get! i).toNat:=by
  unfold Sc.eH at hi;rw[kS]at hi;obtain⟨x,hx,rfl⟩:=akn.1 hi;rw[<-AJ,xC,hx];rfl
 rw[e];exact this
theorem Xm{S:ByteArray}(hL:DK S)(hS:∀c∈Sc.eH S,Sc.still c)(B:List Nat)(hb:S.size+B.length<=16384):
 (Ps.tree (Sc.eH S++B) 20).2.2.countP (λg=>decide (g.f<S.size))=(Ps.tree (Sc.eH S) 20).2.2.length/\
 (Ps.tree (Sc.eH S++B) 20).2.2.take ((Ps.tree (Sc.eH S) 20).2.2.length)=(Ps.tree (Sc.eH S) 20).2.2:=by
 rcases hL.last with h|⟨x,h⟩
 ·have hn:Sc.eH S=[]:=by unfold Sc.eH;rw[h];rfl
  have hz:S.size=0:=by rw[<-Sc.fM,hn];rfl
  have ht:(Ps.tree [] 20).2.2=[]:=by
   have:(Ps.tree [] 20).2.2.length=0:=gV
   exact l9 this
  rw[hn,ht,hz];refine⟨?_,rfl⟩;rw[Gi,Gg];intro g _;simp
 ·have hn:Sc.eH S=x.map UInt8.toNat++[10]:=by unfold Sc.eH;rw[h,yF];rfl
  have hz:S.size=(x.map UInt8.toNat).length+1:=by rw[<-Sc.fM,hn,iK];rfl
  have hs:∀c∈x.map UInt8.toNat,Sc.still c/\c<128/\c≠9:=by
   intro c hc;obtain⟨u,hu,rfl⟩:=tC.1 hc;have h1:=hL.plain u (by rw[h];exact aev _ hu);refine⟨hS _ (by rw[hn];exact aev _ hc),?_,?_⟩
   ·have:=UInt8.lt_iff_toNat_lt.1 h1.1;simpa using this
   ·intro e;exact h1.2 (XV.1 e)
  have:=Ps.adI (x.map UInt8.toNat) B 20 hs dS dU dU;rw[<-hn,<-hz]at this;exact this
def I5(D:List Fl.Dg)(N i:Nat):Nat:=(D.take i).countP (λg=>decide (g.f<N))
theorem Xn{D:List Fl.Dg}{N i:Nat}{x:Fl.Dg}(h:D[i]?=some x):I5 D N (i+1)=I5 D N i+(if x.f<N then 1 else 0):=by
 have hi:=(eY.1 h).1;have he:=(eY.1 h).2;unfold I5;rw[Ve hi,rZ,he,XN];by_cases hk:x.f<N
 ·simp[hk]
 ·simp[hk]
theorem U2(D:List Fl.Dg)(N i:Nat):I5 D N i<=i:=by
 unfold I5;have:=XL (p:=λg:Fl.Dg=>decide (g.f<N)) (l:=D.take i);rw[mX]at this;omega
theorem adK(D:List Fl.Dg)(N:Nat):I5 D N D.length=D.countP (λg=>decide (g.f<N)):=by unfold I5;rw[LJ]
theorem Tg:prog.underlying 32=some (.slice (prog.elem 32)):=dV
theorem Ti(w:World):(sizeOf (prog.elem 32)).run prog w=.ok 3 w:=dV
theorem Tj{w:World}{a:Option Addr}{cap n:Nat}{D:List Fl.Dg}(h:Reads fK w (.slice a D.length cap) D)(hn:n<=D.length):
 ∃v,(∀W:World,(Instr.slice 32 (.slice a D.length cap) none (some (.int .i64 (n:Int))) none).run prog W=.ok v W)/\Reads fK w v (D.take n):=by
 have hcap:D.length<=cap/\cap<=maxLen:=by
  rcases h with⟨hv,h0⟩|⟨b,off,cap',hv,g2,g3,g4⟩
  ·obtain⟨rfl,-,rfl⟩:=lX hv;subst h0;exact⟨eO _,fP _⟩
  ·obtain⟨rfl,-,rfl⟩:=lX hv;exact⟨g2,g3⟩
 refine⟨.slice a n cap,λW=>?_,?_⟩
 ·rw[aeL W _ a D.length cap Tg .i64 n dS dS,Ti];cases a<;>simp[Result.andThen,sliced,Addr.add]
 ·rcases h with⟨hv,h0⟩|⟨b,off,cap',hv,g2,g3,g4⟩
  ·obtain⟨rfl,-,rfl⟩:=lX hv;subst h0;have:n=0:=by simpa using hn
   subst this;exact .inl ⟨rfl,rfl⟩
  ·obtain⟨rfl,-,rfl⟩:=lX hv;refine .inr ⟨b,off,cap,by rw[mX,IW hn],nX,g3,λj x hx i u hu=>g4 j x ?_ i u hu⟩;have hj:=(eY.1 hx).1;rw[mX]at hj;rw[<-hx,tu dS]
theorem Cy(v0:Value)(l0:List Int)(v1:Value)(l1:List Int)(w:World)(h0:tK .i64 w v0 l0)(h1:tK .i64 w v1 l1)(hT:oZ w):
 Calls prog 8 #[v0,v1] w λe w'=>e=.returned (.bool true)/\Below w.heap.size w w':=by
 have HQ:=dY (λw'=>show Below w.heap.size w w'->(λe (w':World)=>e=Ending.returned (.bool true)/\Below w.heap.size w w') (.returned (.bool true)) w' from λh=>⟨rfl,h⟩);obtain⟨Q,hQ⟩:=eu ((λe (w':World)=>e=Ending.returned (.bool true)/\Below w.heap.size w w'));rw[hQ]at HQ⊢;have HK:=dY (Bl w hT);have HT:=dY (λW (hW:Below w.heap.size w W)=>hT.below hW);have Ja:=dY (λW (hW:Below w.heap.size w W)=>uG v0 l0 W (h0.below hW));have F9:=dY (λW (hW:Below w.heap.size w W)=>uG v1 l1 W (h1.below hW));clear hQ hT h0 h1
 go_enter func8,ntmps8
 go_wp2_with fail
 refine HK.out.mono ?_;rintro e w1 ⟨rfl,hb1⟩;have HB1:=dY hb1;clear hb1 HK;go_wp2_with fail
 refine(Ja.out w1 HB1.out).mono ?_;rintro e w2 ⟨v,S,rfl,ae,hSz,hLn,hb2⟩;clear Ja;have hb2:=eD HB1.out hb2;have htr:=DJ w2 v S 20 ae (HT.out _ hb2) dS dU dU;rw[show((20:Nat):Int)=20 from rfl]at htr;obtain⟨pa,pc,rfl⟩:=ae.shape;obtain⟨X,hX⟩:=eu (Ps.tree (Sc.eH S) 20);rw[hX]at htr;obtain⟨TK,aJ⟩:=eu (X.1.length);obtain⟨TL,hTL⟩:=eu (X.2.1.length);obtain⟨DL,aK⟩:=eu (X.2.2.length);obtain⟨N,hN⟩:=eu (S.size);have aL:=dY ae;rw[hN]at htr⊢;obtain⟨HN,HX,PD,HB2,aY,aZ⟩:=kG hN hX htr hb2 aJ hTL;obtain⟨aA,bf⟩:=fw aK hLn;have hNb:N<=600:=dS
 clear htr hb2 aJ hTL aK hLn hX hN hSz ae;go_wp2_with fail
 refine PD.out.mono ?_;intro e w3 pN;obtain⟨tv,nv,dv,rfl,hth,hb3⟩:=pN.three;obtain⟨ta,tc,na,nc,da,dc,rfl,rfl,rfl⟩:=hth.shapes aY.out aZ.out aA.out;have HB3:=dY (eD HB2.out hb3);have hdg:=hth.reads.2.2;obtain⟨W,hW⟩:=eu (w3.alloc (.cells #[.slice na TL nc] 31));have hbW:Below w3.heap.size w3 W:=hW▸dZ w3 _;have HBW:=dY (eD HB3.out hbW);have aB:=dY (aL.out.below (eD hb3 hbW));have bg:=dY (hdg.below hbW);have HD:=dY (HQ.out _ (eD HB3.out hbW));have HW:=dY hW;clear pN hth hb3 hdg hbW hW aL PD;go_upto_region 6 with fail
 rw[HW.out]
 go_loopw [9] (λiv wr=>∃i:Nat,iv=.int .i64 (i:Int)/\i<=N/\Hid (∀j,j<i->Sc.still (S.get! j).toNat)/\wr=W) (λiv _=>N-(intOf iv).toNat)
 case atStart=>exact⟨0,rfl,dS,dY (λj hj=>absurd hj (pK j)),rfl⟩
 case round=>
  obtain⟨i,rfl,hi,aC,rfl⟩:=hrel;by_cases hlt:i<N
  ·have g1:(i:Int)<(N:Int):=by omega
   have hby:=aB.out;obtain⟨b,off,rfl,hcap,c1⟩:=adJ hby (show i<S.size by rw[HN.out];exact hlt);rw[HN.out]at hcap;obtain⟨c,hc⟩:=eu ((S.get! i).toNat);rw[hc]at c1;have HC:=dY hc;clear hc hby;by_cases e1:c=91
   ·have n1:((c:Int)==91)=true:=by simp[e1]
    clear e1;go_wp2_with fail
    exact ll
   ·have n1:((c:Int)==91)=false:=by simp;omega
    by_cases e2:c=123
    ·have n2:((c:Int)==123)=true:=by simp[e2]
     clear e1 e2;go_wp2_with fail
     exact ll
    ·have n2:((c:Int)==123)=false:=by simp;omega
     by_cases e3:c=124
     ·have n3:((c:Int)==124)=true:=by simp[e3]
      clear e1 e2 e3;go_wp2_with fail
      exact ll
     ·have n3:((c:Int)==124)=false:=by simp;omega
      by_cases e4:c=62
      ·have n4:((c:Int)==62)=true:=by simp[e4]
       clear e1 e2 e3 e4;go_wp2_with fail
       exact ll
      ·have n4:((c:Int)==62)=false:=by simp;omega
       have aM:=dY (show∀j,j<i+1->Sc.still (S.get! j).toNat from λj hj=>by
        by_cases hji:j=i
        ·subst hji;rw[HC.out];exact⟨e1,e2,e3,e4⟩
        ·exact aC.out j dS)
       clear e1 e2 e3 e4;go_wp2_with fail
       go_roundw
       case rel=>exact⟨i+1,fH,dS,aM,trivial⟩
       case measure=>simp[intOf];omega
  ·obtain rfl:i=N:=by omega
   have g1:¬((i:Int)<(i:Int)):=dS
   have HS:=dY (Xl (λj hj=>aC.out j (by rw[<-HN.out];exact hj)));have ag:=dY (show qR wr (.slice pa i pc) S by have h:=aB.out;rw[HN.out]at h;exact h);have aN:=Xe wr;have aD:=dY aN;have af:=dY (dZ wr (.cells #[] 5));clear aN aC aB hlt g1 hi;go_wp2_with (at_builtin;go_must (refine oP rfl (.tmp 58) (.tmp 59) rfl wr.heap.size _ _ _ rfl aD.out _ S rfl (ag.out.below af.out) (by have:=HN.out;omega) (by have:=af.out.size;omega) ?_;intro v3 w4 hown3 hg3))
   have hb4:Below wr.heap.size wr w4:=af.out.grown hg3 (by have:=af.out.size;omega) (λj hj=>(aD.out.lt j hj).1);rw[jY,XP,HN.out]at hown3;obtain⟨Cw,Hb4,qQ⟩:=je hown3 hb4 (eD HBW.out hb4);clear hown3 hg3 hb4 aD af ag;go_wp2_with fail
   refine(F9.out w4 qQ.out).mono ?_;rintro e w5 ⟨v5,S2,rfl,ah,bD,-,hb5⟩;obtain⟨aF,ai⟩:=fw (eZ Cw.out hb5) ah;have Hb5:=dY (Hb4.out.trans (hb5.mono Hb4.out.size));clear ah hb5 F9 Cw Hb4;go_wp2_with (at_builtin;go_must (refine oP rfl (.tmp 60) (.tmp 62) rfl wr.heap.size v3 _ _ rfl aF.out _ S2 rfl ai.out dS Hb5.out.size ?_;intro v6 w6 hown6 aO))
   have hb6:Below wr.heap.size wr w6:=Hb5.out.grown aO Hb5.out.size (λj hj=>(aF.out.lt j hj).1);have aj:(S++S2).size=i+S2.size:=by rw[ni,HN.out]
   have ak:qR w6 v6 (S++S2):=qR.own (by rw[Cq,aj];exact hown6);have aG:=eD HBW.out hb6;have htr:=DJ w6 v6 (S++S2) 20 ak (HT.out _ aG) dS dU dU;rw[show((20:Nat):Int)=20 from rfl,Sc.Mw]at htr;obtain⟨hf1,hf2⟩:=Xm bf.out HS.out (Sc.eH S2) (by rw[HN.out,Sc.fM];omega);rw[HX.out,HN.out,aA.out]at hf1;rw[HX.out,aA.out]at hf2;obtain⟨E,hE⟩:=eu (Ps.tree (Sc.eH S++Sc.eH S2) 20);rw[hE]at htr hf1 hf2;obtain⟨bF,av⟩:∃TK,E.1.length=TK:=⟨_,rfl⟩
   obtain⟨bn,ax⟩:∃TL,E.2.1.length=TL:=⟨_,rfl⟩
   obtain⟨EL,aP⟩:∃DL,E.2.2.length=DL:=⟨_,rfl⟩
   obtain⟨PD,aQ,aR,aa,bq,bz⟩:=kG htr av ax aP hf1 hf2;obtain⟨ay,tN⟩:=fw (bg.out.below hb6) aG;clear htr av ax aP hf1 hf2 hb6 aG ak aj hown6 aO aF ai Hb5 hE HS;go_wp2_with fail
   refine PD.out.mono ?_;intro e w7 pN;obtain⟨tv,nv,dv,rfl,hth,aH⟩:=pN.three;obtain⟨bG,bH,bA,bB,ea,ec,rfl,rfl,rfl⟩:=hth.shapes aQ.out aR.out aa.out;have hdg:=hth.reads.2.2;have az:=hdg.size_le;have bE:EL<=9223372036854775807:=iU (aa.out▸az) dU;obtain⟨W2,hW2⟩:∃W,w7.alloc (.cells #[.slice bA bn bB] 31)=W:=⟨_,rfl⟩
   have hbW:Below w7.heap.size w7 W2:=hW2▸dZ w7 _;have aS:=dY (eD (eD tN.out aH) hbW);have aT:=dY (ay.out.below (eD aH hbW));have aU:=dY (hdg.below hbW);have Ga:=dY (fun(j:Nat)(x:Fl.Dg)(hj:E.2.2[j]?=some x)=>lH (a:=ea) (cap:=ec) (D:=E.2.2) (by rw[aa.out];exact aU.out) j x hj);have HW2:=dY hW2;clear pN hth aH hdg hbW hW2 PD az ay;go_upto_region 13 with fail
   try rw[HW2.out]
   go_loopw [13,14] (λcv iv wr=>∃j:Nat,iv=.int .i64 (j:Int)/\j<=EL/\cv=.int .i64 (I5 E.2.2 i j:Int)/\wr=W2) (λ_ iv _=>EL-(intOf iv).toNat)
   case atStart=>exact⟨0,rfl,dS,rfl,rfl⟩
   case round=>
    obtain⟨j,rfl,hj,rfl,rfl⟩:=hrel;have hC:=U2 E.2.2 i j;by_cases hlt:j<EL
    ·have g1:(j:Int)<(EL:Int):=by omega
     obtain⟨x,hx⟩:∃x,E.2.2[j]?=some x:=⟨_,fu (by rw[aa.out];exact hlt)⟩
     obtain⟨nb,off,rfl,c0,c1,c2⟩:=Ga.out j x hx;have hs:=Xn (N:=i) hx;obtain⟨C,aV⟩:=eu (I5 E.2.2 i j);rw[aV]at hs hC⊢;have HS:=dY hs;clear hs hx aV c0 c2;obtain⟨xf,bC⟩:=eu (x.f);rw[bC]at c1 HS;by_cases e:xf<i
     ·have g2:(xf:Int)<(i:Int):=by omega
      exact aav
     ·have g2:¬((xf:Int)<(i:Int)):=by omega
      exact aau
    ·obtain rfl:j=EL:=by omega
     have g1:¬((j:Int)<(j:Int)):=dS
     have hall:=adK E.2.2 i;rw[aa.out,bq.out]at hall;rw[hall];have aW:DL<=E.2.2.length:=by
      have:=U2 E.2.2 i j;rw[hall]at this;rw[aa.out];exact this
     obtain⟨fv,hsl,aI⟩:=Tj (a:=ea) (cap:=ec) (D:=E.2.2) (by rw[aa.out];exact aU.out) aW;rw[bz.out]at aI;rw[aa.out]at hsl;have aX:=dY (abG fv (.slice da DL dc) X.2.2 wr aI aT.out);have g2:((DL:Int)==(DL:Int))=true:=eG
     clear hall hC aW aI;go_wp2_with fail
     refine aX.out.mono ?_;rintro e w9 ⟨rfl,GJ⟩;have HD:=dY (HQ.out _ (eD aS.out GJ));clear GJ aX hsl;go_wp2_with fail
     exact ll
end
namespace parseFirstDone
open Go.ChangeShapes Go.WideShapes Go.ChangeAt Go.RowKit
open Go.ChangeMaps (open_string shut_string)
theorem contract(H:Type)(enc:TypeId×Value->H)(W:World)(base:Nat)(args:Array Value)(ds gs:List (DataW H))(before:List MemPlace)
 (hval:∀(j:Nat) t v,Tryz.f8.params[j]?=some t->args[j]?=some v->Value.okWide prog W .any base t v)
 (hW:DataW.Whole enc prog Tryz.f8.params.toList Rows.parseFirstSpec.vars false W args.toList ds gs before) (hL:laidMetH prog Rows.parseFirstRow.laid W):
 Calls prog 8 args W λe W'=>∃v,e=.returned v/\Rows.parseFirstSpec.post enc prog Tryz.f8 false true false false W args v W':=by
 have ae:=hW;obtain⟨p,q,aa,hV,rfl,hfz,hnd⟩:=hW;have hA:DataW.TrodAll enc prog W 0 (λ_=>true) true Tryz.f8.params.toList args.toList ds p:=aa;rw[params8]at hA hval;obtain⟨v0,ah,d0,ds0,p0,q0,hargs,rfl,rfl,h0,r0⟩:=trodAll_cons hA;obtain⟨v1,vs1,d1,ds1,p1,q1,rfl,rfl,rfl,h1,r1⟩:=trodAll_cons r0;obtain⟨rfl,rfl,rfl⟩:=trodAll_nil r1;obtain rfl:args=#[v0,v1]:=AU
 obtain⟨rfl,rfl⟩:=trodVars_none hV;have k0:=h0;have af:∀x∈p0,x.block<W.heap.size:=JD
 obtain⟨s0,w0⟩:=lC underlying22 underlying3 dV (hval 0 22 v0 rfl rfl) h0;have k1:=h1;have ag:∀x∈p1,x.block<W.heap.size:=Qn
 obtain⟨s1,w1⟩:=lC underlying22 underlying3 dV (hval 1 22 v1 rfl rfl) h1;clear aa hval;refine(Cy v0 s0 v1 s1 W w0 w1 (mO hL)).mono λe W' ⟨he,kL⟩=>?_
 subst he;exact⟨_,rfl,_,_,_,[],_,[],ae,trodAll_mk1 (Vh underlying4 _),(trodAll_cons_mk (Below.trod laidOut dV (pM dV) k0 kL af) (trodAll_cons_mk (Below.trod laidOut dV (pM dV) k1 kL ag) trodAll_mk0)),rfl,kL.frame _,λh=>fV⟩
theorem mi(os:Os):laidMet prog Rows.parseFirstRow.laid ((iP os).forCall (λ_ _=>0) ⟨#[],#[.slice none 0 0,.slice none 0 0],[]⟩).memory:=
 laidMet_of_run' 8 dV dV
theorem reads(os:Os){H:Type}(enc:TypeId×Value->H):∃places,DataW.whole enc prog ((iP os).forCall (λ_ _=>0) ⟨#[],#[.slice none 0 0,.slice none 0 0],[]⟩).memory Tryz.f8.params.toList Rows.parseFirstSpec.vars false (#[.slice none 0 0,.slice none 0 0]:Array Value).toList 8=some ([.nil,.nil],[],places):=
 ⟨[],dV⟩
theorem lifted(os:Os)(started:os.Started)(H:Type)(enc:TypeId×Value->H)(F:Stop.Interp):
 ReturnsInHanded {} Tryz.checked os 8 .any ((OpenSpec.ofChange Rows.parseFirstSpec).preRow enc prog Tryz.f8 Rows.parseFirstRow.domain false Rows.parseFirstRow.laid) (((OpenSpec.ofChange Rows.parseFirstSpec).at F).post enc prog Tryz.f8 false true false false):=by
 obtain⟨places,hx⟩:=reads os enc;refine returnsInHanded_of_row (C:=Tryz.checked) (s:=OpenSpec.ofChange Rows.parseFirstSpec) own started dV func8
  (witness_row_at (enc:=enc) (C:=Tryz.checked) false (iP os) #[.slice none 0 0,.slice none 0 0] rfl dV dV dV
   (OpenSpec.preRow_of_cond 8 hx dV (λk hk=>wF) dV (mi os))) ?_
 intro W base args ds gs before hval hW _ _ _ hL _ _;exact contract H enc W base args ds gs before hval hW hL
theorem said:Rows.ParseFirstSaid:=
 OpenClaim.holds_of_cond 8 Tryz.f8 rfl rfl rfl rfl rfl rfl rfl ⟨rfl,rfl,rfl,rfl,rfl⟩ rfl rfl rfl rfl rfl dV func8 dV
  (pM dV) (by unfold Func.isWrapper;first|(rw[dX gV];kernel_rfl)|(rw[dW gV];exact⟨rfl,rfl⟩))
  (λos started H enc _ F=>AV)
theorem plain(f:FuncId)(fn:Func)(hf:Tryz.pinned.checked.prog.funcNamed "corrector/correctorlaw12.ParseFirst"=some f)(hfn:Tryz.pinned.checked.prog.funcs[f]?=some fn):
 true=Tryz.pinned.checked.prog.looks []/\∀(j:Nat) t,fn.params[j]?=some t->Tryz.pinned.checked.prog.wantsStandIn t=false:=by
 obtain rfl:f=8:=iG ((show prog.funcNamed "corrector/correctorlaw12.ParseFirst"=some 8 by kernel_rfl).symm.trans hf)|>.symm
 obtain rfl:fn=Tryz.f8:=(iG (func8.symm.trans hfn)).symm;refine⟨dV,λj t ht=>?_⟩;rw[params8]at ht;have hall:([22,22]:List TypeId).all (λu=>!prog.wantsStandIn u)=true:=dV
 have hin:t∈([22,22]:List TypeId):=AX
 have h2:prog.wantsStandIn t=false:=AY
 exact h2
theorem card:Rows.ParseFirstCardSaid:=
 Claim7.holds_tied_plain_at .later [] _ _ _ _ said (λ_ h=>fV) dV (λ_ h=>fV) parseFirst_row_tie rfl ⟨rfl,rfl⟩ dV rfl plain dV
#print axioms card
end parseFirstDone
end Go.Proofs.YtmkkdjpebbdikaaGreatDoor

import Derived.Test.YtmkkdjpebbdikaaGreatDoorZb36
set_option linter.all false
set_option maxHeartbeats 16000000
set_option maxRecDepth 100000
namespace Go.Proofs.YtmkkdjpebbdikaaGreatDoor
open Go.RowKit Go.Proofs.Tryz
namespace Ar
def rY(l:List Nd)(i:Nat)(x:Nd):Int->List Int->Bool
 |_,[]=>true
 |p,n::r=>if n<=0\/(l.length:Int)<=n then false else match l[n.toNat]? with
  |none=>false
  |some c=>if c.u≠(i:Int)\/c.f<p\/x.t<c.t\/c.t<c.f then false else rY l i x c.t r
def GY(l:List Nd)(i:Nat):Bool:=match l[i]? with
 |none=>false
 |some x=>rY l i x x.f x.ks
def Cb(l:List Nd)(i:Nat)(n:Nat):Nat:=((l.take i).flatMap (·.ks)).countP (λz=>z==(n:Int))
def zR(l:List Nd)(n:Int):Bool:=match l with
 |[]=>false
 |x::_=>!(decide (x.k≠1)||decide (x.f≠0)||decide (x.t≠n)||decide (x.u≠-1)||decide (n<0))
def Ev(l:List Nd)(i:Nat):Bool:=match l[i]? with
 |none=>false
 |some x=>!(decide (0<i)&&(decide (x.u<0)||decide ((i:Int)<=x.u)))&&GY l i
def checkN(l:List Nd)(n:Int):Bool:=zR l n&&(List.range l.length).all (Ev l)&&(List.range l.length).all (λi=>i==0||Cb l l.length i==1)
end Ar
namespace Ar
theorem UX(l:List Nd)(i:Nat)(x:Nd):∀(ks:List Int)(p:Int),(∀z∈ks,∃(j:Nat)(y:Nd),z=(j:Int)/\0<j/\l[j]?=some y/\y.u=(i:Int)/\p<=y.f/\y.f<=y.t/\y.t<=x.t)->
 ks.Pairwise (Mc l)->rY l i x p ks=true
 |[],p=>λ_ _=>rfl
 |z::r,p=>λhk ho=>by
  obtain⟨j,y,rfl,h0,hy,h1,h2,h3,h4⟩:=hk z eG;have hj:=(eY.1 hy).1;rw[rY,dW dS,jd,hy];dsimp only;rw[dW dS];rw[vI]at ho;refine UX l i x r y.t (λz hz=>?_) ho.2;obtain⟨j',y',rfl,g0,gy,g1,g2,g3,g4⟩:=hk z (by simp[hz]);exact⟨j',y',rfl,g0,gy,g1,(ho.1 _ hz).2 y y' AO (by rw[jd];exact gy),g3,g4⟩
theorem TH.check{l:List Nd}{n:Int}(h:Ck l n):checkN l n=true:=by
 unfold checkN;rw[rO,rO];refine⟨⟨?_,?_⟩,?_⟩
 ·obtain⟨x,r,rfl,h1,h2,h3,h4,h5⟩:=h.first;simp[zR,h1,h2,h3,h4,h5]
 ·rw[IQ];intro i hi;rw[yH]at hi;obtain⟨x,hx⟩:∃x,l[i]?=some x:=⟨_,fu hi⟩
  have hk:GY l i=true:=by
   unfold GY;rw[hx];exact UX l i x x.ks x.f (λz hz=>by obtain⟨j,y,h1,h2,h3,h4,h5,h6,h7⟩:=h.kid i x hx z hz;exact⟨j,y,h1,h2,h3,h4,h5,h6,h7.elim id False.elim⟩) (h.ord i x hx)
  unfold Ev;rw[hx];dsimp only;rw[hk];rcases rP i with rfl|h0
  ·simp
  ·have:=h.up i x h0 hx;rw[show decide (x.u<0)=false from ic dS,show decide ((i:Int)<=x.u)=false from ic dS];simp
 ·rw[IQ];intro i hi;rw[yH]at hi;rcases rP i with rfl|h0
  ·rfl
  ·have:=h.seen i h0 hi;unfold Cb;rw[LJ,this];simp
end Ar
namespace Ps
open Ar Fl
theorem Io(P:Dg->Bool):∀{s:List Dg},By s->∀x∈s,P x=true->(∀y∈s,P y=true->y=x)->s.countP P=1
 |[]=>λ_ x hx=>qU
 |z::r=>λh x hx hp hu=>by
  unfold By at h;rw[vI]at h;rw[qH];rcases kY.1 hx with rfl|hx
  ·rw[dX hp];have:r.countP P=0:=by
    rw[Gg];intro y hy hpy;have:=hu y (by simp[hy]) hpy;subst this;have:=h.1 y hy;rw[wT]at this;cases this
   omega
  ·have hz:P z=false:=by
    rw[Lu];intro hz;have:=hu z eG hz;subst this;have:=h.1 z hx;rw[wT]at this;cases this
   rw[hz,Io P h.2 x hx hp (λy hy=>hu y (by simp[hy]))];simp
theorem SX(P:Dg->Bool)(l:List Dg)(h:l.countP P=1):(qP l).countP P=1:=by
 have hpos:0<l.countP P:=dS
 rw[Va]at hpos;obtain⟨x,hx,hp⟩:=hpos;refine Io P (wU l) x ((ry l x).2 hx) hp (λy hy hpy=>?_);have hy:=(ry l y).1 hy;have hf:(l.filter P).length=1:=by rw[<-ael];exact h
 obtain⟨z,hz⟩:=List.length_eq_one_iff.1 hf;have h1:x∈l.filter P:=ahO.2 ⟨hx,hp⟩;have h2:y∈l.filter P:=ahO.2 ⟨hy,hpy⟩;rw[hz,tF]at h1 h2;rw[h1,h2]
end Ps
namespace Ps
open Ar Fl
open Rw (R E)
theorem Ip(P:Dg->Bool)(x:Dg):∀o:List Dg,(P x=true->x∉o)->(xD x o).countP P=o.countP P+(if P x=true then 1 else 0)
 |[]=>λ_=>by rw[xD,qH]
 |z::r=>λh=>by
  rw[xD];split
  ·rw[qH]
  ·split
   ·rename_i hs;rw[same_iff]at hs;rw[dW (λhp=>h hp yP)];rfl
   ·rw[qH,Ip P x r (λhp hm=>h hp (by simp[hm])),qH];omega
theorem FU(P:Dg->Bool):∀(l o:List Dg),l.Pairwise (λa b=>P a=true->a≠b)->(∀x∈l,P x=true->x∉o)->(l.foldl (λo x=>xD x o) o).countP P=o.countP P+l.countP P
 |[],o=>λ_ _=>eG
 |x::r,o=>λh g=>by
  rw[vI]at h
  rw[List.foldl_cons,FU P r (xD x o) h.2 (λy hy hp hm=>by
   rw[CS]at hm;rcases hm with rfl|hm
   ·exact h.1 y hy hp rfl
   ·exact g y (by simp[hy]) hp hm),Ip P x o (g x eG),qH]
  omega
theorem Iq:∀(d:List Dg),(∀g,d.countP (over g)<=1)->d.Pairwise (λa b=>iX a=true->a≠b)
 |[]=>λ_=>.nil
 |x::r=>λh=>by
  rw[vI];refine⟨λy hy hp he=>?_,Iq r (λg=>by have:=h g;rw[qH]at this;omega)⟩;subst he;have:=h (x.f,x.t);rw[qH]at this;have hx:over (x.f,x.t) x=true:=by unfold over;rw[hp];simp
  rw[dX hx]at this;have h0:r.countP (over (x.f,x.t))=0:=dS
  rw[Gg]at h0;exact h0 x hy hx
theorem adr(A B:List (Nat×Nat))(h:∀g:Nat×Nat,A.countP (λx=>x.1==g.1&&x.2==g.2)=B.countP (λx=>x.1==g.1&&x.2==g.2)):A.length=B.length:=by
 have hp:A.Perm B:=by
  rw[List.perm_iff_count];intro g;have e:∀l:List (Nat×Nat),l.count g=l.countP (λx=>x.1==g.1&&x.2==g.2):=by
   intro l;unfold List.count;refine XK (λx _=>?_);obtain⟨a,b⟩:=x;obtain⟨c,d⟩:=g;simp
  rw[e,e];exact h g
 exact hp.length_eq
theorem lies(b:List Nat)(depth:Nat)(hb:b.length<=16384):
 let l:=Sc.tokens b
 let s:=read l depth
 let d:=qP (s.d++jA b l)
 checkN s.t l.length=true/\Ar.dR s.t/\s.t.countP (λx=>x.k==11)=d.countP iX/\(∀x∈d,x.f<=x.t/\x.t<=b.length)/\By d/\
 (∀(i:Nat)(x:Nd),s.t[i]?=some x->x.k=11->0<=x.f/\x.f<x.t/\x.t<=l.length/\x.ks=[]/\d.countP (over (kW l x.f.toNat,too l (x.t-1).toNat))=1):=by
 intro l s d;have ht:=Rw.iZ b;have hl:=mq b;obtain⟨h1,h2,h3,h4⟩:=xN l depth ht (by show(Sc.tokens b).length<=_;omega);have hcode:∀x∈s.d,5<=x.code/\x.code<=10:=λx hx=>Qg
 have hB:∀g,(jA b l).countP (over g)=0:=by
  intro g;rw[Gg];intro x hx ho;have:=(zQ b x hx).2.2;unfold over iX at ho;simp at ho;omega
 have hB2:(jA b l).countP iX=0:=by
  rw[Gg];intro x hx ho;have:=(zQ b x hx).2.2;unfold iX at ho;simp at ho;omega
 have aa:∀g,Fe.errs l s.t g=(s.d++jA b l).countP (over g):=by
  intro g;rw[rZ,hB g,oW,<-Ig s.d hcode g];exact h3 g
 have hle:∀g,Fe.errs l s.t g<=1:=by
  intro g;rcases rP (Fe.errs l s.t g)with h|h
  ·omega
  ·have h':0<Fe.errs l s.t g:=h
   unfold Fe.errs at h';rw[Va]at h';obtain⟨x,hx,hp⟩:=h';obtain⟨i,hi⟩:=jy hx;rw[rO,rO,uJ,uJ,uJ]at hp;have:=EX ht h1 h2 hi hp.1;rw[show g=(kW l x.f.toNat,too l (x.t-1).toNat)by rw[hp.2.1,hp.2.2]];exact ahT this
 refine⟨h1.check,h1.good,?_,?_,wU _,?_⟩
 ·have hc:d.countP iX=(s.d++jA b l).countP iX:=by
   have:=FU iX (s.d++jA b l) [] (Iq _ (λg=>by rw[<-aa];exact hle g)) (λx _ _ hm=>by cases hm);rw[Dn,jY]at this;exact this
  rw[hc,rZ,hB2,oW]
  have hcnt:=adr ((s.t.filter (λx=>x.k==11)).map (λx=>(kW l x.f.toNat,too l (x.t-1).toNat))) ((s.d.filter iX).map (λx=>(x.f,x.t))) (λg=>by
   rw[XM,XM,List.countP_filter,List.countP_filter];have e1:=aa g;rw[rZ,hB g,oW]at e1;unfold Fe.errs at e1;have c1:s.t.countP (λa=>((λx:Nat×Nat=>x.1==g.1&&x.2==g.2)∘λx:Nd=>(kW l x.f.toNat,too l (x.t-1).toNat)) a&&(a.k==11))=s.t.countP (λx=>x.k==11&&(kW l x.f.toNat==g.1&&too l (x.t-1).toNat==g.2)):=
    XK (λx _=>by simp only[ahF];rw[Bool.and_comm])
   have c2:s.d.countP (λa=>((λx:Nat×Nat=>x.1==g.1&&x.2==g.2)∘λx:Dg=>(x.f,x.t)) a&&iX a)=s.d.countP (over g):=
    XK (λx _=>by simp only[ahF];unfold over;rw[Bool.and_comm])
   rw[c1,c2,e1])
  rw[jl,jl,<-ael,<-ael]at hcnt;exact hcnt
 ·intro x hx;rw[ry,kC]at hx;rcases hx with hx|hx
  ·obtain⟨f,t,_,g2,g3,g4,g5,_,_⟩:=h4 x hx;have g3:t<=l.length:=by omega
   have hf:l[f]?=some l[f]:=fu dS;have ae:l[t-1]?=some l[t-1]:=fu dS;have k1:=(ht.le f _ hf).2;have k2:=(ht.le (t-1) _ ae).2;have k3:=mJ b _ (OZ (show t-1<l.length by omega));rw[g4,g5];unfold kW too;rw[hf,ae];dsimp only;refine⟨?_,k3.2⟩;rcases mD f (t-1)with hlt|hge
   ·have:=ht.lt f (t-1) _ _ hlt hf ae;omega
   ·obtain rfl:f=t-1:=by omega
    omega
  ·have:=zQ b x hx;omega
 ·intro i x hx hk;have hb':=Yo h1 hx;have hlf:=h2 i x hx hk;refine⟨hb'.1,hlf.2,hb'.2,hlf.1,?_⟩;refine SX _ _ ?_;rw[<-aa];exact EX ht h1 h2 hx hk
end Ps
section
open Go.RowKit
open Sg
theorem abE{w:World}{a:Option Addr}{s:ByteArray}{cap hi:Nat}(h:qR w (.slice a s.size cap) s)(h2:hi<=s.size):
 ∃v,(∀W:World,(Instr.slice 23 (.slice a s.size cap) none (some (.int .i64 (hi:Int))) none).run prog W=.ok v W)/\qR w v (s.extract 0 hi):=by
 have hb:=UG h (fP hi) h2;have hc:=h.wL;refine⟨_,λW=>?_,hb⟩;rw[aeL W _ a s.size cap FN .i64 hi dS dS,size_bytes];simp[Result.andThen,sliced]
end
section
open Go.RowKit
open Sg
open Sq
def LY(x n:Int):Int:=if x.tmod n<0 then x.tmod n+n else x.tmod n
theorem agz(x n:Int)(h:0<n):0<=LY x n/\LY x n<n:=by
 have h1:=Lx x h;have h2:-n<x.tmod n:=by
  have:=Lx (-x) h;rw[aek]at this;omega
 unfold LY;split<;>omega
theorem OE(x n:Int)(w:World)(h1:1<=n)(h2:n<=1000):
 Calls prog 31 #[.int .i64 x,.int .i64 n] w λe w'=>e=.returned (.int .i64 (LY x n))/\w=w':=by
 have hb1:=Lx x (show 0<n by omega);have hb2:-n<x.tmod n:=by
  have:=Lx (-x) (show 0<n by omega);rw[aek]at this;omega
 have hz:(n==0)=false:=eQ
 have hn1:n≠0:=dS
 unfold LY;by_cases hc:x.tmod n<0
 ·rw[dX hc]
  go_enter func31,ntmps31
  exact Ef
 ·rw[dW hc]
  go_enter func31,ntmps31
  exact Ef
theorem OG(x:Int)(n:Nat)(h1:1<=n)(h2:n<=1000):∃k:Nat,k<n/\∀w:World,Calls prog 31 #[.int .i64 x,.int .i64 n] w λe w'=>e=.returned (.int .i64 k)/\w=w':=by
 have hb:=agz x n dS;refine⟨(LY x n).toNat,dS,λw=>?_⟩;have:=OE x n w dS dS;rw[show((LY x n).toNat:Int)=LY x n from dS];exact this
end
section
open Go.ChangeShapes Go.WideShapes Go.ChangeAt Go.RowKit
theorem OH{w:World}{v:Value}{l:List Int}(h:tK .u8 w v l):∃s,qR w v s:=by
 obtain⟨h1,hwf⟩:=h;have hb:∀n∈l,0<=n/\n<256:=λn hn=>by
  have:=bounds_u8 (hwf n hn);omega
 refine⟨⟨(l.map λn=>UInt8.ofNat n.toNat).toArray⟩,?_⟩;have hsz:(⟨(l.map λn=>UInt8.ofNat n.toNat).toArray⟩:ByteArray).size=l.length:=by simp[ByteArray.size]
 rcases h1 with⟨rfl,rfl⟩|⟨b,off,cap,rfl,h2,h3,h4⟩
 ·exact .inl ⟨rfl,rfl⟩
 ·refine .inr ⟨b,off,cap,by rw[hsz],by rw[hsz];exact h2,h3,λj hj=>?_⟩;rw[hsz]at hj;rw[h4 j hj,<-AJ,xC,xC];have hx:=hb l[j] (OZ hj);simp[hj];omega
theorem FV{H:Type}{enc:TypeId×Value->H}{w:World}{base:Nat}{v:Value}{d:DataW H}{p:List MemPlace}
 (hv:Value.okWide prog w .any base 23 v) (h:DataW.Trod enc prog w 0 (λ_=>true) true 23 v d p):∃s,qR w v s:=by
 obtain⟨l,hl⟩:=lC underlying23 underlying5 dV hv h;exact OH hl
end
section
open Go.RowKit
open Sg
open Sq
def Rx:List (List UInt8):=[[97],[98,58,32],[45,32],[10],[10],[10,32,32],[10,32,32,32,32],[107,101,121,58,32],[91],[93],[123],[125],[44,32],[58,32],[39,105,116,39,39,115,39],[34,120,92,110,34],[35,32,110,111,116,101,10],[38,110,32],[42,110],[33,33,105,110,116,32],[124,10],[62,45,10],[45,45,45],[46,46,46],[9],[13,10],[32],[49],[126],[39,111,112,101,110],[34,92,113,34],[45],[58],[116,101,120,116,32,111,102,32,119,111,114,100,115],[10,45,32],[10,107,58,32],[32,32],[35,32,111,102,102],[44],[124,43],[10,10]]
abbrev Ew:List Value:=[Value.string ⟨#[97]⟩,Value.string ⟨#[98,58,32]⟩,Value.string ⟨#[45,32]⟩,Value.string ⟨#[10]⟩,Value.string ⟨#[10]⟩,Value.string ⟨#[10,32,32]⟩,Value.string ⟨#[10,32,32,32,32]⟩,Value.string ⟨#[107,101,121,58,32]⟩,Value.string ⟨#[91]⟩,Value.string ⟨#[93]⟩,Value.string ⟨#[123]⟩,Value.string ⟨#[125]⟩,Value.string ⟨#[44,32]⟩,Value.string ⟨#[58,32]⟩,Value.string ⟨#[39,105,116,39,39,115,39]⟩,Value.string ⟨#[34,120,92,110,34]⟩,Value.string ⟨#[35,32,110,111,116,101,10]⟩,Value.string ⟨#[38,110,32]⟩,Value.string ⟨#[42,110]⟩,Value.string ⟨#[33,33,105,110,116,32]⟩,Value.string ⟨#[124,10]⟩,Value.string ⟨#[62,45,10]⟩,Value.string ⟨#[45,45,45]⟩,Value.string ⟨#[46,46,46]⟩,Value.string ⟨#[9]⟩,Value.string ⟨#[13,10]⟩,Value.string ⟨#[32]⟩,Value.string ⟨#[49]⟩,Value.string ⟨#[126]⟩,Value.string ⟨#[39,111,112,101,110]⟩,Value.string ⟨#[34,92,113,34]⟩,Value.string ⟨#[45]⟩,Value.string ⟨#[58]⟩,Value.string ⟨#[116,101,120,116,32,111,102,32,119,111,114,100,115]⟩,Value.string ⟨#[10,45,32]⟩,Value.string ⟨#[10,107,58,32]⟩,Value.string ⟨#[32,32]⟩,Value.string ⟨#[35,32,111,102,102]⟩,Value.string ⟨#[44]⟩,Value.string ⟨#[124,43]⟩,Value.string ⟨#[10,10]⟩]
theorem WR:Ew=Rx.map λp=>Value.string ⟨p.toArray⟩:=rfl
theorem SY:∀k:Fin 41,((Rx[k.val]?).map λp=>decide (p.length<=13))=some true:=gV
theorem ads(k:Nat)(hk:k<41):∃X:ByteArray,X.size<=13/\Ew[k]?=some (.string X):=by
 have h:=SY ⟨k,hk⟩;simp only at h;cases hp:Rx[k]? with
 |none=>rw[hp]at h;cases h
 |some p=>
  rw[hp,AB]at h;injection h with h
  refine⟨⟨p.toArray⟩,by show p.toArray.size<=13;simpa using h,?_⟩;rw[WR,kS,hp];rfl
def agA(w:World)(e:Ending)(w':World):Prop:=∃X:ByteArray,e=.returned (.string X)/\X.size<=13/\Below w.heap.size w w'
theorem WS(x:Int)(w:World):
 Calls prog 17 #[.int .i64 x] w (agA w):=by
 obtain⟨m,hm,aa⟩:=OG x 41 dU dU;obtain⟨X,hX,h5⟩:=ads m hm;obtain⟨tc,htc⟩:∃tc,tc=w.heap.size:=⟨_,rfl⟩
 obtain⟨V,hV⟩:∃V,V=w.alloc (.cells Ew.toArray 9):=⟨_,rfl⟩
 have ae:=hV▸dZ w (.cells Ew.toArray 9);have af:=dY ae;have c0:V.cell? ⟨tc,m,none⟩=some (.string X):=by
  rw[hV,htc,akr];show(Ew.toArray)[m]?=_;rw[aep];exact h5
 obtain⟨HV,ag,HW⟩:=je hV htc (aa V);have hm0:(m:Int)<41:=dS
 have hm1:(0:Int)<=(m:Int):=dS
 have HX:=dY hX;clear h5 aa hV htc ae hX
 go_enter func17,ntmps17
 go_wp2_with fail
 rw[<-HV.out,<-ag.out];refine HW.out.mono ?_;rintro e w2 ⟨rfl,rfl⟩;go_wp2_with fail
 go_ret;exact⟨X,rfl,HX.out,af.out⟩
end
section
open Go.RowKit
open Sg
open Sq
def abF(w:World)(e:Ending)(w':World):Prop:=∃v,∃t:ByteArray,e=.returned v/\qR w' v t/\t.size<=400/\Below w.heap.size w w'
theorem Ir(a b:ByteArray):cellsOf (a++b)=cellsOf a++cellsOf b:=by simp[cellsOf]
theorem Ny(v0:Value)(l0:List Int)(v1:Value)(s:ByteArray)(w:World)(h0:tK .i64 w v0 l0)(h1:qR w v1 s):
 Calls prog 10 #[v0,v1] w (abF w):=by
 have hs:=h1.size_le;simp only[maxLen]at hs;obtain⟨a0,cap0,rfl⟩:=h0.shape;obtain⟨a1,ak,rfl⟩:=h1.shape;have hl:=h0.len;obtain⟨m,hm⟩:∃m,m=min s.size 30:=⟨_,rfl⟩
 have hmin:min (s.size:Int) 30=(m:Int):=dS
 obtain⟨vc,hsl,aa⟩:=abE (hi:=m) h1 dS;have hmz:(s.extract 0 m).size=m:=Qv
 obtain⟨c,hc⟩:=eu (s.extract 0 m);rw[hc]at aa hmz;have av:m<=30:=dS
 obtain⟨H0,HV,ae⟩:=je h0 aa hmz;clear h0 h1 hm aa hc hmz hs
 go_enter func10,ntmps10
 go_wp2_with fail
 go_loopw [5,6] (λbv i wr=>∃(k:Nat)(t:ByteArray),i=.int .i64 k/\k<=60/\wr.ownsRow w.heap.size 5 1 bv t.size (cellsOf t)/\t.size<=50*k/\Below w.heap.size w wr) (λ_ i _=>60-(intOf i).toNat)
 case atStart=>exact⟨0,⟨#[]⟩,rfl,dS,Pd _ _ _ _,fP _,fD _ w⟩
 case round=>
  obtain⟨k,t,rfl,hk,hown,ht,hb⟩:=hrel;obtain⟨HO,HB⟩:=fw hown hb;clear hown hb;by_cases hlt:k<l0.length/\k<60
  ·obtain⟨hlt1,hlt2⟩:=hlt;have hi1:(k:Int)<(l0.length:Int):=by omega
   have hi2:(k:Int)<60:=dS
   go_upto_region 5 with fail
   go_cut [21] (λq wx=>(∃b:Bool,q=.bool b)/\wr=wx)
   case first=>
    go_wp2_with fail
    go_meet
    exact⟨⟨_,rfl⟩,rfl⟩
   case rest=>
   obtain⟨⟨q,rfl⟩,rfl⟩:=hcut
   go_upto_if 21 with fail
   go_cut [5] (λbv wx=>∃t2:ByteArray,wx.ownsRow w.heap.size 5 1 bv t2.size (cellsOf t2)/\t2.size<=50*k+30/\Below w.heap.size w wx)
   case first=>
    cases q with
    |true=>
     go_wp2_with (at_builtin;go_must (refine oP rfl (.tmp 22) (.tmp 27) rfl w.heap.size _ _ _ rfl HO.out vc c rfl (HV.out.below HB.out) (by have:=ae.out;omega) HB.out.size ?_;intro v3 w3 hown3 hg3))
     go_meet
     have hsz:(t++c).size=t.size+c.size:=ni t c;exact⟨t++c,by rw[hsz,Ir];exact hown3,by have:=ae.out;omega,HB.out.grown hg3 (by have:=HB.out.size;omega) (λj hj=>(HO.out.lt j hj).1)⟩
    |false=>
     go_wp2_with fail
     go_meet
     exact⟨t,HO.out,dS,HB.out⟩
   case rest=>
   obtain⟨t2,hown2,ht2,hb2⟩:=hcut;obtain⟨xm,HB2⟩:=fw hown2 hb2;obtain⟨b1,ax,rfl,q2,q3,hc1⟩:=(H0.out.below hb2).at_ hlt1;simp only[maxLen]at q3;obtain⟨y,hy⟩:=eu (l0.getD k 0);rw[hy]at hc1;have HP:=dY (WS y wc);clear hown2 hb2 hy HO;go_wp2_with fail
   refine HP.out.mono ?_;rintro e w4 ⟨X,rfl,hX,hb4⟩;have af:=dY (eZ xm.out hb4);have qQ:=dY (HB2.out.trans (hb4.mono HB2.out.size));obtain⟨i0,hi,hz0,hz1,hz2⟩:=Pe infoByte;have HI:=dY hi;clear hb4 hi;go_wp2_with (at_builtin;go_must (refine Lib.wpList_append_own_string (P:=prog) _ rfl (.tmp 29) (.tmp 34) 23 9 rfl w.heap.size 5 i0 underlying23 underlying9 HI.out hz0 hz1 hz2 _ _ _ rfl af.out X rfl qV dS qQ.out.size ?_;intro v5 w5 hown5 hg5 hnil))
   go_roundw
   case rel=>
    have hsz:(t2++X).size=t2.size+X.size:=ni t2 X;exact⟨k+1,t2++X,fH,dS,by rw[hsz,Ir];exact hown5,dS,qQ.out.grown hg5 (by have:=qQ.out.size;omega) (λj hj=>(af.out.lt j hj).1)⟩
   case measure=>simp[intOf];omega
  ·have hown:=HO.out;have pW:=qR.fo hown;obtain⟨at',ay,rfl⟩:=pW.shape;obtain⟨m4,ah⟩:∃m4,m4=min t.size 400:=⟨_,rfl⟩
   have ai:min (t.size:Int) 400=(m4:Int):=dS
   obtain⟨vt,az,ag⟩:=abE (hi:=m4) pW dS;have aj:(t.extract 0 m4).size=m4:=by rw[ext_size t 0 m4 dS];omega
   have HD:=dY (show abF w (.returned vt) wr from⟨vt,_,rfl,ag,dS,HB.out⟩);clear hown pW ah ag aj;by_cases hlt1:k<l0.length
   ·have hi1:(k:Int)<(l0.length:Int):=by omega
    have hi2:¬((k:Int)<60):=dS
    clear hlt;go_wp2_with fail
    go_ret;exact HD.out
   ·have hi1:¬((k:Int)<(l0.length:Int)):=by omega
    clear hlt;go_wp2_with fail
    go_ret;exact HD.out
end
section
open Go.RowKit
open Sg
open Sq
open Ar
theorem Iu(b:List Nat)(d:Nat)(hb:b.length<=16384)(h1:1<=d)(h2:d<=50):
 checkN (Ps.tree b d).2.1 (Ps.tree b d).1.length=true/\Ar.dR (Ps.tree b d).2.1/\(Ps.tree b d).2.1.countP (λx=>x.k==11)=(Ps.tree b d).2.2.countP Ps.iX/\(∀x∈(Ps.tree b d).2.2,x.f<=x.t/\x.t<=b.length)/\Ps.By (Ps.tree b d).2.2/\
 (∀(i:Nat)(x:Nd),(Ps.tree b d).2.1[i]?=some x->x.k=11->0<=x.f/\x.f<x.t/\x.t<=(Ps.tree b d).1.length/\x.ks=[]/\(Ps.tree b d).2.2.countP (Ps.over (Fl.kW (Ps.tree b d).1 x.f.toNat,Fl.too (Ps.tree b d).1 (x.t-1).toNat))=1):=by
 have h:=Ps.lies b d hb;have e:Ps.tree b d=(Sc.tokens b,(Ps.read (Sc.tokens b) d).t,Ps.qP ((Ps.read (Sc.tokens b) d).d++Ps.jA b (Sc.tokens b))):=Qw
 rw[e];exact h
def ahs(ib:Nat)(w4:World)(k:Nat)(v:Value)(S:ByteArray):Prop:=S.size<=600/\∀W,Below w4.heap.size w4 W->W.cell? ⟨ib,k,none⟩=some v/\qR W v S
end
end Go.Proofs.YtmkkdjpebbdikaaGreatDoor

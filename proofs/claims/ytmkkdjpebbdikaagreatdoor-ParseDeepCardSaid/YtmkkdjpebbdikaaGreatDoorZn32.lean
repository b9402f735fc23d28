/- The law correctorlaw12.ParseDeep: whatever the input, the call returns true, and each argument reads afterwards as it read before. Conditions: none but those of the form (package-level variables as the program text lays them, tied by the card).
   The idea stands in the walk (W12De) and in what it imports; this text is the frame. -/
import Derived.Test.YtmkkdjpebbdikaaGreatDoorZn30
import Derived.ChangeOld
import Derived.ShutString
import Derived.Test.YtmkkdjpebbdikaaGreatDoorCards
import Derived.Test.YtmkkdjpebbdikaaGreatDoorTie
set_option linter.all false
set_option maxHeartbeats 16000000
set_option maxRecDepth 100000
namespace Go.Proofs.YtmkkdjpebbdikaaGreatDoor
open Go.RowKit Go.Proofs.Tryz
namespace Sq
open Go.RowKit
variable {α:Type}
variable {E:mr α}{w w':World}{v:Value}{l:List α}
theorem Reads.size_le(h:Reads E w v l):l.length<=maxLen:=by
 rcases h with⟨_,h⟩|⟨b,off,cap,_,h2,h3,_⟩
 ·rw[h];exact ic _
 exact jU h2 h3
end Sq
namespace Sc
open Sg
theorem QV(a b:ByteArray):fw (a++b)=fw a++fw b:=by
 unfold fw;rw[Fq,wy]
end Sc
section
open Go.RowKit
open Sq
open Ar
section
variable {w w':World}{v:Value}{l:List Nd}
theorem iM.size_le(h:iM w v l):l.length<=maxLen:=by
 obtain⟨L,h1,h2,_⟩:=h;rw[<-h1,jD];exact h2.size_le
end
end
namespace Fl
open Ar
def sig(l:List Nd):List (Int×Bool):=l.map (λx=>(x.k,x.y))
theorem Gu{l r:List Nd}{z:Nd}(hl:r.length=l.length+1)(h:∀(i:Nat)(x:Nd),l[i]?=some x->∃x',r[i]?=some x'/\x'.k=x.k/\x'.y=x.y)(hz:r[l.length]?=some z):sig r=sig l++[(z.k,z.y)]:=by
 unfold sig;refine sN (λi=>?_);rw[lS];by_cases hi:i<l.length
 ·obtain⟨x,hx⟩:=jB l i hi;obtain⟨x',h1,h2,h3⟩:=h i x hx;rw[oD (by rw[jD];exact hi),lS,hx,h1];simp[h2,h3]
 by_cases e:i=l.length
 ·subst e;rw[hz,oM (by rw[jD];exact fB _),jD,uC];rfl
 rw[rC (by omega),rC (by rw[iJ,jD];simp;omega)];rfl
structure YI(n:Int)(up:Nat)(s:St)(e b:Int)(s':St)(ks:List (Int×Bool))(ds:List Dg):Prop where
 ok:Ok n up s e b s'
 kinds:sig s'.t=sig s.t++ks
 says:s'.d=s.d++ds
theorem UA{n e b:Int}{up f t kind:Nat}{s:St}(hck:Ck s.t n)(hf:Fits s.t e b up)(he:e<=f)(hft:f<=t)(htn:(t:Int)<=n)(hk1:1<=kind)(hk2:kind<=10):
 ∃s',add s up kind f t=(s',(s.t.length:Int))/\YI n up s t (max b t) s' [((kind:Int),false)] []/\YI n s.t.length s f (max b t) s' [((kind:Int),false)] []/\(∃x,s'.t[s.t.length]?=some x/\x.u=(up:Int))/\0<s.t.length:=by
 obtain⟨s',a1,a2,a3,a4,a5⟩:=kE (kind:=kind) (Ok.start hck hf) he hft htn hk1 hk2;obtain⟨r,h1,h2,h3,h4,h5,h6,h7⟩:=Dm (f:=(f:Int)) (t:=(t:Int)) (kind:=(kind:Int)) hck hf he (by omega) htn (by omega) (by omega);have hs':s'=⟨r,s.d⟩:=by
  unfold add at a1;rw[h1]at a1;exact(congrArg Prod.fst a1).symm
 have hsig:sig s'.t=sig s.t++[((kind:Int),false)]:=by
  rw[hs'];exact Gu h6 (λi x hx=>by obtain⟨x',g1,g2,_,_,g5,_⟩:=h7 i x hx;exact⟨x',g1,g2,g5⟩) h5
 have hd:s'.d=s.d++[]:=by rw[hs'];simp
 exact⟨s',a1,⟨a2,hsig,hd⟩,⟨a3,hsig,hd⟩,a4,a5⟩
theorem UB{n e b:Int}{up f t code:Nat}{s:St}(l:List Tk)(hck:Ck s.t n)(hf:Fits s.t e b up)(he:e<=f)(hft:f<=t)(htn:(t:Int)<=n)(hc:code≠9):
 YI n up s t (max b t) (err l s up f t code) [(11,false)] [⟨code,mM l f,too l (t-1)⟩]/\(addN s.t up 11 f t).2=(s.t.length:Int):=by
 obtain⟨a1,a2⟩:=pG l (Ok.start hck hf) he hft htn hc;obtain⟨r,h1,h2,h3,h4,h5,h6,h7⟩:=Dm (f:=(f:Int)) (t:=(t:Int)) (kind:=11) hck hf he (by omega) htn (by omega) (by omega);refine⟨⟨a1,?_,rfl⟩,a2⟩;show sig (addN s.t up 11 f t).1=_;rw[h1];exact Gu h6 (λi x hx=>by obtain⟨x',g1,g2,_,_,g5,_⟩:=h7 i x hx;exact⟨x',g1,g2,g5⟩) h5
end Fl
namespace Ps
open Ar Fl
open Rw (R E)
def oJ:Nat->List Nat
 |0=>[97]
 |n+1=>45::32::oJ n
def oK:Nat->Nat->List Tk
 |p,0=>[(15,p,p+1)]
 |p,n+1=>(5,p,p+1)::(3,p+1,p+2)::oK (p+2) n
def Va:Nat->Nat->List (Bool×Int×Nat×Nat)
 |_,0=>[]
 |i,k+1=>(true,((2*i:Nat):Int),2*i,2*i+1)::Va (i+1) k
theorem QW:∀n:Fin 31,Sc.tokens (oJ n.val)=oK 0 n.val:=by decide+kernel
theorem QX:∀n:Fin 30,(Rw.fA (oK 0 (n.val+1))).map (λr=>(r.kind,r.from',r.bu,r.fG))=[(5,0,2*n.val+3,0)]/\
 (Rw.iP (oK 0 (n.val+1)) ⟨5,0,2*n.val+3,0⟩).1.map (λe=>(e.dash,e.fG,e.from',e.bu))=Va 0 (n.val+1)/\(Rw.iP (oK 0 (n.val+1)) ⟨5,0,2*n.val+3,0⟩).2=2*n.val+1:=by decide+kernel
theorem QY:∀n:Fin 30,(nM (oJ (n.val+1)) (oK 0 (n.val+1))).length=0:=by decide+kernel
theorem C9:∀(n p:Nat),(oK p n).length=2*n+1
 |0,_=>rfl
 |n+1,p=>by rw[oK,jh,jh,C9 n];omega
theorem vv:∀(n p i:Nat),(i<n->(oK p n)[2*i]?=some (5,p+2*i,p+2*i+1)/\(oK p n)[2*i+1]?=some (3,p+2*i+1,p+2*i+2))/\(oK p n)[2*n]?=some (15,p+2*n,p+2*n+1)
 |0,p,i=>⟨λh=>absurd h (qJ _),rfl⟩
 |n+1,p,i=>by
  rw[oK];have hl:(5,p,p+1)::(3,p+1,p+2)::oK (p+2) n=[(5,p,p+1),(3,p+1,p+2)]++oK (p+2) n:=rfl;refine⟨λhi=>?_,?_⟩
  ·cases i with
   |zero=>exact⟨rfl,rfl⟩
   |succ i=>
    have:=(vv n (p+2) i).1 (by omega);rw[show 2*(i+1)=2*i+2 by omega,show p+(2*i+2)=p+2+2*i by omega];exact this
  have:=(vv n (p+2) 0).2;rw[show 2*(n+1)=2*n+2 by omega,show p+(2*n+2)=p+2+2*n by omega];exact this
def oP(t:List Nd):Nat:=t.countP (λx=>x.k==3)
theorem xw(t:List Nd):oP t=(sig t).countP (λx=>x.1==3):=by
 unfold oP sig;rw[Vj];rfl
theorem xz{l:List Tk}{B:St}{up f t kind:Nat}{e b:Int}{s:St}(h:Fe.Ok l 0 l.length up B e b s)(he:e<=f)(hft:f<=t)(ht:t<=l.length)(hk1:1<=kind)(hk2:kind<=10):
 oP (add s up kind f t).1.t=oP s.t+(if kind=3 then 1 else 0)/\(add s up kind f t).1.d=s.d:=by
 obtain⟨s',a1,a2,_⟩:=UA (kind:=kind) h.ck h.fits he hft (by omega) hk1 hk2;have a1:add s up kind f t=(s',(s.t.length:Int)):=a1;rw[a1];refine⟨?_,by have:=a2.says;simpa using this⟩;show oP s'.t=_;rw[xw,a2.kinds,zD,<-xw,yH,BA];by_cases hk:kind=3
 ·rw[eY hk,hk];rfl
 rw[eX hk,eX (by simp;omega)]
theorem QZ{l:List Tk}{B:St}{up e f t code:Nat}{s:St}(h:OK l (0,B) up e s)(he:e<=f)(hft:f<t)(ht:t<=l.length)(hc:code≠9):oP (err l s up f t code).t=oP s.t:=by
 obtain⟨a1,_⟩:=UB (f:=f) (t:=t) (code:=code) l h.ck h.fits (by omega) (by omega) (by omega) hc;rw[xw,a1.kinds,zD,<-xw,yH,BA];rfl
structure Dp(l:List Tk)(i:Nat)(p:PS):Prop where
 opn:xG l (0,(start l).s) (2*i) p
 len:p.st.length=i
 VS:∀o∈p.st,o.fG<((2*i:Nat):Int)
 root:p.st=[]->p.root=false
 has:∀t k,p.st=t::k->t.has=false
 oP:Ps.oP p.s.t=i
 told:p.s.d=[]
theorem MM{l:List Tk}{i depth:Nat}{p:PS}(h:Dp l i p)(hl:2*i+1<=l.length):
 (i<depth->(place l depth p ⟨true,((2*i:Nat):Int),2*i,2*i+1⟩).1=0/\Dp l (i+1) (place l depth p ⟨true,((2*i:Nat):Int),2*i,2*i+1⟩).2)/\
 (depth<=i->place l depth p ⟨true,((2*i:Nat):Int),2*i,2*i+1⟩=(10,p)):=by
 obtain⟨en,hen⟩:∃en:E,(⟨true,((2*i:Nat):Int),2*i,2*i+1⟩:E)=en:=⟨_,rfl⟩
 have e1:en.dash=true:=by rw[<-hen]
 have e2:en.fG=((2*i:Nat):Int):=by rw[<-hen]
 have e3:en.from'=2*i:=by rw[<-hen]
 have e4:en.bu=2*i+1:=by rw[<-hen]
 rw[hen];clear hen;obtain⟨d,hd,hc,hh⟩:=h.opn;have hP:=pO (depth:=depth) (en:=en) h.opn (ic _) (by omega) (by omega) (by omega);have hdw:p.st.dropWhile (λo=>decide (en.fG<o.fG))=p.st:=by
  cases hst:p.st with
  |nil=>rfl
  |cons o r=>
   have:=h.VS o (by rw[hst];simp);rw[EK,eX (by simp;omega)]
 have hkind:kindOf en=3:=by unfold kindOf;rw[e1];rfl
 have hpl:∃up root st,outer d st=up/\sW l (0,(start l).s) up (2*i) p.s/\st.length=i/\(∀o∈st,o.fG<((2*i:Nat):Int))/\place l depth p en=fresh l depth p up root st en:=by
  have hr:(place l depth p en)=(match p.st.dropWhile (λo=>decide (en.fG<o.fG))with
   |[]=>if p.root=true then(7,p)else fresh l depth p p.doc true [] en
   |o::r=>
    if o.fG=en.fG then
     if o.kind=kindOf en then again l p o r en
     else if kindOf en=3 then(if o.has=true then(5,p)else fresh l depth p o.cur p.root ({o with has:=true}::r) en)
     else match r with
      |o2::r2=>if o2.fG=en.fG/\o2.kind=5 then again l p o2 r2 en else(5,p)
      |[]=>(5,p)
    else if o.has=true then(6,p)else fresh l depth p o.cur p.root ({o with has:=true}::r) en):=rfl
  rw[hr,hdw];cases hst:p.st with
  |nil=>
   rw[hst]at hh;dsimp only;rw[h.root hst];exact⟨p.doc,true,[],hd.symm,by rw[hd];exact hh,by rw[<-h.len,hst],λo ho=>(by cases ho),rfl⟩
  |cons o r=>
   rw[hst]at hh;have hco:=h.VS o (by rw[hst];simp);have hno:=h.has o r hst;dsimp only;rw[eX (by omega),eX (by rw[hno];simp)];refine⟨o.cur,p.root,_,rfl,hh.2 hno,by rw[<-h.len,hst];rfl,λq hq=>?_,rfl⟩;rcases l5.1 hq with rfl|hq
   ·exact hco
   exact h.VS q (by rw[hst];simp[hq])
 obtain⟨up,root,st,g1,⟨m,g2,g3⟩,g4,g5,g6⟩:=hpl;rw[g6]at hP⊢;refine⟨λhid=>?_,λhid=>?_⟩
 ·have hf:fresh l depth p up root st en=(0,{p with s:=(cur l (add p.s up (kindOf en) en.from' en.bu).1 (add p.s up (kindOf en) en.from' en.bu).2 en).1,root:=root,st:=⟨(add p.s up (kindOf en) en.from' en.bu).2,kindOf en,en.fG,(cur l (add p.s up (kindOf en) en.from' en.bu).1 (add p.s up (kindOf en) en.from' en.bu).2 en).2,false⟩::st}):=by
   unfold fresh;rw[eX (by omega)]
  rw[hf]at hP⊢;rcases hP with⟨_,hP⟩|⟨hP,_⟩
  ·refine⟨rfl,?_⟩;obtain⟨o1,_⟩:=hP;obtain⟨s',a1,a2,a3,a4⟩:=Dz (kind:=3) (f:=2*i) (t:=2*i+1) g3 (jq _) (by omega) (by omega) (by omega) (by omega);obtain⟨c1,c2⟩:=xz (kind:=3) (f:=2*i) (t:=2*i+1) g3 (jq _) (by omega) (by omega) (by omega) (by omega);have a1:add p.s m 3 (2*i) (2*i+1)=(s',(p.s.t.length:Int)):=a1;rw[a1]at c1 c2;obtain⟨d1,d2⟩:=xz (kind:=4) (f:=2*i) (t:=2*i+1) a2 (jq _) (by omega) (by omega) (by omega) (by omega);have aa:(cur l (add p.s up (kindOf en) en.from' en.bu).1 (add p.s up (kindOf en) en.from' en.bu).2 en).1=(add s' (p.s.t.length:Int) 4 (2*i) (2*i+1)).1:=by
    rw[hkind,e3,e4,g2,a1];unfold cur;rw[e1,eY rfl,e3,e4]
   refine⟨o1.le (by omega),?_,λo ho=>?_,λh=>(by cases h),λt k h=>?_,?_,?_⟩
   ·show st.length+1=_;omega
   ·rcases l5.1 ho with rfl|ho
    ·show en.fG<_;omega
    have:=g5 o ho;omega
   ·injection h with h1 h2
    rw[<-h1]
   ·dsimp only;rw[aa,d1,c1,h.oP];rfl
   dsimp only;rw[aa,d2,c2];exact h.told
  exact absurd rfl hP
 unfold fresh;rw[eY (by omega)]
theorem yT{l:List Tk}{depth b n:Nat}(hb:b<=l.length)(hnb:2*n+1<=b):∀(es:List E)(k i:Nat)(p:PS)(up:Int),es.map (λe=>(e.dash,e.fG,e.from',e.bu))=Va i k->i+k=n->Dp l i p->i<=depth->up=holder p->
 (n<=depth->(places l depth b p up es).1=true/\Dp l n (places l depth b p up es).2)/\
 (depth<n->(places l depth b p up es).1=false/\oP (places l depth b p up es).2.s.t=depth/\(places l depth b p up es).2.s.d=[⟨10,mM l (2*depth),too l (b-1)⟩])
 |[],k,i,p,up=>λhes hk h hid hup=>by
  cases k with
  |zero=>
   obtain rfl:i=n:=by omega
   exact⟨λ_=>⟨rfl,h⟩,λhd=>by omega⟩
  |succ k=>simp[Va]at hes
 |en::es,k,i,p,up=>λhes hk h hid hup=>by
  cases k with
  |zero=>simp[Va]at hes
  |succ k=>
   rw[wB,Va]at hes;injection hes with h1 h2
   obtain⟨q1,q2,q3,q4⟩:=en;dsimp only at h1;injection h1 with h1 h3
   injection h3 with h3 h4
   injection h4 with h4 h5
   subst h1 h3 h4 h5;obtain⟨g1,g2⟩:=MM (depth:=depth) h (by omega);rw[places];by_cases hd:i<depth
   ·obtain⟨k1,k2⟩:=g1 hd;rw[eY k1];refine yT hb hnb es k (i+1) _ _ h2 (by omega) k2 (by omega) ?_;obtain⟨q,hq⟩:=fq ((place l depth p ⟨true,((2*i:Nat):Int),2*i,2*i+1⟩).2);rw[hq]at k2⊢;rw[pz];cases hst:q.st with
    |nil=>have:=k2.len;rw[hst]at this;simp at this
    |cons t r=>
     show t.cur=if t.has=true then t.node else t.cur
     rw[k2.has t r hst];rfl
   have:=g2 (by omega);rw[this,eX (by simp)];obtain rfl:i=depth:=by omega
   obtain⟨d,hd',hc,hh⟩:=h.opn;obtain⟨m,e1,e2⟩:=hh.hold;have hm:up=(m:Int):=by rw[hup,pz,hd'];exact e1
   refine⟨λh=>by omega,λ_=>⟨rfl,?_,?_⟩⟩
   ·show oP (err l p.s up (2*i) b 10).t=_;rw[hm,QZ e2 (fB _) (by omega) (by omega) (by omega),h.oP]
   show p.s.d++[_]=_;rw[h.told];rfl
theorem IG(p:Nat->Bool)(f i:Nat)(h:p i=false):iQ p f i=i:=by
 cases f with
 |zero=>rfl
 |succ f=>rw[iQ,eX (by rw[h];simp)]
theorem Q0(l:List Tk)(e d p:Nat)(up:Int)(s:St)(hp:p<e)(hk:raw l p=15):jd l e d up p s=((add s up 7 p (p+1)).2,p+1,(add s up 7 p (p+1)).1):=by
 have hb:blanks l e p=p:=IG _ _ _ (by rw[hk];rfl);have hkd:kd l e p=15:=by unfold kd;rw[eX (by rw[hk];omega)];exact hk
 have hlead:∀f,lead l e f none p=(none,p):=by
  intro f;cases f with
  |zero=>rfl
  |succ f=>rw[lead,hkd,eX (by decide)]
 cases d with
 |zero=>
  rw[jd];unfold pV;dsimp only;rw[hb,hlead];dsimp only;rw[hkd,eX (by decide),eY (by decide)];rfl
 |succ d=>
  rw[jd];unfold pV;dsimp only;rw[hb,hlead];dsimp only;rw[hkd,eX (by decide),eY (by decide)];rfl
theorem MN{l:List Tk}(h:∀i,raw l i≠20/\raw l i≠21)(i:Nat)(hi:i<=l.length):limit l i=l.length:=by
 have h1:=ku (λj=>raw l j !=20&&raw l j !=21) (l.length-i) i;unfold limit;rcases h1 with h1|h1
 ·rw[h1];omega
 have:=h (iQ (λj=>raw l j !=20&&raw l j !=21) (l.length-i) i);simp at h1;exact absurd (h1 this.1) this.2
theorem UC(n depth:Nat)(hn:1<=n)(hn2:n<=30)(hd:1<=depth)(hd2:depth<=50):
 (tree (oJ n) depth).1.length=2*n+1/\
 (n<=depth->(tree (oJ n) depth).2.2=[]/\oP (tree (oJ n) depth).2.1=n)/\
 (depth<n->(tree (oJ n) depth).2.2=[⟨10,2*depth,2*n+1⟩]/\oP (tree (oJ n) depth).2.1=depth):=by
 have htk:Sc.tokens (oJ n)=oK 0 n:=QW ⟨n,by omega⟩;obtain⟨l,hl⟩:=fq (oK 0 n);have hlen:l.length=2*n+1:=by rw[<-hl];exact C9 n 0
 have hget:∀i,i<n->raw l (2*i)=5/\raw l (2*i+1)=3/\mM l (2*i)=2*i:=by
  intro i hi;obtain⟨g1,g2⟩:=(vv n 0 i).1 hi;rw[hl]at g1 g2;refine⟨lM g1,lM g2,?_⟩;unfold mM;rw[g1];simp
 have hlast:raw l (2*n)=15/\too l (2*n)=2*n+1:=by
  have g:=(vv n 0 0).2;rw[hl]at g;refine⟨lM g,?_⟩;unfold too;rw[g];simp
 have hnm:∀i,raw l i≠20/\raw l i≠21:=by
  intro i;by_cases hi:i<l.length
  ·have hk:i=2*(i/2)\/i=2*(i/2)+1:=by omega
   obtain⟨k,hkd⟩:=fq (i/2);rw[hkd]at hk;rcases hk with rfl|rfl
   ·by_cases e:k=n
    ·subst e;rw[hlast.1];omega
    rw[(hget k (by omega)).1];omega
   rw[(hget k (by omega)).2.1];omega
  have:raw l i=0:=by
   cases uB (raw l i)with
   |inl h=>exact h
   |inr h=>exact absurd (N6 (l:=l) (i:=i) (by omega)) hi
  omega
 obtain⟨r1,r2,r3⟩:=QX ⟨n-1,by omega⟩;have t1:=QY ⟨n-1,by omega⟩;dsimp only at r1 r2 r3 t1;rw[show n-1+1=n by omega,hl]at r1 r2 r3 t1;rw[show 2*(n-1)+3=2*n+1 by omega]at r1 r2 r3;have hrows:Rw.fA l=[⟨5,0,2*n+1,0⟩]:=by
  cases hr:Rw.fA l with
  |nil=>rw[hr]at r1;simp at r1
  |cons x xs=>
   rw[hr]at r1;rw[wB]at r1;injection r1 with q1 q2
   obtain⟨x1,x2,x3,x4⟩:=x;dsimp only at q1;injection q1 with q1 q3
   injection q3 with q3 q4
   injection q4 with q4 q5
   subst q1 q3 q4 q5;rw[XA]at q2;rw[q2]
 have htold:nM (oJ n) l=[]:=oC t1
 have hlo:lo l 0 (2*n+1)=0:=IG _ _ _ (by
  have:=(hget 0 (by omega)).1;rw[Nat.mul_zero]at this
  rw[this];rfl)
 have hback:∀m,m<=2*n->back l (2*n+1) m=2*n+1:=by
  intro m hm;rw[back,eX (by rw[hlast.1];simp[cnt])]
 obtain⟨o1,o2⟩:=uh (p:={start l with read:=2*n+1}) (e:=0) (i:=0) (ui l (by omega)) (fB _) (ic _);obtain⟨p1,hp1⟩:=fq (jW {start l with read:=2*n+1} 0);rw[hp1]at o1 o2;have hadd:(start l).s.d=[]/\oP (start l).s.t=0:=by
  refine⟨rfl,?_⟩;show oP (gV (l.length:Int))=0;rfl
 have aa:p1.s=(add (start l).s 0 2 0 0).1/\p1.st=[]/\p1.root=false:=by
  rw[<-hp1];unfold jW;rw[eY (by show(-1:Int)<0;omega)];exact⟨rfl,rfl,rfl⟩
 obtain⟨s1,s2⟩:=xz (kind:=2) (f:=0) (t:=0) (ui l (by omega)).root (by show(((start l).read:Nat):Int)<=((0:Nat):Int);exact jq _) (fB _) (ic _) (by omega) (by omega)
 have hD:Dp l 0 p1:=⟨by rw[Nat.mul_zero];exact o1,by rw[aa.2.1];rfl,λo ho=>(by rw[aa.2.1]at ho;cases ho),λ_=>aa.2.2,λt k h=>(by rw[aa.2.1]at h;cases h),
  by rw[aa.1];exact s1.trans (by rw[hadd.2];rfl),by rw[aa.1];exact s2.trans hadd.1⟩
 obtain⟨k1,k2⟩:=yT (l:=l) (depth:=depth) (b:=2*n+1) (n:=n) (by omega) (fB _) (Rw.iP l ⟨5,0,2*n+1,0⟩).1 n 0 p1 (holder p1) r2 (by omega) hD (ic _) rfl;have hne:(Rw.iP l ⟨5,0,2*n+1,0⟩).1≠[]:=by
  intro h;rw[h]at r2;cases n with
  |zero=>omega
  |succ n=>simp[Va]at r2
 obtain⟨q,hq⟩:=fq (places l depth (2*n+1) p1 (holder p1) (Rw.iP l ⟨5,0,2*n+1,0⟩).1);rw[hq]at k1 k2
 have hread:read l depth=(if q.1=true then
  (match q.2.st with
   |t::k=>({(value l [⟨5,0,2*n+1,0⟩] depth q.2 t.cur (2*n)).1 with st:={t with has:=(value l [⟨5,0,2*n+1,0⟩] depth q.2 t.cur (2*n)).2}::k}:PS)
   |[]=>q.2)
  else q.2).s:=by
  unfold read;rw[hrows];rw[jP,jP,eY (by show 0<=0;exact fB _)];unfold row;dsimp only;rw[eX (by decide),eY rfl];unfold body;dsimp only;rw[hlo,hback 0 (ic _),hp1,eX hne,hq,r3];have hx:lo l (2*(n-1)+1) (2*n+1)=2*n:=by
   unfold lo;rw[show 2*n+1-(2*(n-1)+1)=1+1 by omega,iQ,eY (by rw[(hget (n-1) (by omega)).2.1];rfl),show 2*(n-1)+1+1=2*n by omega];exact IG _ _ _ (by rw[hlast.1];rfl)
  rw[hx,hback _ (fB _),eY (show 2*n<2*n+1 by omega)];rfl
 have ae:tree (oJ n) depth=(l,(read l depth).t,yF ((read l depth).d++nM (oJ n) l)):=by
  unfold tree;rw[eX (by omega),htk,hl]
 rw[ae,htold,mP];refine⟨hlen,λhnd=>?_,λhnd=>?_⟩
 ·obtain⟨g1,g2⟩:=k1 hnd;rw[hread,eY g1];cases hst:q.2.st with
  |nil=>have:=g2.len;rw[hst]at this;simp at this;omega
  |cons t k=>
   dsimp only;obtain⟨d,hd',hc,hh⟩:=g2.opn;rw[hst]at hh;obtain⟨m,e1,e2⟩:=hh.2 (g2.has t k hst);have hlim:=MN hnm (2*n) (by omega);obtain⟨a1,a2⟩:=xz (kind:=7) (f:=2*n) (t:=2*n+1) e2 (jq _) (by omega) (by omega) (by omega) (by omega);obtain⟨s',b1,_⟩:=Dz (kind:=7) (f:=2*n) (t:=2*n+1) e2 (jq _) (by omega) (by omega) (by omega) (by omega);have b1:add q.2.s m 7 (2*n) (2*n+1)=(s',(q.2.s.t.length:Int)):=b1;have a1:oP (add q.2.s m 7 (2*n) (2*n+1)).1.t=oP q.2.s.t:=a1;have a2:(add q.2.s m 7 (2*n) (2*n+1)).1.d=q.2.s.d:=a2;rw[b1]at a1 a2;have hv:(value l [⟨5,0,2*n+1,0⟩] depth q.2 t.cur (2*n)).1.s=s':=by
    unfold value;dsimp only;rw[hlim,Q0 l l.length _ (2*n) _ _ (by omega) hlast.1,e1,b1];dsimp only;rw[eX (by omega),Vw (by omega),show decide (((q.2.s.t.length:Nat):Int)<0)=false from jE (by omega)];unfold rest;dsimp only;have hrt:tF [⟨5,0,2*n+1,0⟩] (2*n+1) false=2*n+1:=by
     unfold tF;rw[List.find?_cons];simp
    rw[hrt];have hlo2:lo l (2*n+1) (2*n+1)=2*n+1:=by unfold lo;rw[uC];rfl
    rw[hlo2];unfold rO;rw[eX (by have:=iV l (2*n+1) (2*n+1);omega)]
   rw[hv];refine⟨?_,by rw[a1];exact g2.oP⟩;rw[a2,g2.told];rfl
 obtain⟨g1,g2,g3⟩:=k2 hnd;rw[hread,g1,eX (by simp),g2,g3,(hget depth hnd).2.2,jH,hlast.2];exact⟨rfl,rfl⟩
end Ps
section
open Go.RowKit
open Sg
open Sq
open Ar
theorem Gv(S C:ByteArray)(L M:List Nat)(h:Sc.fw S=L)(hC:Sc.fw C=M):Sc.fw (S++C)=L++M:=by rw[Sc.QV,h,hC]
theorem KE{S:ByteArray}{L:List Nat}(h:Sc.fw S=L):S.size=L.length:=by rw[<-h,Sc.gJ]
def qE:Nat->List Nat
 |0=>[]
 |n+1=>45::32::qE n
theorem By(n:Nat):(qE n).length=2*n:=by
 induction n with
 |zero=>rfl
 |succ n ih=>rw[qE,jh,jh,ih];omega
theorem Hf(n:Nat):qE n++[45,32]=qE (n+1):=by
 induction n with
 |zero=>rfl
 |succ n ih=>rw[qE,KI,KI,ih];rfl
theorem yU(n:Nat):qE n++[97]=Ps.oJ n:=by
 induction n with
 |zero=>rfl
 |succ n ih=>rw[qE,KI,KI,ih];rfl
def rQ(t:List Nd)(i:Nat):Nat:=Ps.oP (t.take i)
theorem Hg{t:List Nd}{i:Nat}{x:Nd}(h:t[i]?=some x):rQ t (i+1)=rQ t i+(if x.k=3 then 1 else 0):=by
 have hi:=(gD.1 h).1;have he:=(gD.1 h).2;unfold rQ Ps.oP;rw[List.take_succ_eq_append_getElem hi,zD,he,List.countP_singleton];by_cases hk:x.k=3
 ·simp[hk]
 simp[hk]
theorem MO(t:List Nd)(i:Nat):rQ t i<=i:=by
 unfold rQ Ps.oP;have:=List.countP_le_length (p:=λx:Nd=>x.k==3) (l:=t.take i);rw[kD]at this;omega
theorem Js(t:List Nd):rQ t t.length=Ps.oP t:=by unfold rQ;rw[List.take_length]
theorem Bz(n0 d0:Int)(w:World)(_:(Lit.int .i64 n0).wf=true)(_:(Lit.int .i64 d0).wf=true)(hT:oO w):
 Calls prog 7 #[.int .i64 n0,.int .i64 d0] w λe w'=>e=.returned (.bool true)/\Below w.heap.size w w':=by
 have HQ:=eZ (λw'=>show Below w.heap.size w w'->(λe (w':World)=>e=Ending.returned (.bool true)/\Below w.heap.size w w') (.returned (.bool true)) w' from λh=>⟨rfl,h⟩);obtain⟨Q,hQ⟩:=fq ((λe (w':World)=>e=Ending.returned (.bool true)/\Below w.heap.size w w'));rw[hQ]at HQ⊢;have HK:=eZ (IE w hT);obtain⟨k,hk,hw1⟩:=uS n0 30 30 rfl (by decide) (by decide);obtain⟨m,hm,hw2⟩:=uS d0 30 30 rfl (by decide) (by decide);obtain⟨HW1,HW2⟩:=fT hw1 hw2;have HT:=eZ (λW (hW:Below w.heap.size w W)=>hT.below hW);obtain⟨n,hn⟩:=fq (k+1);obtain⟨d,hd⟩:=fq (m+1);have e1:IntKind.i64.wrap ((1:Int)+(k:Int))=(n:Int):=by rw[qL _ (by omega)];omega
 have e2:IntKind.i64.wrap ((1:Int)+(m:Int))=(d:Int):=by rw[qL _ (by omega)];omega
 clear hw1 hw2 hQ hT
 go_enter func7,ntmps7
 go_wp2_with fail
 refine HK.out.mono ?_;rintro e w1 ⟨rfl,hb1⟩;have HB1:=eZ hb1;clear hb1 HK;go_wp2_with fail
 refine(HW1.out _).mono ?_;rintro e w2 ⟨rfl,rfl⟩;go_wp2_with fail
 refine(HW2.out _).mono ?_;rintro e w2 ⟨rfl,rfl⟩;have ak:n<=30:=by omega
 have hn1:1<=n:=by omega
 have aI:d<=30:=by omega
 have hd1:1<=d:=by omega
 have HE:=eZ (And.intro e1 e2);clear hn hk hd hm HW1 HW2;go_upto_region 6 with fail
 try clear e1 e2
 go_loopw [5,6] (λsv iv wr=>∃(i:Nat)(S:ByteArray),iv=.int .i64 (i:Int)/\i<=n/\sv=.string S/\Hid (Sc.fw S=qE i)/\wr=w1) (λ_ iv _=>n-(intOf iv).toNat)
 case atStart=>exact⟨0,⟨#[]⟩,rfl,by omega,rfl,eZ rfl,rfl⟩
 case round=>
  obtain⟨i,S,rfl,hi,rfl,HS,rfl⟩:=hrel;have hsz:=KE HS.out;rw[By]at hsz;by_cases hlt:i<n
  ·have g1:(i:Int)<(n:Int):=by omega
   have y1:¬(9223372036854775807<S.size+2):=by omega
   have HS2:=eZ (show Sc.fw (S++⟨#[45,32]⟩)=qE (i+1)by rw[Gv S ⟨#[45,32]⟩ _ [45,32] HS.out rfl,Hf]);clear hsz;go_wp2_with fail
   go_roundw
   case rel=>exact⟨i+1,S++⟨#[45,32]⟩,by go_num,by omega,rfl,HS2,trivial⟩
   case measure=>simp[intOf];omega
  obtain rfl:i=n:=by omega
  have g1:¬((i:Int)<(i:Int)):=by omega
  have y1:¬(9223372036854775807<S.size+1):=by omega
  have hS2:Sc.fw (S++⟨#[97]⟩)=Ps.oJ i:=by rw[Gv S ⟨#[97]⟩ _ [97] HS.out rfl,yU]
  have hsz2:=KE hS2;have ae:(Ps.oJ i).length=2*i+1:=by rw[<-yU,iJ,By];rfl
  rw[ae]at hsz2;obtain⟨S2,hSS⟩:=fq (S++⟨#[97]⟩);rw[hSS]at hS2 hsz2;obtain⟨cap0,w2,hcv,hrow,hb2⟩:=wV S2 wr (by unfold maxLen;omega);have hbw:=HB1.out.trans (hb2.mono HB1.out.size);have htr:=NG w2 _ S2 d hrow.YB (HT.out _ hbw) (by omega) hd1 (by omega);rw[hS2]at htr;obtain⟨NB,av⟩:=fq (S2.size);rw[av]at htr hcv hsz2;rw[<-hSS]at hcv;obtain⟨hl,hin,hout⟩:=Ps.UC i d hn1 ak hd1 (by omega);obtain⟨X,hX⟩:=fq (Ps.tree (Ps.oJ i) d);rw[hX]at htr hl hin hout;obtain⟨TL,hTL⟩:=fq (X.2.1.length);obtain⟨DL,ax⟩:=fq (X.2.2.length);obtain⟨aC,HB2,aD,ay,HL,af⟩:=kJ htr hbw hin hout hl hTL;obtain⟨aj,aF⟩:=fT ax hsz;clear htr hbw hin hout hl hTL ax hrow hb2 ae hS2 hX hSS hsz2 av HS hi hlt hsz;go_wp2_with fail
  refine aC.out.mono ?_;intro e w3 ai;obtain⟨tv,nv,dv,rfl,hth,hb3⟩:=ai.three;obtain⟨ta,tc,na,nc,da,dc,rfl,rfl,rfl⟩:=hth.shapes HL.out af.out aj.out;have HB3:=eZ (fD HB2.out hb3);have hnd:=hth.reads.2.1;have hdg:=hth.reads.2.2;have ag:=hnd.size_le;rw[af.out]at ag;have aJ:TL<=9223372036854775807:=jU ag (by decide);obtain⟨W,hW⟩:=fq (w3.alloc (.cells #[.slice na TL nc] 31));have hbW:Below w3.heap.size w3 W:=hW▸fo w3 _;have m1:W.cell? ⟨w3.heap.size,0,none⟩=some (.slice na TL nc):=by rw[<-hW];exact at_new rfl
  have az:=hnd.below hbW;have aA:=hdg.below hbW
  have aG:=eZ (fun(j:Nat)(x:Nd)(hj:X.2.1[j]?=some x)=>by
   have h:=iM.at_ (l:=X.2.1) (a:=na) (cap:=nc) (by rw[af.out];exact az) j x hj;obtain⟨b,off,ka,kc,e,h1,_⟩:=h
   exact(⟨b,off,e,h1⟩:∃b off,na=some ⟨b,off,none⟩/\W.cell? ⟨b,off+j*6,none⟩=some (.int .i64 x.k)))
  have HD:=eZ (HQ.out _ (fD HB3.out hbW));obtain⟨aH,HW⟩:=fT aA hW;clear ai hcv hb3 hnd hdg ag hbW az aA hth hW;go_upto_region 12 with fail
  try rw[HW.out]
  go_loopw [10,11] (λcv iv wr=>∃j:Nat,iv=.int .i64 (j:Int)/\j<=TL/\cv=.int .i64 (rQ X.2.1 j:Int)/\wr=W) (λ_ iv _=>TL-(intOf iv).toNat)
  case atStart=>exact⟨0,rfl,by omega,rfl,rfl⟩
  case round=>
   obtain⟨j,rfl,hj,rfl,rfl⟩:=hrel;have hC:=MO X.2.1 j;by_cases hlt:j<TL
   ·have g1:(j:Int)<(TL:Int):=by omega
    obtain⟨x,hx⟩:=jB X.2.1 j (by rw[af.out];exact hlt);obtain⟨nb,off,rfl,c1⟩:=aG.out j x hx;have hs:=Hg hx;obtain⟨C,aB⟩:=fq (rQ X.2.1 j);rw[aB]at hs hC⊢;have HS:=eZ hs;clear hs hx aB;by_cases e:x.k=3
    ·have g2:(x.k==3)=true:=by simp[e]
     go_wp2_with fail
     go_roundw
     case rel=>exact⟨j+1,by go_num,by omega,by rw[HS.out,eY e];go_num,trivial⟩
     case measure=>simp[intOf];omega
    have g2:(x.k==3)=false:=by simp[e]
    go_wp2_with fail
    go_roundw
    case rel=>exact⟨j+1,by go_num,by omega,by rw[HS.out,eX e];go_num,trivial⟩
    case measure=>simp[intOf];omega
   obtain rfl:j=TL:=by omega
   have g1:¬((j:Int)<(j:Int)):=by omega
   have hall:=Js X.2.1;rw[af.out]at hall;rw[hall];clear hall hC;by_cases hle:i<=d
   ·obtain⟨hd0,ah⟩:=aD.out hle;rw[ah];have aa:=aj.out;rw[hd0]at aa;obtain rfl:DL=0:=aa.symm;have g2:(i:Int)<=(d:Int):=by omega
    have g4:(((2*i+1:Nat):Int)==2*(i:Int)+1)=true:=by simp
    clear hd0 ah aa;go_wp2_with fail
    try simp only[Exit.jump]
    exact HD.out
   obtain⟨hd0,ah⟩:=ay.out (by omega);rw[ah];have aa:=aj.out;have hdg:=aH.out;rw[hd0]at aa hdg;obtain rfl:DL=1:=aa.symm;have hdg:Reads ib wr (.slice da ([⟨10,2*d,2*i+1⟩]:List Fl.Dg).length dc) ([⟨10,2*d,2*i+1⟩]:List Fl.Dg):=hdg;obtain⟨b,off,rfl,hat⟩:=hdg.at_ 0 (⟨10,2*d,2*i+1⟩:Fl.Dg) rfl;have q0:wr.cell? ⟨b,off,none⟩=some (.int .i64 10):=by have:=hat 0 _ rfl;simpa using this
   have q1:wr.cell? ⟨b,off+1,none⟩=some (.int .i64 (2*(d:Int))):=by have:=hat 1 _ rfl;simpa using this
   have q2:wr.cell? ⟨b,off+2,none⟩=some (.int .i64 (2*(i:Int)+1)):=by have:=hat 2 _ rfl;simpa using this
   have g2:¬((i:Int)<=(d:Int)):=by omega
   have hss:(S.size:Int)+1=2*(i:Int)+1:=by have:=aF.out;omega
   clear hd0 ah aa hdg hat;go_wp2_with fail
   try simp only[Exit.jump]
   exact HD.out
end
namespace parseDeepDone
open Go.ChangeShapes Go.WideShapes Go.ChangeAt Go.RowKit
open Go.ChangeMaps (open_string shut_string)
theorem contract(H:Type)(enc:TypeId×Value->H)(W:World)(base:Nat)(args:Array Value)(ds gs:List (DataW H))(before:List MemPlace)
 (hval:∀(j:Nat) t v,Tryz.f7.params[j]?=some t->args[j]?=some v->Value.okWide prog W .any base t v)
 (hW:DataW.Whole enc prog Tryz.f7.params.toList Rows.parseDeepSpec.vars false W args.toList ds gs before) (hL:laidMetH prog Rows.parseDeepRow.laid W):
 Calls prog 7 args W λe W'=>∃v,e=.returned v/\Rows.parseDeepSpec.post enc prog Tryz.f7 false true false false W args v W':=by
 have ae:=hW;obtain⟨p,q,aa,hV,rfl,hfz,hnd⟩:=hW;have hA:DataW.TrodAll enc prog W 0 (λ_=>true) true Tryz.f7.params.toList args.toList ds p:=aa;rw[params7]at hA hval;obtain⟨v0,af,d0,ds0,p0,q0,hargs,rfl,rfl,h0,r0⟩:=trodAll_cons hA;obtain⟨v1,vs1,d1,ds1,p1,q1,rfl,rfl,rfl,h1,r1⟩:=trodAll_cons r0;obtain⟨rfl,rfl,rfl⟩:=trodAll_nil r1;obtain rfl:args=#[v0,v1]:=by cases args;simp_all
 obtain⟨rfl,rfl⟩:=trodVars_none hV;obtain⟨a0,rfl,rfl,rfl,w0⟩:=open_int underlying3 (hval 0 3 v0 rfl rfl) h0;obtain⟨a1,rfl,rfl,rfl,w1⟩:=open_int underlying3 (hval 1 3 v1 rfl rfl) h1;clear aa hval;refine(Bz a0 a1 W w0 w1 (sF hL)).mono λe W' ⟨he,lu⟩=>?_
 subst he;exact⟨_,rfl,_,_,_,[],_,[],ae,trodAll_mk1 (shut_bool underlying4 _),(trodAll_cons_mk (shut_int underlying3 w0) (trodAll_cons_mk (shut_int underlying3 w1) trodAll_mk0)),rfl,lu.frame _,λh=>by cases h⟩
theorem uq(os:Os):laidMet prog Rows.parseDeepRow.laid ((mf os).forCall (λ_ _=>0) ⟨#[],#[.int .i64 0,.int .i64 0],[]⟩).memory:=
 laidMet_of_run' 8 (by kernel_rfl) (by kernel_rfl)
theorem reads(os:Os){H:Type}(enc:TypeId×Value->H):∃places,DataW.whole enc prog ((mf os).forCall (λ_ _=>0) ⟨#[],#[.int .i64 0,.int .i64 0],[]⟩).memory Tryz.f7.params.toList Rows.parseDeepSpec.vars false (#[.int .i64 0,.int .i64 0]:Array Value).toList 8=some ([.lit (.int .i64 0),.lit (.int .i64 0)],[],places):=
 ⟨[],by kernel_rfl⟩
theorem lifted(os:Os)(started:os.Started)(H:Type)(enc:TypeId×Value->H)(F:Stop.Interp):
 ReturnsInHanded {} Tryz.checked os 7 .any ((OpenSpec.ofChange Rows.parseDeepSpec).preRow enc prog Tryz.f7 Rows.parseDeepRow.domain false Rows.parseDeepRow.laid) (((OpenSpec.ofChange Rows.parseDeepSpec).at F).post enc prog Tryz.f7 false true false false):=by
 obtain⟨places,hx⟩:=reads os enc;refine returnsInHanded_of_row (C:=Tryz.checked) (s:=OpenSpec.ofChange Rows.parseDeepSpec) own started (by kernel_rfl) func7
  (witness_row_at (enc:=enc) (C:=Tryz.checked) false (mf os) #[.int .i64 0,.int .i64 0] rfl (by kernel_rfl) (by kernel_rfl) (by kernel_rfl)
   (OpenSpec.preRow_of_cond 8 hx (by kernel_rfl) (λk hk=>by cases hk) (by kernel_rfl) (uq os))) ?_
 intro W base args ds gs before hval hW _ _ _ hL _ _;exact contract H enc W base args ds gs before hval hW hL
theorem said:Rows.ParseDeepSaid:=
 OpenClaim.holds_of_cond 7 Tryz.f7 rfl rfl rfl rfl rfl rfl rfl ⟨rfl,rfl,rfl,rfl,rfl⟩ rfl rfl rfl rfl rfl (by kernel_rfl) func7 (by kernel_rfl)
  (M6 (by kernel_rfl)) (by unfold Func.isWrapper;first|(rw[eY (by decide+kernel)];kernel_rfl)|(rw[eX (by decide+kernel)];exact⟨rfl,rfl⟩))
  (λos started H enc _ F=>by rw[OpenClaim.pre_eq_preRow];exact lifted os started H enc F)
theorem plain(f:FuncId)(fn:Func)(hf:Tryz.pinned.checked.prog.funcNamed "corrector/correctorlaw12.ParseDeep"=some f)(hfn:Tryz.pinned.checked.prog.funcs[f]?=some fn):
 true=Tryz.pinned.checked.prog.looks []/\∀(j:Nat) t,fn.params[j]?=some t->Tryz.pinned.checked.prog.wantsStandIn t=false:=by
 obtain rfl:f=7:=jl ((show prog.funcNamed "corrector/correctorlaw12.ParseDeep"=some 7 by kernel_rfl).symm.trans hf)|>.symm
 obtain rfl:fn=Tryz.f7:=(jl (func7.symm.trans hfn)).symm;refine⟨by kernel_rfl,λj t ht=>?_⟩;rw[params7]at ht;have hall:([3,3]:List TypeId).all (λu=>!prog.wantsStandIn u)=true:=by kernel_rfl
 have hin:t∈([3,3]:List TypeId):=by simpa using Ve ht
 have h2:prog.wantsStandIn t=false:=by simpa using Rj.1 hall t hin
 exact h2
theorem card:Rows.ParseDeepCardSaid:=
 Claim7.holds_tied_plain_at .later [] _ _ _ _ said (λ_ h=>by cases h) (by kernel_rfl) (λ_ h=>by cases h) parseDeep_row_tie rfl ⟨rfl,rfl⟩ (by kernel_rfl) rfl plain (by kernel_rfl)
#print axioms card
end parseDeepDone
end Go.Proofs.YtmkkdjpebbdikaaGreatDoor

import Derived.Test.YtfbiffdmhcjhbaaZa15
import Derived.Test.YtfbiffdmhcjhbaaZa17
set_option linter.all false
set_option maxHeartbeats 16000000
set_option maxRecDepth 100000
namespace Go.Proofs.Ytfbiffdmhcjhbaa
open Go.RowKit Try
section
open Go.RowKit
open Sq
open Ar
open Fl (Tk raw kd p9 cnt ends opens nL nR begins back blanks mG pair item nM BO key oZ qL qR qo qi lead nS balanced text zk tN zi vL)
namespace Fl
theorem ED(l:List Tk)(e g:Nat)(o:Option (Nat×Nat))(i:Nat):lead l e (g+1) o i=if nR (kd l e i)=true then lead l e g (some (nS o i,i)) (blanks l e (i+1))else(o,i):=rfl
theorem Qd(l:List Tk)(e g:Nat)(o:Option (Nat×Nat))(i:Nat)(h:nR (kd l e i)=false):lead l e g o i=(o,i):=by
 cases g with
 |zero=>rfl
 |succ g=>rw[ED,fu (by rw[h];decide)]
def NI(o:Option (Nat×Nat)):Int:=match o with
 |none=>-1
 |some x=>x.1
def NJ(o:Option (Nat×Nat)):Int:=match o with
 |none=>0
 |some x=>x.2
def Lu(l:List Tk)(e d:Nat):Option (Int->Nat->St->Nat×St):=match d with
 |0=>none
 |d'+1=>some (λc op s=>qo l e (nM l e d') c op (e-op) (op+1) false s)
theorem Tg(l:List Tk)(e d:Nat):nM l e d=BO l e (Lu l e d):=by cases d<;>rfl
def UO(l:List Tk)(e:Nat)(mE:Option (Int->Nat->St->Nat×St))(up:Int)(p:Nat)(s:St)(o:Option (Nat×Nat))(i:Nat):Int×Nat×St:=
 if kd l e i=13 then((add s up 8 (nS o i) (i+1)).2,i+1,(add s up 8 (nS o i) (i+1)).1)
 else if nL (kd l e i)=true then((add s up 7 (nS o i) (i+1)).2,i+1,(add s up 7 (nS o i) (i+1)).1)
 else if kd l e i=18 then((add s up 7 (nS o i) (text l e i)).2,text l e i,(add s up 7 (nS o i) (text l e i)).1)
 else if opens (kd l e i)=true then match mE with
  |none=>((addN s.t up 11 (nS o i) (balanced l e i)).2,balanced l e i,err l s up (nS o i) (balanced l e i) 10)
  |some mE=>((add s up (if kd l e i=9 then 10 else 9) (nS o i) (i+1)).2,(mE (add s up (if kd l e i=9 then 10 else 9) (nS o i) (i+1)).2 i (add s up (if kd l e i=9 then 10 else 9) (nS o i) (i+1)).1).1,(mE (add s up (if kd l e i=9 then 10 else 9) (nS o i) (i+1)).2 i (add s up (if kd l e i=9 then 10 else 9) (nS o i) (i+1)).1).2)
 else match o with
  |some x=>((add s up 7 (nS o i) (x.2+1)).2,x.2+1,(add s up 7 (nS o i) (x.2+1)).1)
  |none=>(-1,p,s)
theorem Vn(l:List Tk)(e:Nat)(mE:Option (Int->Nat->St->Nat×St))(up:Int)(p:Nat)(s:St):BO l e mE up p s=UO l e mE up p s (lead l e (e-blanks l e p) none (blanks l e p)).1 (lead l e (e-blanks l e p) none (blanks l e p)).2:=rfl
end Fl
theorem Gb(w0 w:World)(rb:Nat)(tv:Value)(e:Nat)(l:List Tk)(s:Fl.St)(R:Nat->Prop)(up p k f t:Nat)(b:Int)(hS:GS w0 w rb tv e l s R)(hck:Ck s.t l.length)(hf:Fits s.t p b up)(hlf:Fe.Lf s.t)(hno:Fe.No s.t up)(hn:s.t.length<=700000000000)
 (aa:p<=f) (hft:f<=t) (ht:t<=l.length) (h1:1<=k) (h2:k<=10):
 Calls prog 65 #[RG rb,.int .i64 up,.int .i64 k,.int .i64 f,.int .i64 t] w (nE w0 w rb tv e l R (.int .i64 (Fl.add s up k f t).2) (Fl.add s up k f t).1):=by
 obtain⟨s',a1,_⟩:=Fe.pQ (kind:=k) (Fe.Ok.start (l:=l) (p0:=p) hck hf hlf hno) (f:=f) (t:=t) (by omega) hft (by omega) h1 h2;have h2:=congrArg Prod.snd a1;exact NF w0 w rb tv e l s R up k f t hS (qp.of hck (by omega)) (rY h2)
theorem GK{l:List Tk}{p0:Nat}{n e b:Int}{up f t kind:Nat}{s0 s:Fl.St}(h:Fe.Ok l p0 n up s0 e b s)(he:e<=f)(hft:f<=t)(htn:(t:Int)<=n)(hk1:1<=kind)(hk2:kind<=10):
 ∃s',Fl.add s up kind f t=(s',(s.t.length:Int))/\Fe.Ok l p0 n up s0 t (max b t) s'/\Fe.Ok l p0 n s.t.length s0 f (max b t) s'/\(∃x,s'.t[s.t.length]?=some x/\x.u=(up:Int)/\x.k=(kind:Int))/\0<s.t.length:=by
 obtain⟨s',a1,a2,a3,_,a6⟩:=Fe.pQ h he hft htn hk1 hk2;obtain⟨r,b1,_,_,_,_,_,_,_,_,b2,_⟩:=Fe.Aa h he hft htn hk1 (by omega) (λe=>by omega);have hr:s'.t=r:=by
  have e1:=congrArg (λx=>x.1.t) a1;have e2:=congrArg Prod.fst b1;exact e1.symm.trans e2
 exact⟨s',a1,a2,a3,by rw[hr];exact b2,a6⟩
theorem Uf(w0 w:World)(rb:Nat)(tv:Value)(e:Nat)(l:List Tk)(s:Fl.St)(R:Nat->Prop)(up:Int)(f t code:Nat)(hS:GS w0 w rb tv e l s R)(hr:qp s.t)(hm:oV s.t up 11 f t=true)(hft:f<t)(ht:t<=l.length)(hd:s.d.length<=800000000000):
 ∃v,Calls prog 43 #[RG rb,.int .i64 up,.int .i64 f,.int .i64 t,.int .i64 code] w (nE w0 w rb tv e l R (.int .i64 v) (Fl.err l s up f t code))/\v=(addN s.t up 11 f t).2:=by
 obtain⟨j,rfl⟩:∃j,t=j+1:=⟨t-1,by omega⟩
 exact⟨_,Ol w0 w rb tv e l s R up f j code hS hr hm (by omega) (by omega) hd,rfl⟩
theorem Kw{k:Nat}(h:opens k=true):k=8\/k=9:=by unfold opens at h;simp at h;omega
theorem Wz(l:List Tk)(d:Nat)(HC:∀d',d=d'+1->VG l d')(bq:d<=1000):VG l d:=by
 intro w0 w rb tv e s R up p b hS hck hf hlf hno hb hpe hn hd;have hel:=hS.gt.ends;have hls:=hS.gt.size;have hes:e<=100000:=qy hel hls;obtain⟨LD,aP⟩:=my (lead l e (e-blanks l e p) none (blanks l e p));have hbi:=qL (l:=l) hpe;have aT:=zk l e (blanks l e p) (e-blanks l e p) none (blanks l e p) (mJ _) (by omega) (λa z h=>by simp at h);have hbl:=Ke rb tv e l p w hS.gt (by omega);rw[aP]at aT;obtain⟨i0,hi0⟩:=my (blanks l e p);rw[hi0]at hbi aT hbl aP;obtain⟨bf,aW⟩:=mR aP hbl;have aC:=eu (λj=>D9 rb tv e l j w hS.gt);have aD:=eu (λj (hj:j<=e)=>show Calls prog 86 #[RG rb,.int .i64 ((j:Int)+1)] w λen w'=>en=.returned (.int .i64 (blanks l e (j+1):Nat))/\w=w' from by have h1:=Ke rb tv e l (j+1) w hS.gt (by omega);rw[show((j+1:Nat):Int)=(j:Int)+1 from by omega]at h1;exact h1);have HSc:=eu (λk=>NQ k w);have aF:=eu (λk=>Fh k w);have aX:nM l e d up p s=Fl.UO l e (Fl.Lu l e d) up p s LD.1 LD.2:=by rw[Fl.Tg,Fl.Vn,hi0,aP]
 obtain⟨Z,hZ⟩:=my (nM l e d up p s);rw[hZ]at aX⊢;obtain⟨aI,aJ,HS,ah,ak,av⟩:=qW aX aT hS hck hf hlf;obtain⟨ax,aH⟩:=mR hno HC;have HQ:=eu (λW R' n (t:Nat) s' (hz:Z=(n,t,s'))(h:GS w0 W rb tv e l s' R')(h2:FP w W rb R R')=>show nE w0 w rb tv e l R (.tuple #[.int .i64 Z.1,.int .i64 (Z.2.1:Nat)]) Z.2.2 (.returned (.tuple #[.int .i64 n,.int .i64 (t:Int)])) W from by subst hz;exact⟨rfl,R',h,h2⟩);obtain⟨Q,hQ⟩:=my (nE w0 w rb tv e l R (.tuple #[.int .i64 Z.1,.int .i64 (Z.2.1:Nat)]) Z.2.2);rw[hQ]at HQ⊢;have bg:(e:Int)+1<4611686018427387904:=by omega
 obtain⟨N,hN⟩:=my (l.length);have HN:=eu hN;rw[hN]at hel hls;obtain⟨ay,aB⟩:=mR hn hd;clear hn hd bg;clear hS hck hf hlf hno HC aX hZ aP aT hbl hQ hN
 go_enter func78,ntmps78
 go_wp2_with (with_reducible refine aW.out.mono ?_;rintro e w1 ⟨rfl,rfl⟩)
 clear aW
 go_loopw [10,11,12] (λiv fv lv wr=>∃(i g:Nat)(o:Option (Nat×Nat)),iv=.int .i64 i/\fv=.int .i64 (Fl.NI o)/\lv=.int .i64 (Fl.NJ o)/\i<=e/\Hid (e<=g+i)/\Hid (lead l e g o i=LD)/\w=wr) (λiv _ _ _=>e-(intOf iv).toNat)
 case atStart=>exact⟨i0,e-i0,none,rfl,rfl,rfl,hbi.2,eu (by omega),bf,rfl⟩
 case round=>
  clear bf;obtain⟨i,g,o,rfl,rfl,rfl,hie,HG,HL,rfl⟩:=hrel;have hk:=aC.out i;obtain⟨K,hK⟩:=my (kd l e i);rw[hK]at hk;have aj:=eu hk;cases c:nR K with
  |true=>
   have hke:=Fl.BZ (l:=l) (e:=e) (i:=i) (by rw[hK];intro h0;rw[h0]at c;exact absurd c (by decide));have hg1:=HG.out;obtain⟨g',rfl⟩:∃g',g=g'+1:=⟨g-1,by omega⟩
   have hl:=HL.out;rw[Fl.ED,hK,gu c]at hl;have hin:=qL (l:=l) (e:=e) (i:=i+1) (by omega);have ht:=aD.out i hie;obtain⟨X,hX⟩:=my (blanks l e (i+1));rw[hX]at hl hin ht;obtain⟨HL2,aU⟩:=mR hl ht;have aV:=eu (show e<=g'+X by omega);have h12:K=12\/K=14:=by rw[Fl.x9]at c;simp at c;omega
   cases o with
   |none=>
    have e1:nS none i=i:=rfl;rw[e1]at HL2;have e2:Fl.NI none=-1:=rfl;have e3:Fl.NJ none=0:=rfl;rw[e2,e3];clear hk hK c hg1 HG HL hl ht hX aC aD HSc aF e1 e2 e3;rcases h12 with q|q
    ·have g1:((K:Int)==12)=true:=by simp;omega
     clear q;go_wp2_with (first|(with_reducible refine aj.out.mono ?_;rintro e w1 ⟨rfl,rfl⟩)|(with_reducible refine aU.out.mono ?_;rintro e w1 ⟨rfl,rfl⟩)|fail)
     go_roundw
     case rel=>exact⟨X,g',some (i,i),rfl,rfl,rfl,by omega,aV,HL2,trivial⟩
     case measure=>simp[intOf];omega
    have g1:((K:Int)==12)=false:=by simp;omega
    have g2:((K:Int)==14)=true:=by simp;omega
    clear q;go_wp2_with (first|(with_reducible refine aj.out.mono ?_;rintro e w1 ⟨rfl,rfl⟩)|(with_reducible refine aU.out.mono ?_;rintro e w1 ⟨rfl,rfl⟩)|fail)
    go_roundw
    case rel=>exact⟨X,g',some (i,i),rfl,rfl,rfl,by omega,aV,HL2,trivial⟩
    case measure=>simp[intOf];omega
   |some az=>
    obtain⟨a,z⟩:=az;have e1:nS (some (a,z)) i=a:=rfl;rw[e1]at HL2;have e2:Fl.NI (some (a,z))=(a:Int):=rfl;have e3:Fl.NJ (some (a,z))=(z:Int):=rfl;rw[e2,e3];have ga:¬((a:Int)<0):=by omega
    clear hk hK c hg1 HG HL hl ht hX aC aD HSc aF e1 e2 e3;rcases h12 with q|q
    ·have g1:((K:Int)==12)=true:=by simp;omega
     clear q;go_wp2_with (first|(with_reducible refine aj.out.mono ?_;rintro e w1 ⟨rfl,rfl⟩)|(with_reducible refine aU.out.mono ?_;rintro e w1 ⟨rfl,rfl⟩)|fail)
     go_roundw
     case rel=>exact⟨X,g',some (a,i),rfl,rfl,rfl,by omega,aV,HL2,trivial⟩
     case measure=>simp[intOf];omega
    have g1:((K:Int)==12)=false:=by simp;omega
    have g2:((K:Int)==14)=true:=by simp;omega
    clear q;go_wp2_with (first|(with_reducible refine aj.out.mono ?_;rintro e w1 ⟨rfl,rfl⟩)|(with_reducible refine aU.out.mono ?_;rintro e w1 ⟨rfl,rfl⟩)|fail)
    go_roundw
    case rel=>exact⟨X,g',some (a,i),rfl,rfl,rfl,by omega,aV,HL2,trivial⟩
    case measure=>simp[intOf];omega
  |false=>
   have hl:=HL.out;rw[Fl.Qd l e g o i (by rw[hK];exact c)]at hl;subst hl;have g12:((K:Int)==12)=false:=by rw[Fl.x9]at c;simp at c⊢;omega
   have g14:((K:Int)==14)=false:=by rw[Fl.x9]at c;simp at c⊢;omega
   have hz:=aI.out;unfold Fl.UO at hz;rw[hK]at hz;dsimp only at hz;have hlo:=aJ.out;dsimp only at hlo;obtain⟨l1,l2,l3,-⟩:=hlo;have ae:K≠0->i<e/\raw l i=K:=λh=>by have:=qR (l:=l) (e:=e) (i:=i) (by rw[hK];exact h);rw[hK]at this;exact this
   have aa:=eu (λk f t (bn:p<=f)(hft:f<=t)(ht:t<=e)(h1:1<=k)(h2:k<=10)=>Gb w0 w rb tv e l s R up p k f t b HS.out ah.out ak.out av.out ax.out (by have:=ay.out;omega) bn hft (by rw[HN.out];omega) h1 h2);have hsc:=HSc.out K;have hop:=aF.out K;obtain⟨SC,aA⟩:=my (nL K);obtain⟨OP,ag⟩:=my (opens K);rw[aA]at hsc hz;rw[ag]at hop hz;obtain⟨ai,aK⟩:=mR hsc hop;cases o with
   |none=>
    have e1:nS none i=i:=rfl;have e2:Fl.NI none=-1:=rfl;have e3:Fl.NJ none=0:=rfl;rw[e2,e3];rw[e1]at hz;clear e1 e2 e3;have hfr:p<=i/\i<=i:=⟨by omega,mJ _⟩
    by_cases k13:K=13
    ·have hi2:=ae (by omega);rw[gu k13]at hz;have hp:=aa.out 8 i (i+1) hfr.1 (by omega) (by omega) (by omega) (by omega);obtain⟨A,hA⟩:=my (Fl.add s up 8 i (i+1));rw[hA]at hp hz;rw[show((i+1:Nat):Int)=(i:Int)+1 from by omega]at hp;obtain⟨af,HZ⟩:=mR hp hz;have g13:((K:Int)==13)=true:=by simp;omega
     clear hk hK c HG HL aC aD HSc aF aa hsc hop aA ag aI aJ HS ah ak av ax aH HN ae l3 hbi ay aB hA hp hz hfr k13;go_wp2_with (first|(with_reducible refine aj.out.mono ?_;rintro e w1 ⟨rfl,rfl⟩)|fail)
     refine af.out.mono ?_;rintro e1 w1 ⟨rfl,R1,hS1,hF1⟩;have HD:=eu (HQ.out w1 R1 _ _ _ HZ.out hS1 hF1);clear hS1 hF1 af HQ HZ;rw[show((i+1:Nat):Int)=(i:Int)+1 from by omega]at HD;go_wp2_with fail
     exact HD.out
    rw[fu k13]at hz;have g13:((K:Int)==13)=false:=by simp;omega
    cases SC with
    |true=>
     have hi2:=ae (λh=>by rw[h]at aA;exact absurd aA (by decide));rw[gu rfl]at hz;have hp:=aa.out 7 i (i+1) hfr.1 (by omega) (by omega) (by omega) (by omega);obtain⟨A,hA⟩:=my (Fl.add s up 7 i (i+1));rw[hA]at hp hz;rw[show((i+1:Nat):Int)=(i:Int)+1 from by omega]at hp;obtain⟨af,HZ⟩:=mR hp hz;clear hk hK c HG HL aC aD HSc aF aa hsc hop aA ag aI aJ HS ah ak av ax aH HN ae l3 hbi ay aB hA hp hz hfr k13;go_wp2_with (first|(with_reducible refine aj.out.mono ?_;rintro e w1 ⟨rfl,rfl⟩)|(with_reducible refine ai.out.mono ?_;rintro e w1 ⟨rfl,rfl⟩)|fail)
     refine af.out.mono ?_;rintro e1 w1 ⟨rfl,R1,hS1,hF1⟩;have HD:=eu (HQ.out w1 R1 _ _ _ HZ.out hS1 hF1);clear hS1 hF1 af HQ HZ;rw[show((i+1:Nat):Int)=(i:Int)+1 from by omega]at HD;go_wp2_with fail
     exact HD.out
    |false=>
    rw[fu (by decide)]at hz;by_cases k18:K=18
    ·have hi2:=ae (by omega);have htx:=zi (l:=l) (e:=e) (i:=i) (by rw[hK];exact k18);have htc:=Uc rb tv e l i w HS.out.gt (by omega);obtain⟨t,ht⟩:=my (text l e i);rw[ht]at htx htc hz;have aY:=eu htc;rw[gu k18]at hz;have hp:=aa.out 7 i (t) hfr.1 (by omega) (by omega) (by omega) (by omega);obtain⟨A,hA⟩:=my (Fl.add s up 7 i (t));rw[hA]at hp hz;obtain⟨af,HZ⟩:=mR hp hz;have g18:((K:Int)==18)=true:=by simp;omega
     clear hk hK c HG HL aC aD HSc aF aa hsc hop aA ag aI aJ HS ah ak av ax aH HN ae l3 hbi ay aB hA hp hz hfr k13 k18 htx htc ht;go_wp2_with (first|(with_reducible refine aj.out.mono ?_;rintro e w1 ⟨rfl,rfl⟩)|(with_reducible refine ai.out.mono ?_;rintro e w1 ⟨rfl,rfl⟩)|(with_reducible refine aY.out.mono ?_;rintro e w1 ⟨rfl,rfl⟩)|fail)
     refine af.out.mono ?_;rintro e1 w1 ⟨rfl,R1,hS1,hF1⟩;have HD:=eu (HQ.out w1 R1 _ _ _ HZ.out hS1 hF1);clear hS1 hF1 af HQ HZ;go_wp2_with fail
     exact HD.out
    rw[fu k18]at hz;have g18:((K:Int)==18)=false:=by simp;omega
    cases OP with
    |true=>
     rw[gu rfl]at hz;have hi2:=ae (λh=>by rw[h]at ag;exact absurd ag (by decide));cases d with
     |zero=>
      dsimp only[Fl.Lu]at hz;have hbn:=tN (l:=l) (e:=e) (i:=i) (by rw[hK];exact ag);have hbc:=Er rb tv e l i w HS.out.gt (by rw[hK];exact ag);obtain⟨t,ht⟩:=my (balanced l e i);rw[ht]at hbn hbc hz;obtain⟨-,m2⟩:=Fe.qF (code:=10) (Fe.Ok.start (l:=l) (p0:=p) ah.out ak.out av.out ax.out) (f:=i) (t:=t) (by omega) (by omega) (by rw[HN.out];omega) (by omega) (by omega) (by omega) (by omega);obtain⟨v,hev⟩:=Uf w0 w rb tv e l s R up i t 10 HS.out (qp.of ah.out (by have:=ay.out;omega)) (rY m2) (by omega) (by rw[HN.out];omega) (by have:=aB.out;omega);obtain⟨hev,hv⟩:=hev;rw[<-hv]at hz;obtain⟨aQ,aZ,HZ⟩:=nY hev hbc hz;clear hk hK c HG HL aC aD HSc aF aa hsc hop aA ag aI aJ HS ah ak av ax aH HN ae l3 hbi ay aB hz hfr k13 k18 hbn hbc ht m2 hev hv;go_wp2_with (first|(with_reducible refine aj.out.mono ?_;rintro e w1 ⟨rfl,rfl⟩)|(with_reducible refine ai.out.mono ?_;rintro e w1 ⟨rfl,rfl⟩)|(with_reducible refine aK.out.mono ?_;rintro e w1 ⟨rfl,rfl⟩)|(with_reducible refine aZ.out.mono ?_;rintro e w1 ⟨rfl,rfl⟩)|fail)
      refine aQ.out.mono ?_;rintro e1 w1 ⟨rfl,R1,hS1,hF1⟩;have HD:=eu (HQ.out w1 R1 _ _ _ HZ.out hS1 hF1);clear hS1 hF1 aQ HQ HZ;go_wp2_with fail
      exact HD.out
     |succ d' =>
      dsimp only[Fl.Lu]at hz;obtain⟨KN,aG⟩:∃KN:Nat,(if K=9 then 10 else 9)=KN:=⟨_,rfl⟩
      have hkn:1<=KN/\KN<=10:=by rw[<-aG];split<;>omega
      rw[aG]at hz;obtain⟨s',a1,a2,a3,⟨x,a4,a5,a7⟩,a6⟩:=GK (kind:=KN) (Fe.Ok.start (l:=l) (p0:=p) ah.out ak.out av.out ax.out) (f:=i) (t:=i+1) (by omega) (by omega) (by rw[HN.out];omega) hkn.1 hkn.2;have hzl:=Fe.pM s up KN i (i+1);have hp:=aa.out KN i (i+1) hfr.1 (by omega) (by omega) hkn.1 hkn.2;rw[a1]at hp hz hzl;dsimp only at hp hz hzl;rw[show((i+1:Nat):Int)=(i:Int)+1 from by omega]at hp;obtain⟨ZC,aO⟩:=my (qo l e (nM l e d') (s.t.length:Int) i (e-i) (i+1) false s');rw[aO]at hz;have aR:CI l e d' s.t.length i x.k ZC (i+1) false s':=⟨a3.ck,a3.fits.le (by omega) (by omega),a3.lf,a3.no,Nat.lt_succ_self _,by omega,by rw[HN.out];exact hel,by rw[si,hi2.2];exact vL ag,⟨x,a4,rfl⟩,by have:=hzl.1;have:=ay.out;omega,by rw[hzl.2];have:=aB.out;omega,e-i,by omega,aO⟩
      have aL:=eu (λw1 R1 (h:GS w0 w1 rb tv e l s' R1)=>Ww l d' (aH.out d' rfl) (by omega) w0 w1 rb tv e s' R1 s.t.length i x ZC h hi2.1 (by rw[a7,hi2.2,<-aG];rcases Kw ag with h|h<;>rw[h]<;>rfl) aR);obtain⟨M,hM⟩:=my (s.t.length);rw[hM]at hp hz aL;obtain⟨af,HZ⟩:=mR hp hz;have gd:¬(((d'+1:Nat):Int)<=0):=by omega
      have aS:((d'+1:Nat):Int)=(d':Int)+1:=by omega
      rw[aS]at gd⊢;clear hk hK c HG HL aC aD HSc aF aa hsc hop aA ag aI aJ HS ah ak av ax aH HN ae l3 hbi ay aB hz hp hfr k13 k18 a1 a2 a3 a4 a5 a6 a7 hzl aO aR hM hkn aS;by_cases k9:K=9
      ·rw[gu k9]at aG;subst aG;have g9:((K:Int)==9)=true:=by simp;omega
       clear k9;go_wp2_with (first|(with_reducible refine aj.out.mono ?_;rintro e w1 ⟨rfl,rfl⟩)|(with_reducible refine ai.out.mono ?_;rintro e w1 ⟨rfl,rfl⟩)|(with_reducible refine aK.out.mono ?_;rintro e w1 ⟨rfl,rfl⟩)|fail)
       refine af.out.mono ?_;rintro e1 w1 ⟨rfl,R1,hS1,hF1⟩;obtain⟨aM,aN⟩:=mR (aL.out w1 R1 hS1) hF1;clear hS1 hF1 af aL;go_wp2_with fail
       refine aM.out.mono ?_;rintro e1 w2 ⟨rfl,R2,hS2,hF2⟩;have HD:=eu (HQ.out w2 R2 _ _ _ HZ.out hS2 (aN.out.trans hF2));clear hS2 hF2 aM HQ HZ aN;go_wp2_with fail
       exact HD.out
      rw[fu k9]at aG;subst aG;have g9:((K:Int)==9)=false:=by simp;omega
      clear k9;go_wp2_with (first|(with_reducible refine aj.out.mono ?_;rintro e w1 ⟨rfl,rfl⟩)|(with_reducible refine ai.out.mono ?_;rintro e w1 ⟨rfl,rfl⟩)|(with_reducible refine aK.out.mono ?_;rintro e w1 ⟨rfl,rfl⟩)|fail)
      refine af.out.mono ?_;rintro e1 w1 ⟨rfl,R1,hS1,hF1⟩;obtain⟨aM,aN⟩:=mR (aL.out w1 R1 hS1) hF1;clear hS1 hF1 af aL;go_wp2_with fail
      refine aM.out.mono ?_;rintro e1 w2 ⟨rfl,R2,hS2,hF2⟩;have HD:=eu (HQ.out w2 R2 _ _ _ HZ.out hS2 (aN.out.trans hF2));clear hS2 hF2 aM HQ HZ aN;go_wp2_with fail
      exact HD.out
    |false=>
    rw[fu (by decide)]at hz;dsimp only at hz;have HD:=eu (HQ.out w R _ _ _ hz HS.out (FP.refl _ _ _));clear hk hK c HG HL aC aD HSc aF aa hsc hop aA ag aI aJ HS ah ak av ax aH HN ae l3 hbi ay aB hz hfr k13 k18;go_wp2_with (first|(with_reducible refine aj.out.mono ?_;rintro e w1 ⟨rfl,rfl⟩)|(with_reducible refine ai.out.mono ?_;rintro e w1 ⟨rfl,rfl⟩)|(with_reducible refine aK.out.mono ?_;rintro e w1 ⟨rfl,rfl⟩)|fail)
    exact HD.out
   |some az=>
    obtain⟨a,z⟩:=az;have e1:nS (some (a,z)) i=a:=rfl;have e2:Fl.NI (some (a,z))=(a:Int):=rfl;have e3:Fl.NJ (some (a,z))=(z:Int):=rfl;rw[e2,e3];rw[e1]at hz;clear e1 e2 e3;obtain⟨ha1,ha2,bz,bA⟩:=l3 a z rfl;have hfr:p<=a/\a<=i:=⟨by omega,by omega⟩
    have ga:(0:Int)<=(a:Int):=by omega
    by_cases k13:K=13
    ·have hi2:=ae (by omega);rw[gu k13]at hz;have hp:=aa.out 8 a (i+1) hfr.1 (by omega) (by omega) (by omega) (by omega);obtain⟨A,hA⟩:=my (Fl.add s up 8 a (i+1));rw[hA]at hp hz;rw[show((i+1:Nat):Int)=(i:Int)+1 from by omega]at hp;obtain⟨af,HZ⟩:=mR hp hz;have g13:((K:Int)==13)=true:=by simp;omega
     clear hk hK c HG HL aC aD HSc aF aa hsc hop aA ag aI aJ HS ah ak av ax aH HN ae l3 hbi ay aB hA hp hz hfr k13;go_wp2_with (first|(with_reducible refine aj.out.mono ?_;rintro e w1 ⟨rfl,rfl⟩)|fail)
     refine af.out.mono ?_;rintro e1 w1 ⟨rfl,R1,hS1,hF1⟩;have HD:=eu (HQ.out w1 R1 _ _ _ HZ.out hS1 hF1);clear hS1 hF1 af HQ HZ;rw[show((i+1:Nat):Int)=(i:Int)+1 from by omega]at HD;go_wp2_with fail
     exact HD.out
    rw[fu k13]at hz;have g13:((K:Int)==13)=false:=by simp;omega
    cases SC with
    |true=>
     have hi2:=ae (λh=>by rw[h]at aA;exact absurd aA (by decide));rw[gu rfl]at hz;have hp:=aa.out 7 a (i+1) hfr.1 (by omega) (by omega) (by omega) (by omega);obtain⟨A,hA⟩:=my (Fl.add s up 7 a (i+1));rw[hA]at hp hz;rw[show((i+1:Nat):Int)=(i:Int)+1 from by omega]at hp;obtain⟨af,HZ⟩:=mR hp hz;clear hk hK c HG HL aC aD HSc aF aa hsc hop aA ag aI aJ HS ah ak av ax aH HN ae l3 hbi ay aB hA hp hz hfr k13;go_wp2_with (first|(with_reducible refine aj.out.mono ?_;rintro e w1 ⟨rfl,rfl⟩)|(with_reducible refine ai.out.mono ?_;rintro e w1 ⟨rfl,rfl⟩)|fail)
     refine af.out.mono ?_;rintro e1 w1 ⟨rfl,R1,hS1,hF1⟩;have HD:=eu (HQ.out w1 R1 _ _ _ HZ.out hS1 hF1);clear hS1 hF1 af HQ HZ;rw[show((i+1:Nat):Int)=(i:Int)+1 from by omega]at HD;go_wp2_with fail
     exact HD.out
    |false=>
    rw[fu (by decide)]at hz;by_cases k18:K=18
    ·have hi2:=ae (by omega);have htx:=zi (l:=l) (e:=e) (i:=i) (by rw[hK];exact k18);have htc:=Uc rb tv e l i w HS.out.gt (by omega);obtain⟨t,ht⟩:=my (text l e i);rw[ht]at htx htc hz;have aY:=eu htc;rw[gu k18]at hz;have hp:=aa.out 7 a (t) hfr.1 (by omega) (by omega) (by omega) (by omega);obtain⟨A,hA⟩:=my (Fl.add s up 7 a (t));rw[hA]at hp hz;obtain⟨af,HZ⟩:=mR hp hz;have g18:((K:Int)==18)=true:=by simp;omega
     clear hk hK c HG HL aC aD HSc aF aa hsc hop aA ag aI aJ HS ah ak av ax aH HN ae l3 hbi ay aB hA hp hz hfr k13 k18 htx htc ht;go_wp2_with (first|(with_reducible refine aj.out.mono ?_;rintro e w1 ⟨rfl,rfl⟩)|(with_reducible refine ai.out.mono ?_;rintro e w1 ⟨rfl,rfl⟩)|(with_reducible refine aY.out.mono ?_;rintro e w1 ⟨rfl,rfl⟩)|fail)
     refine af.out.mono ?_;rintro e1 w1 ⟨rfl,R1,hS1,hF1⟩;have HD:=eu (HQ.out w1 R1 _ _ _ HZ.out hS1 hF1);clear hS1 hF1 af HQ HZ;go_wp2_with fail
     exact HD.out
    rw[fu k18]at hz;have g18:((K:Int)==18)=false:=by simp;omega
    cases OP with
    |true=>
     rw[gu rfl]at hz;have hi2:=ae (λh=>by rw[h]at ag;exact absurd ag (by decide));cases d with
     |zero=>
      dsimp only[Fl.Lu]at hz;have hbn:=tN (l:=l) (e:=e) (i:=i) (by rw[hK];exact ag);have hbc:=Er rb tv e l i w HS.out.gt (by rw[hK];exact ag);obtain⟨t,ht⟩:=my (balanced l e i);rw[ht]at hbn hbc hz;obtain⟨-,m2⟩:=Fe.qF (code:=10) (Fe.Ok.start (l:=l) (p0:=p) ah.out ak.out av.out ax.out) (f:=a) (t:=t) (by omega) (by omega) (by rw[HN.out];omega) (by omega) (by omega) (by omega) (by omega);obtain⟨v,hev⟩:=Uf w0 w rb tv e l s R up a t 10 HS.out (qp.of ah.out (by have:=ay.out;omega)) (rY m2) (by omega) (by rw[HN.out];omega) (by have:=aB.out;omega);obtain⟨hev,hv⟩:=hev;rw[<-hv]at hz;obtain⟨aQ,aZ,HZ⟩:=nY hev hbc hz;clear hk hK c HG HL aC aD HSc aF aa hsc hop aA ag aI aJ HS ah ak av ax aH HN ae l3 hbi ay aB hz hfr k13 k18 hbn hbc ht m2 hev hv;go_wp2_with (first|(with_reducible refine aj.out.mono ?_;rintro e w1 ⟨rfl,rfl⟩)|(with_reducible refine ai.out.mono ?_;rintro e w1 ⟨rfl,rfl⟩)|(with_reducible refine aK.out.mono ?_;rintro e w1 ⟨rfl,rfl⟩)|(with_reducible refine aZ.out.mono ?_;rintro e w1 ⟨rfl,rfl⟩)|fail)
      refine aQ.out.mono ?_;rintro e1 w1 ⟨rfl,R1,hS1,hF1⟩;have HD:=eu (HQ.out w1 R1 _ _ _ HZ.out hS1 hF1);clear hS1 hF1 aQ HQ HZ;go_wp2_with fail
      exact HD.out
     |succ d' =>
      dsimp only[Fl.Lu]at hz;obtain⟨KN,aG⟩:∃KN:Nat,(if K=9 then 10 else 9)=KN:=⟨_,rfl⟩
      have hkn:1<=KN/\KN<=10:=by rw[<-aG];split<;>omega
      rw[aG]at hz;obtain⟨s',a1,a2,a3,⟨x,a4,a5,a7⟩,a6⟩:=GK (kind:=KN) (Fe.Ok.start (l:=l) (p0:=p) ah.out ak.out av.out ax.out) (f:=a) (t:=i+1) (by omega) (by omega) (by rw[HN.out];omega) hkn.1 hkn.2;have hzl:=Fe.pM s up KN a (i+1);have hp:=aa.out KN a (i+1) hfr.1 (by omega) (by omega) hkn.1 hkn.2;rw[a1]at hp hz hzl;dsimp only at hp hz hzl;rw[show((i+1:Nat):Int)=(i:Int)+1 from by omega]at hp;obtain⟨ZC,aO⟩:=my (qo l e (nM l e d') (s.t.length:Int) i (e-i) (i+1) false s');rw[aO]at hz;have aR:CI l e d' s.t.length i x.k ZC (i+1) false s':=⟨a3.ck,a3.fits.le (by omega) (by omega),a3.lf,a3.no,Nat.lt_succ_self _,by omega,by rw[HN.out];exact hel,by rw[si,hi2.2];exact vL ag,⟨x,a4,rfl⟩,by have:=hzl.1;have:=ay.out;omega,by rw[hzl.2];have:=aB.out;omega,e-i,by omega,aO⟩
      have aL:=eu (λw1 R1 (h:GS w0 w1 rb tv e l s' R1)=>Ww l d' (aH.out d' rfl) (by omega) w0 w1 rb tv e s' R1 s.t.length i x ZC h hi2.1 (by rw[a7,hi2.2,<-aG];rcases Kw ag with h|h<;>rw[h]<;>rfl) aR);obtain⟨M,hM⟩:=my (s.t.length);rw[hM]at hp hz aL;obtain⟨af,HZ⟩:=mR hp hz;have gd:¬(((d'+1:Nat):Int)<=0):=by omega
      have aS:((d'+1:Nat):Int)=(d':Int)+1:=by omega
      rw[aS]at gd⊢;clear hk hK c HG HL aC aD HSc aF aa hsc hop aA ag aI aJ HS ah ak av ax aH HN ae l3 hbi ay aB hz hp hfr k13 k18 a1 a2 a3 a4 a5 a6 a7 hzl aO aR hM hkn aS;by_cases k9:K=9
      ·rw[gu k9]at aG;subst aG;have g9:((K:Int)==9)=true:=by simp;omega
       clear k9;go_wp2_with (first|(with_reducible refine aj.out.mono ?_;rintro e w1 ⟨rfl,rfl⟩)|(with_reducible refine ai.out.mono ?_;rintro e w1 ⟨rfl,rfl⟩)|(with_reducible refine aK.out.mono ?_;rintro e w1 ⟨rfl,rfl⟩)|fail)
       refine af.out.mono ?_;rintro e1 w1 ⟨rfl,R1,hS1,hF1⟩;obtain⟨aM,aN⟩:=mR (aL.out w1 R1 hS1) hF1;clear hS1 hF1 af aL;go_wp2_with fail
       refine aM.out.mono ?_;rintro e1 w2 ⟨rfl,R2,hS2,hF2⟩;have HD:=eu (HQ.out w2 R2 _ _ _ HZ.out hS2 (aN.out.trans hF2));clear hS2 hF2 aM HQ HZ aN;go_wp2_with fail
       exact HD.out
      rw[fu k9]at aG;subst aG;have g9:((K:Int)==9)=false:=by simp;omega
      clear k9;go_wp2_with (first|(with_reducible refine aj.out.mono ?_;rintro e w1 ⟨rfl,rfl⟩)|(with_reducible refine ai.out.mono ?_;rintro e w1 ⟨rfl,rfl⟩)|(with_reducible refine aK.out.mono ?_;rintro e w1 ⟨rfl,rfl⟩)|fail)
      refine af.out.mono ?_;rintro e1 w1 ⟨rfl,R1,hS1,hF1⟩;obtain⟨aM,aN⟩:=mR (aL.out w1 R1 hS1) hF1;clear hS1 hF1 af aL;go_wp2_with fail
      refine aM.out.mono ?_;rintro e1 w2 ⟨rfl,R2,hS2,hF2⟩;have HD:=eu (HQ.out w2 R2 _ _ _ HZ.out hS2 (aN.out.trans hF2));clear hS2 hF2 aM HQ HZ aN;go_wp2_with fail
      exact HD.out
    |false=>
    rw[fu (by decide)]at hz;dsimp only at hz;have hp:=aa.out 7 a (z+1) hfr.1 (by omega) (by omega) (by omega) (by omega);obtain⟨A,hA⟩:=my (Fl.add s up 7 a (z+1));rw[hA]at hp hz;rw[show((z+1:Nat):Int)=(z:Int)+1 from by omega]at hp;obtain⟨af,HZ⟩:=mR hp hz;clear hk hK c HG HL aC aD HSc aF aa hsc hop aA ag aI aJ HS ah ak av ax aH HN ae l3 hbi ay aB hA hp hz hfr k13 k18;go_wp2_with (first|(with_reducible refine aj.out.mono ?_;rintro e w1 ⟨rfl,rfl⟩)|(with_reducible refine ai.out.mono ?_;rintro e w1 ⟨rfl,rfl⟩)|(with_reducible refine aK.out.mono ?_;rintro e w1 ⟨rfl,rfl⟩)|fail)
    refine af.out.mono ?_;rintro e1 w1 ⟨rfl,R1,hS1,hF1⟩;have HD:=eu (HQ.out w1 R1 _ _ _ HZ.out hS1 hF1);clear hS1 hF1 af HQ HZ;rw[show((z+1:Nat):Int)=(z:Int)+1 from by omega]at HD;go_wp2_with fail
    exact HD.out
theorem OA(l:List Tk):∀d:Nat,d<=1000->VG l d
 |0=>λh=>Wz l 0 (λd' hd=>by omega) h
 |d+1=>λh=>Wz l (d+1) (λd' hd=>by
  have e:d'=d:=Nat.succ.inj hd.symm;rw[e]
  exact OA l d (by omega)) h
end
namespace Ps
open Ar Fl
open Rw (R E)
theorem rW:∀(f:Nat)(l:List Nd)(k t:Int),(qE f l k t).length=l.length
 |0,_,_,_=>rfl
 |f+1,l,k,t=>by
  rw[qE];split
  ·rfl
  split
  ·rfl
  rw[rW f,xe]
theorem tK(l:List Nd)(up kind f t:Int):(addN l up kind f t).1.length<=l.length+1:=by
 unfold addN;split
 ·split
  ·exact F6 _
  show(nT _ _ _).length<=_;unfold nT;rw[rW,xe,oq];exact mJ _
 exact F6 _
theorem vQ(l:List Nd)(i t:Int):(nN l i t).length=l.length:=by
 unfold nN nT;split
 ·rw[rW]
 rfl
theorem oK(l:List Nd)(i:Int):(keyed l i).length=l.length:=(sQ l i).1
theorem pM(s:St)(up:Int)(k f t:Nat):(add s up k f t).1.t.length<=s.t.length+1:=tK _ _ _ _ _
theorem tq(l:List Tk)(s:St)(up:Int)(f t code:Nat):(err l s up f t code).t.length<=s.t.length+1:=tK _ _ _ _ _
theorem uK(l:List Tk)(s:St)(c:Int)(j q:Nat):(pair l s c j q).1.t.length<=s.t.length+2:=by
 unfold pair;dsimp only;split
 ·have:=pM s c 6 j q;omega
 show(keyed _ _).length<=_;rw[oK];have h1:=pM s c 6 j q;have h2:=pM (add s c 6 j q).1 (add s c 6 j q).2 (if(List.range (q-j)).any (λx=>raw l (j+x)==13)=true then 8 else 7) j (back l (q-1) (j+1));omega
theorem Ky(l:List Tk)(s:St)(node:Int)(en:E):(cur l s node en).1.t.length<=s.t.length+2:=by
 unfold cur;split
 ·have:=pM s node 4 en.from' en.au;omega
 exact uK _ _ _ _ _
theorem EE(l:List Tk)(p:PS)(o:Op)(r:List Op)(en:E):(again l p o r en).2.s.t.length<=p.s.t.length+3:=by
 have:=Ky l p.s o.node en;show(cur l p.s o.node en).1.t.length<=_;omega
theorem Ay(l:List Tk)(depth:Nat)(p:PS)(up:Int)(root:Bool)(st:List Op)(en:E):(fresh l depth p up root st en).2.s.t.length<=p.s.t.length+3:=by
 unfold fresh;split
 ·show p.s.t.length<=_;omega
 have h1:=pM p.s up (kindOf en) en.from' en.au;have h2:=Ky l (add p.s up (kindOf en) en.from' en.au).1 (add p.s up (kindOf en) en.from' en.au).2 en;show(cur l _ _ en).1.t.length<=_;omega
theorem EF(l:List Tk)(depth:Nat)(p:PS)(en:E):(place l depth p en).2.s.t.length<=p.s.t.length+3:=by
 have hr:(place l depth p en)=(match p.st.dropWhile (λo=>decide (en.mE<o.mE))with
  |[]=>if p.root=true then(7,p)else fresh l depth p p.doc true [] en
  |o::r=>
   if o.mE=en.mE then
    if o.kind=kindOf en then again l p o r en
    else if kindOf en=3 then(if o.has=true then(5,p)else fresh l depth p o.cur p.root ({o with has:=true}::r) en)
    else match r with
     |o2::r2=>if o2.mE=en.mE/\o2.kind=5 then again l p o2 r2 en else(5,p)
     |[]=>(5,p)
   else if o.has=true then(6,p)else fresh l depth p o.cur p.root ({o with has:=true}::r) en):=rfl
 rw[hr];have h0:∀code:Nat,(code,p).2.s.t.length<=p.s.t.length+3:=λ_=>Nat.le_add_right _ _
 cases p.st.dropWhile (λo=>decide (en.mE<o.mE))with
 |nil=>
  dsimp only;split
  ·exact h0 7
  exact Ay ..
 |cons o r=>
  dsimp only;split
  ·split
   ·exact EE ..
   split
   ·split
    ·exact h0 5
    exact Ay ..
   cases r with
   |nil=>exact h0 5
   |cons o2 r2=>
    dsimp only;split
    ·exact EE ..
    exact h0 5
  split
  ·exact h0 6
  exact Ay ..
theorem De(l:List Tk)(depth b:Nat):∀(es:List E)(p:PS)(up:Int),(places l depth b p up es).2.s.t.length<=p.s.t.length+3*es.length
 |[],p,_=>mJ _
 |en::es,p,up=>by
  rw[places,nI];have h1:=EF l depth p en;split
  ·have:=De l depth b es (place l depth p en).2 (Fj (place l depth p en).2.st);omega
  have:=tq l p.s up en.from' b (place l depth p en).1;show(err l p.s up en.from' b (place l depth p en).1).t.length<=_;omega
theorem vV(p:PS)(i:Nat):(nH p i).s.t.length<=p.s.t.length+1:=by
 unfold nH;split
 ·exact pM ..
 omega
theorem EG(l:List Tk)(s:St)(up:Int)(a b code:Nat):(qf l s up a b code).t.length<=s.t.length+1:=by
 unfold qf;split
 ·exact tq ..
 omega
theorem ML(l:List Tk)(next:Nat)(h1:next<l.length):next<wT (Rw.mQ l) next true:=by
 unfold wT;cases hf:(Rw.mQ l).find? (λr=>!(decide (r.au<next)||(true&&r.au==next)))with
 |some r=>
  have hp:=List.find?_some hf;simp at hp;show next<r.au
  omega
 |none=>
  exfalso;rw[List.find?_eq_none]at hf;obtain⟨r,hr,he⟩:=CF l (by omega);have:=hf r hr;simp[he]at this;omega
theorem wO{l:List Tk}{B:Bs}{k e i depth:Nat}{p:PS}(h:OK l B k e p.s)(aa:e<=i)(hi:i<l.length):
 (value l (Rw.mQ l) depth p k i).1.s.t.length<=p.s.t.length+2*((value l (Rw.mQ l) depth p k i).1.read-i)+1/\i<(value l (Rw.mQ l) depth p k i).1.read:=by
 have hlim:i<=limit l i/\limit l i<=l.length:=by
  have h1:=rX (λj=>raw l j !=20&&raw l j !=21) (l.length-i) i;have h2:=oW (λj=>raw l j !=20&&raw l j !=21) (l.length-i) i;unfold limit;omega
 obtain⟨z1,z2,z3⟩:=Ft.PL (l:=l) (e:=limit l i) (n:=(l.length:Int)) (by omega) (depth-p.st.length) i e p.s h.ck (h.fits.le (by omega) (pW _)) (by omega) hlim.1;have hv:=Fe.xY l (limit l i) l.length (by omega) (depth-p.st.length) k i p.s e h.ck (h.fits.le (by omega) (pW _)) h.lf h.no (by omega) hlim.1;have key:∀(s:St)(next:Nat)(none':Bool)(q:Nat),wT (Rw.mQ l) next none'=q->(rest l (Rw.mQ l) {p with s:=s} k next none').s.t.length<=s.t.length+1/\(rest l (Rw.mQ l) {p with s:=s} k next none').read=q:=by
  intro s next none' q hq;unfold rest;dsimp only;rw[hq];exact⟨EG ..,rfl⟩
 unfold value;dsimp only;rcases hv with⟨v1,_⟩|⟨next,s',v1,v2,v3,_,_⟩
 ·rw[v1]at z1⊢;dsimp only at z1⊢;rw[gu (by omega),show decide ((-1:Int)<0)=true from rfl];obtain⟨k1,k2⟩:=key p.s i true _ rfl;have:=ML l i hi;rw[k2];omega
 rw[v1]at z1 z2 z3⊢;dsimp only at z1 z2 z3⊢;rw[fu (by omega),show decide (((p.s.t.length:Nat):Int)<0)=false from nK (by omega),Nat.max_eq_left (by omega)];obtain⟨k1,k2⟩:=key s' next false _ rfl;have:=(IM l next false (by omega) (λh=>by cases h) (by omega)).1;rw[k2];omega
theorem CS{l:List Tk}{b:Nat}:∀(es:List E)(p:Nat),xA l b p es->p+es.length<=b\/es=[]
 |[],_,_=>.inr rfl
 |en::es,p,⟨h1,h2,h3,h4⟩=>by
  left;rw[nI];rcases CS es en.au h4 with h|h
  ·omega
  subst h;simp;omega
theorem EH{l:List Tk}{b:Nat}:∀(es:List E)(p:Nat)(x:E),xA l b p es->es.getLast?=some x->p+es.length<=x.au
 |[],_,_=>λ_ h=>by cases h
 |[en],p,x=>fun⟨h1,h2,h3,h4⟩ h=>by
  obtain rfl:en=x:=by simpa using h
  simp;omega
 |en::e2::es,p,x=>fun⟨h1,h2,h3,h4⟩ h=>by
  have:=EH (e2::es) en.au x h4 (by rw[Ra]at h;exact h);rw[nI];omega
theorem GL{l:List Tk}{B:Bs}{depth:Nat}{p:PS}{r:R}(ht:Rw.pI 0 l)(h:Inv l B p.read p)(hr:tH l r)(hB:B.1<=r.from')(he:p.read<=r.from'):
 (row l (Rw.mQ l) depth p r).s.t.length<=p.s.t.length+5*((row l (Rw.mQ l) depth p r).read-r.from')/\r.from'<(row l (Rw.mQ l) depth p r).read:=by
 have hlt:=hr.lt;have hle:=hr.le;have h0:Inv l B p.read {p with read:=r.au}:=h;unfold row;dsimp only;split
 ·rename_i h4;obtain⟨m1,m2⟩:=hr.mark h4;have hge:=qD l r.from' r.au;unfold mark;dsimp only;obtain⟨a,ha⟩:=my (lo l r.from' r.au);rw[ha]at m1 m2 hge⊢;split
  ·obtain⟨s',a1,_,a3,_,_⟩:=Fe.pQ (kind:=2) (f:=a) (t:=a+1) h0.root (by omega) (by omega) (by omega) (by omega) (by omega);have a1:add p.s 0 2 a (a+1)=(s',(p.s.t.length:Int)):=a1;have hal:=pM p.s 0 2 a (a+1);rw[a1]at hal⊢;dsimp only at hal⊢;have a3':OK l B p.s.t.length (a+1) s':=a3.le (by omega) (by omega);have hb:=nD l r.au (lo l (a+1) r.au);have af:=qD l (a+1) r.au;split
   ·rename_i hx;obtain⟨v1,v2⟩:=wO (depth:=depth) (p:={p with read:=r.au,s:=s',doc:=(p.s.t.length:Int),root:=false,st:=[]}) (i:=lo l (a+1) r.au) a3' af (by omega);dsimp only at v1 v2⊢;omega
   show s'.t.length<=_+5*(r.au-_)/\_<r.au
   omega
  show(qf l _ _ _ _ _).t.length<=_+5*(r.au-_)/\_<r.au
  refine⟨qy (EG ..) ?_,hlt⟩;split
  ·show(nN _ _ _).length+1<=_;rw[vQ];omega
  omega
 split
 ·rename_i h5;have hlo:=hr.body h5;have hge:=qD l r.from' r.au;obtain⟨n1,n2,n3,n4⟩:=zq ht hr h5;unfold body;dsimp only;obtain⟨a,ha⟩:=my (lo l r.from' r.au);rw[ha]at hlo hge n1 n3⊢;obtain⟨b,hb⟩:=my (back l r.au a);have hbl:=nD l r.au a;have hbg:=wK l r.au a a (mJ _) hlo (by have:=Ce l (a:=r.from') (b:=r.au) (by omega);rw[ha]at this;exact this);rw[hb]at n1 hbl hbg⊢;obtain⟨o1,o2⟩:=uO h0 (i:=a) (by omega) (by omega);have aa:=vV {p with read:=r.au} a;have aa:(nH {p with read:=r.au} a).s.t.length<=p.s.t.length+1:=aa;have o2:(nH {p with read:=r.au} a).read=r.au:=o2;obtain⟨p1,hp1⟩:=my (nH {p with read:=r.au} a);rw[hp1]at o1 o2 aa⊢;obtain⟨es,hes⟩:=my (Rw.su l r);rw[hes]at n1 n2 n3 n4⊢;split
  ·
   obtain⟨d,hd,hc,hh⟩:=o1;obtain⟨hc',hh'⟩:=qN.drop (λo=>decide (r.mE<=o.mE)) hc hh
   have hbr:bare l (Rw.mQ l) depth p1 r a b=(match p1.st.dropWhile (λo=>decide (r.mE<=o.mE))with
    |[]=>if p1.root=true then{p1 with s:=err l p1.s (holder p1) a b 7}
     else
      let v:=value l (Rw.mQ l) depth {p1 with st:=[]} p1.doc a
      {v.1 with root:=v.2}
    |o::q=>if o.has=true then{p1 with s:=err l p1.s (holder p1) a b 7}
     else
      let v:=value l (Rw.mQ l) depth {p1 with st:=o::q} o.cur a
      {v.1 with st:={o with has:=v.2}::q}):=rfl
   rw[hbr];have ae:({p1 with s:=err l p1.s (holder p1) a b 7}:PS).s.t.length<=p.s.t.length+5*(({p1 with s:=err l p1.s (holder p1) a b 7}:PS).read-r.from')/\r.from'<({p1 with s:=err l p1.s (holder p1) a b 7}:PS).read:=by
    have:=tq l p1.s (holder p1) a b 7;show(err l p1.s (holder p1) a b 7).t.length<=_+5*(p1.read-_)/\_<p1.read
    omega
   cases hdw:p1.st.dropWhile (λo=>decide (r.mE<=o.mE))with
   |nil=>
    rw[hdw]at hc' hh';dsimp only;split
    ·exact ae
    obtain⟨m,e1,e2⟩:=hh';obtain rfl:m=d:=by omega
    rw[hd];obtain⟨P,hP⟩:∃P:PS,{p1 with st:=[],doc:=(m:Int)}=P:=⟨_,rfl⟩
    have hP1:P.s=p1.s:=by rw[<-hP]
    rw[<-hP1]at e2 aa;obtain⟨v1,v2⟩:=wO (depth:=depth) (p:=P) (i:=a) (k:=m) e2 (mJ _) (by omega);rw[hP];dsimp only;omega
   |cons o q=>
    rw[hdw]at hc' hh';dsimp only;split
    ·exact ae
    rename_i ho;obtain⟨m,e1,e2⟩:=hh'.2 (by simpa using ho);obtain⟨P,hP⟩:∃P:PS,{p1 with st:=o::q}=P:=⟨_,rfl⟩
    have hP1:P.s=p1.s:=by rw[<-hP]
    rw[<-hP1]at e2 aa;obtain⟨v1,v2⟩:=wO (depth:=depth) (p:=P) (i:=a) (k:=m) e2 (mJ _) (by omega);rw[hP,e1];dsimp only;omega
  rename_i hne;have hpl:=De l depth b es.1 p1 (holder p1);obtain⟨e',k1,k2,k3,k4,k5⟩:=yu (depth:=depth) (b:=b) (by omega) es.1 a p1 (holder p1) o1 (by omega) rfl n1 (by omega);have hel:=CS es.1 a n1;obtain⟨q,hq⟩:=my (places l depth b p1 (holder p1) es.1);rw[hq]at hpl k3 k4 k5⊢;have ah:q.2.read=r.au:=by rw[k4,o2]
  have ag:a+es.1.length<=b:=hel.resolve_right hne;have stay:q.2.s.t.length<=p.s.t.length+5*(q.2.read-r.from')/\r.from'<q.2.read:=by omega
  split
  ·rename_i hall;split
   ·rename_i hx;obtain⟨_,m1,m2⟩:=k5 hall;obtain⟨t,k,m3,m4⟩:=m2 hne;have hlast:∃z,es.1.getLast?=some z:=by
     cases hz:es.1.getLast? with
     |none=>rw[Rc]at hz;exact absurd hz hne
     |some z=>exact⟨z,rfl⟩
    obtain⟨z,hz⟩:=hlast;have hzl:=EH es.1 a z n1 hz;have hrest:es.2=e':=by rw[n2 z hz,m1 z hz]
    have ai:es.2=z.au:=n2 z hz;have hxg:=qD l es.2 r.au;have hxb:=nD l r.au (lo l es.2 r.au);obtain⟨d,d1,d2,d3⟩:=k3;obtain⟨x,af⟩:=my (lo l es.2 r.au);rw[af]at hx hxg hxb⊢;rw[m3]at d2 d3⊢;dsimp only;obtain⟨m,e1,e2⟩:=d3.2 m4;rw[e1];obtain⟨v1,v2⟩:=wO (depth:=depth) (p:=q.2) (i:=x) (k:=m) e2 (by omega) (by omega);omega
   exact stay
  exact stay
 split
 ·split
  ·have h1:=vV {p with read:=r.au} (lo l r.from' r.au);have h1:(nH {p with read:=r.au} (lo l r.from' r.au)).s.t.length<=p.s.t.length+1:=h1;have h2:=tq l (nH {p with read:=r.au} (lo l r.from' r.au)).s (holder (nH {p with read:=r.au} (lo l r.from' r.au))) (lo l r.from' r.au) (back l r.au (lo l r.from' r.au)) 8;have h3:(nH {p with read:=r.au} (lo l r.from' r.au)).read=r.au:=by unfold nH;split<;>rfl
   show(err l _ _ _ _ 8).t.length<=_+5*((nH {p with read:=r.au} (lo l r.from' r.au)).read-_)/\_<(nH {p with read:=r.au} (lo l r.from' r.au)).read
   rw[h3];omega
  show p.s.t.length<=_+5*(r.au-_)/\_<r.au
  omega
 show p.s.t.length<=_+5*(r.au-_)/\_<r.au
 omega
theorem yZ{l:List Tk}{B:Bs}{depth:Nat}(ht:Rw.pI 0 l):∀(rs:List R)(p:PS),(∀r∈rs,tH l r/\B.1<=r.from')->Inv l B p.read p->p.s.t.length<=1+5*p.read->
 (p8 l (Rw.mQ l) depth p rs).s.t.length<=1+5*(p8 l (Rw.mQ l) depth p rs).read
 |[],p=>λ_ _ h=>h
 |r::rs,p=>λhrs h hl=>by
  rw[p8];by_cases hr:p.read<=r.from'
  ·rw[gu hr];obtain⟨h1,h2⟩:=IQ (depth:=depth) ht h (hrs r (by simp)).1 (hrs r (by simp)).2 hr;obtain⟨z1,z2⟩:=GL (depth:=depth) ht h (hrs r (by simp)).1 (hrs r (by simp)).2 hr;exact yZ ht rs _ (λx hx=>hrs x (by simp[hx])) h1 (by omega)
  rw[fu hr];exact yZ ht rs p (λx hx=>hrs x (by simp[hx])) h hl
end Ps
section
open Go.RowKit
open Sq
open Ar
open Fl (Tk)
def uH(x:Ps.Op):List Value:=[.int .i64 x.node,.int .i64 x.kind,.int .i64 x.mE,.int .i64 x.cur,.bool x.has]
def oJ:qP Ps.Op:=⟨uH,5,by decide,λ_=>rfl,λx u hu=>by
 cases hu with
 |head=>rfl
 |tail _ hu=>cases hu with
  |head=>rfl
  |tail _ hu=>cases hu with
   |head=>rfl
   |tail _ hu=>cases hu with
    |head=>rfl
    |tail _ hu=>cases hu with
     |head=>rfl
     |tail _ hu=>cases hu⟩
theorem Lx:Ty prog oJ 59 112 40:=Ty.of (z:=.agg #[.int .i64 0,.int .i64 0,.int .i64 0,.int .i64 0,.bool false]) underlying59 (by kernel_rfl) (by kernel_rfl) rfl (λw=>by kernel_rfl)
structure Cx where
 pb:Nat
 rb:Nat
 tv:Value
 rv:Value
 l:List Tk
 rs:List Rw.R
 depth:Nat
def TF(w w':World):Prop:=∀(k:Nat)(C:Array Value)(T:TypeId)(fr:Nat×Nat),w.heap[k]?=some (.cells C T fr)->58≠T->61≠T->112≠T->87≠T->w'.heap[k]?=w.heap[k]?
theorem TF.refl(w:World):TF w w:=λ_ _ _ _ _ _ _ _ _=>rfl
theorem TF.trans{a b c:World}(h:TF a b)(g:TF b c):TF a c:=λk C T fr hk h1 h2 h3 h4=>by
 have e:=h k C T fr hk h1 h2 h3 h4;rw[g k C T fr (e.trans hk) h1 h2 h3 h4,e]
theorem TF.below{w w':World}(h:Below w.heap.size w w'):TF w w':=λk C T fr hk _ _ _ _=>h.block k (nQ hk)
abbrev tQ(c:Cx)(p:Ps.PS)(sv:Value):Array Value:=#[RG c.rb,c.rv,.int .i64 p.doc,.bool p.root,sv,.int .i64 (c.depth:Int),.int .i64 (p.read:Int)]
structure PG(w0 w:World)(c:Cx)(e:Nat)(p:Ps.PS)(sv:Value)(R:Nat->Prop):Prop where
 gs:GS w0 w c.rb c.tv e c.l p.s R
 box:w.heap[c.pb]?=some (.cells (tQ c p sv) 61 (0,0))
 low:w0.heap.size<=c.pb
 rows:Reads encR w0 c.rv c.rs
 Uj:c.rs.length<=100000
 tZ:w.ownsRow w0.heap.size 112 5 sv p.st.reverse.length (oJ.all p.st.reverse)
section
variable {w0 w w':World}{c:Cx}{e e':Nat}{p:Ps.PS}{sv:Value}{R R':Nat->Prop}{s':Fl.St}
theorem PG.cell(h:PG w0 w c e p sv R)(i:Nat)(u:Value)(hu:(tQ c p sv)[i]?=some u):w.cell? ⟨c.pb,i,none⟩=some u:=(nz h.box i).trans hu
theorem PG.free(h:PG w0 w c e p sv R)(o:Nat):w.frozen? ⟨c.pb,o,none⟩=false:=oI h.box o
theorem PG.lt(h:PG w0 w c e p sv R):c.pb<w.heap.size:=nQ h.box
theorem PG.qK(h:PG w0 w c e p sv R):Below w0.heap.size w0 w:=h.gs.qK
theorem PG.below(h:PG w0 w c e p sv R)(hb:Below w.heap.size w w'):PG w0 w' c e p sv R:=
 ⟨h.gs.below hb,(hb.block _ h.lt).trans h.box,h.low,h.rows,h.Uj,mU h.tZ hb⟩
theorem Qe{B T s n:Nat}{v:Value}{xs:List Value}(h:w.ownsRow B T s v n xs)(hg:GS w0 w c.rb c.tv e c.l p.s R)(hF:FP w w' c.rb R R')(h3:87≠T)(h4:58≠T):w'.ownsRow B T s v n xs:=by
 refine oC h (λg hgg=>?_);rcases h.2 with⟨h1,_⟩|⟨b,cap,cur,hv,_,hh,_⟩
 ·rw[h1]at hgg;cases hgg
 rw[hv]at hgg;obtain rfl:b=g:=by simpa [Value.ownBlock]using hgg
 have ho:=hg.off hh h3 h4;exact hF.block b (nQ hh) ho.2 ho.1
theorem PG.step(h:PG w0 w c e p sv R)(hg:GS w0 w' c.rb c.tv e' c.l s' R')(hF:FP w w' c.rb R R'):PG w0 w' c e' {p with s:=s' } sv R'/\TF w w':=by
 have ho:=h.gs.off h.box (by decide) (by decide);refine⟨⟨hg,(hF.block _ h.lt ho.2 ho.1).trans h.box,h.low,h.rows,h.Uj,Qe h.tZ h.gs hF (by decide) (by decide)⟩,λk C T fr hk h1 h2 h3 h4=>?_⟩;have ho:=h.gs.off hk h4 h1;exact hF.block k (nQ hk) ho.2 ho.1
theorem PG.toCell{p':Ps.PS}{i:Nat}{u:Value}(h:PG w0 w c e p sv R)(hs:p'.s=p.s)(hst:p'.st=p.st)(hC:(tQ c p sv).setIfInBounds i u=tQ c p' sv):PG w0 (w.setCell ⟨c.pb,i,none⟩ u) c e p' sv R/\TF w (w.setCell ⟨c.pb,i,none⟩ u):=by
 have st:∀g,g≠c.pb->(w.setCell ⟨c.pb,i,none⟩ u).heap[g]?=w.heap[g]?:=λg hg=>yK _ _ _ _ hg
 refine⟨⟨by rw[hs];exact h.gs.far h.low h.box (by decide) (by decide) (by decide) (by decide),?_,h.low,h.rows,h.Uj,?_⟩,λk C T fr hk h1 h2 h3 h4=>st k ?_⟩
 ·rw[<-hC];exact uq h.box u
 ·rw[hst];exact oC h.tZ (λg hg=>st g (λe'=>mV h.tZ h.box (by decide) (e' ▸hg)))
 rintro rfl;rw[h.box]at hk;injection hk with hk
 injection hk with _ hT
 exact h2 hT
theorem PG.tC{p':Ps.PS}{sv':Value}(h:PG w0 w c e p sv R)(hs:p'.s=p.s)(hd:p'.doc=p.doc)(hr:p'.root=p.root)(hre:p'.read=p.read)(hO:w.ownsRow w0.heap.size 112 5 sv' p'.st.reverse.length (oJ.all p'.st.reverse)):
 PG w0 (w.setCell ⟨c.pb,4,none⟩ sv') c e p' sv' R/\TF w (w.setCell ⟨c.pb,4,none⟩ sv'):=by
 have st:∀g,g≠c.pb->(w.setCell ⟨c.pb,4,none⟩ sv').heap[g]?=w.heap[g]?:=λg hg=>yK _ _ _ _ hg
 refine⟨⟨by rw[hs];exact h.gs.far h.low h.box (by decide) (by decide) (by decide) (by decide),?_,h.low,h.rows,h.Uj,oC hO (λg hg=>st g (λe'=>mV hO h.box (by decide) (e' ▸hg)))⟩,λk C T fr hk h1 h2 h3 h4=>st k ?_⟩
 ·have e1:tQ c p' sv'=(tQ c p sv).setIfInBounds 4 sv':=by
   show#[_,_,_,_,_,_,_]=_;rw[hd,hr,hre];rfl
  rw[e1];exact uq h.box sv'
 rintro rfl;rw[h.box]at hk;injection hk with hk
 injection hk with _ hT
 exact h2 hT
theorem PG.Ti{g n cap:Nat}{p':Ps.PS}(h:PG w0 w c e p (.slice (some ⟨g,0,none⟩) n cap) R)(i j:Nat)(x x':Ps.Op)(u:Value)(hx:p.st.reverse[i]?=some x)(hc:uH x'=(uH x).set j u)(hj:j<5)(hst:p'.st.reverse=p.st.reverse.set i x')(hs:p'.s=p.s)(hd:p'.doc=p.doc)(hr:p'.root=p.root)(hre:p'.read=p.read):
 PG w0 (w.setCell ⟨g,i*5+j,none⟩ u) c e p' (.slice (some ⟨g,0,none⟩) n cap) R/\TF w (w.setCell ⟨g,i*5+j,none⟩ u):=by
 have st:∀k,k≠g->(w.setCell ⟨g,i*5+j,none⟩ u).heap[k]?=w.heap[k]?:=λk hk=>yK _ _ _ _ hk
 obtain⟨cur,aa⟩:∃cur,w.heap[g]?=some (.cells cur 112 (0,0))/\w0.heap.size<=g:=by
  rcases h.tZ.2 with⟨h1,_⟩|⟨b,cap',cur,hv,hB,hh,_⟩
  ·cases h1
  obtain⟨e1,-,-⟩:=sK hv;injection e1 with e1
  injection e1 with e1
  exact⟨cur,e1▸hh,e1▸hB⟩
 have ae:g≠c.pb:=by
  rintro rfl;have h2:=h.box;rw[aa.1]at h2;injection h2 with h2
  injection h2 with _ hT
  exact absurd hT (by decide)
 have hO:=uf (E:=oJ) h.tZ i j x x' u hx hc hj;refine⟨⟨by rw[hs];exact h.gs.far aa.2 aa.1 (by decide) (by decide) (by decide) (by decide),?_,h.low,h.rows,h.Uj,by rw[hst];exact hO⟩,λk C T fr hk h1 h2 h3 h4=>st k ?_⟩
 ·rw[st _ ae.symm];have e1:tQ c p' (.slice (some ⟨g,0,none⟩) n cap)=tQ c p (.slice (some ⟨g,0,none⟩) n cap):=by
   show#[_,_,_,_,_,_,_]=_;rw[hd,hr,hre]
  rw[e1];exact h.box
 rintro rfl;rw[aa.1]at hk;injection hk with hk
 injection hk with _ hT
 exact h3 hT
theorem PG.toks(h:PG w0 w c e p sv R):w.cell? ⟨c.pb,0,none⟩=some (RG c.rb)/\w.cell? ⟨c.rb,0,none⟩=some c.tv/\Reads qB w c.tv c.l/\c.l.length<=100000:=
 ⟨h.cell 0 _ rfl,h.gs.toks.1,h.gs.toks.2.2.1,h.gs.toks.2.2.2.2⟩
theorem PG.rws(h:PG w0 w c e p sv R):w.cell? ⟨c.pb,1,none⟩=some c.rv/\Reads encR w c.rv c.rs:=⟨h.cell 1 _ rfl,h.rows.below h.qK⟩
end
def oQ(w0 w:World)(c:Cx)(v:Value)(p:Ps.PS)(en:Ending)(w':World):Prop:=en=.returned v/\∃e sv R,PG w0 w' c e p sv R/\TF w w'
end
end Go.Proofs.Ytfbiffdmhcjhbaa

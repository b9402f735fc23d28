import Derived.Test.YtfbiffdmhcjhbaaGreatZa21
import Derived.Test.YtfbiffdmhcjhbaaGreatZa23
set_option linter.all false
set_option maxHeartbeats 16000000
set_option maxRecDepth 100000
set_option synthInstance.maxSize 4000
set_option synthInstance.maxHeartbeats 0
namespace Go.Proofs.YtfbiffdmhcjhbaaGreat
open Go.RowKit Tryz
section
open Go.RowKit
open Sq
open Ar
open Fl (Tk raw kd jh cnt ends opens gF gM begins back blanks fq pair item gI vU key iN jR jW jB jr lead gN balanced text sV mD sU oK)
namespace Fl
theorem za(l:List Tk)(e g:Nat)(o:Option (Nat×Nat))(i:Nat):lead l e (g+1) o i=if gM (kd l e i)=true then lead l e g (some (gN o i,i)) (blanks l e (i+1))else(o,i):=rfl
theorem KH(l:List Tk)(e g:Nat)(o:Option (Nat×Nat))(i:Nat)(h:gM (kd l e i)=false):lead l e g o i=(o,i):=by
 cases g with
 |zero=>rfl
 |succ g=>rw[za,eQ (by rw[h];decide)]
def Iq(o:Option (Nat×Nat)):Int:=match o with
 |none=>-1
 |some x=>x.1
def Ir(o:Option (Nat×Nat)):Int:=match o with
 |none=>0
 |some x=>x.2
def FL(l:List Tk)(e d:Nat):Option (Int->Nat->St->Nat×St):=match d with
 |0=>none
 |d'+1=>some (λc op s=>jB l e (gI l e d') c op (e-op) (op+1) false s)
theorem Nn(l:List Tk)(e d:Nat):gI l e d=vU l e (FL l e d):=by cases d<;>rfl
def OY(l:List Tk)(e:Nat)(fo:Option (Int->Nat->St->Nat×St))(up:Int)(p:Nat)(s:St)(o:Option (Nat×Nat))(i:Nat):Int×Nat×St:=
 if kd l e i=13 then((add s up 8 (gN o i) (i+1)).2,i+1,(add s up 8 (gN o i) (i+1)).1)
 else if gF (kd l e i)=true then((add s up 7 (gN o i) (i+1)).2,i+1,(add s up 7 (gN o i) (i+1)).1)
 else if kd l e i=18 then((add s up 7 (gN o i) (text l e i)).2,text l e i,(add s up 7 (gN o i) (text l e i)).1)
 else if opens (kd l e i)=true then match fo with
  |none=>((addN s.t up 11 (gN o i) (balanced l e i)).2,balanced l e i,err l s up (gN o i) (balanced l e i) 10)
  |some fo=>((add s up (if kd l e i=9 then 10 else 9) (gN o i) (i+1)).2,(fo (add s up (if kd l e i=9 then 10 else 9) (gN o i) (i+1)).2 i (add s up (if kd l e i=9 then 10 else 9) (gN o i) (i+1)).1).1,(fo (add s up (if kd l e i=9 then 10 else 9) (gN o i) (i+1)).2 i (add s up (if kd l e i=9 then 10 else 9) (gN o i) (i+1)).1).2)
 else match o with
  |some x=>((add s up 7 (gN o i) (x.2+1)).2,x.2+1,(add s up 7 (gN o i) (x.2+1)).1)
  |none=>(-1,p,s)
theorem PM(l:List Tk)(e:Nat)(fo:Option (Int->Nat->St->Nat×St))(up:Int)(p:Nat)(s:St):vU l e fo up p s=OY l e fo up p s (lead l e (e-blanks l e p) none (blanks l e p)).1 (lead l e (e-blanks l e p) none (blanks l e p)).2:=rfl
end Fl
theorem AA(w0 w:World)(rb:Nat)(tv:Value)(e:Nat)(l:List Tk)(s:Fl.St)(R:Nat->Prop)(up p k f t:Nat)(b:Int)(hS:GS w0 w rb tv e l s R)(hck:Ck s.t l.length)(hf:Fits s.t p b up)(hlf:Fe.Lf s.t)(hno:Fe.No s.t up)(hn:s.t.length<=700000000000)
 (aa:p<=f) (hft:f<=t) (ht:t<=l.length) (h1:1<=k) (h2:k<=10):
 Calls prog 68 #[RG rb,.int .i64 up,.int .i64 k,.int .i64 f,.int .i64 t] w (fU w0 w rb tv e l R (.int .i64 (Fl.add s up k f t).2) (Fl.add s up k f t).1):=by
 obtain⟨s',a1,_⟩:=Fe.iW (kind:=k) (Fe.Ok.start (l:=l) (p0:=p) hck hf hlf hno) (f:=f) (t:=t) (by omega) hft (by omega) h1 h2;have h2:=congrArg Prod.snd a1;exact Im w0 w rb tv e l s R up k f t hS (jD.of hck (by omega)) (lh h2)
theorem BA{l:List Tk}{p0:Nat}{n e b:Int}{up f t kind:Nat}{s0 s:Fl.St}(h:Fe.Ok l p0 n up s0 e b s)(he:e<=f)(hft:f<=t)(htn:(t:Int)<=n)(hk1:1<=kind)(hk2:kind<=10):
 ∃s',Fl.add s up kind f t=(s',(s.t.length:Int))/\Fe.Ok l p0 n up s0 t (max b t) s'/\Fe.Ok l p0 n s.t.length s0 f (max b t) s'/\(∃x,s'.t[s.t.length]?=some x/\x.u=(up:Int)/\x.k=(kind:Int))/\0<s.t.length:=by
 obtain⟨s',a1,a2,a3,_,a6⟩:=Fe.iW h he hft htn hk1 hk2;obtain⟨r,b1,_,_,_,_,_,_,_,_,b2,_⟩:=Fe.uq h he hft htn hk1 (by omega) (λe=>by omega);have hr:s'.t=r:=by
  have e1:=congrArg (λx=>x.1.t) a1;have e2:=congrArg Prod.fst b1;exact e1.symm.trans e2
 exact⟨s',a1,a2,a3,by rw[hr];exact b2,a6⟩
theorem N7(w0 w:World)(rb:Nat)(tv:Value)(e:Nat)(l:List Tk)(s:Fl.St)(R:Nat->Prop)(up:Int)(f t code:Nat)(hS:GS w0 w rb tv e l s R)(hr:jD s.t)(hm:iL s.t up 11 f t=true)(hft:f<t)(ht:t<=l.length)(hd:s.d.length<=800000000000):
 ∃v,Calls prog 47 #[RG rb,.int .i64 up,.int .i64 f,.int .i64 t,.int .i64 code] w (fU w0 w rb tv e l R (.int .i64 v) (Fl.err l s up f t code))/\v=(addN s.t up 11 f t).2:=by
 obtain⟨j,rfl⟩:∃j,t=j+1:=⟨t-1,by omega⟩
 exact⟨_,Jc w0 w rb tv e l s R up f j code hS hr hm (by omega) (by omega) hd,rfl⟩
theorem E9{k:Nat}(h:opens k=true):k=8\/k=9:=by unfold opens at h;simp at h;omega
theorem QH(l:List Tk)(d:Nat)(HC:∀d',d=d'+1->VG l d')(bq:d<=1000):VG l d:=by
 intro w0 w rb tv e s R up p b hS hck hf hlf hno hb hpe hn hd;have hel:=hS.gt.ends;have hls:=hS.gt.size;have hes:e<=100000:=jN hel hls;obtain⟨LD,aP⟩:=eX (lead l e (e-blanks l e p) none (blanks l e p));have hbi:=jR (l:=l) hpe;have aT:=sV l e (blanks l e p) (e-blanks l e p) none (blanks l e p) (fC _) (by omega) (λa z h=>by simp at h);have hbl:=EJ rb tv e l p w hS.gt (by omega);rw[aP]at aT;obtain⟨i0,hi0⟩:=eX (blanks l e p);rw[hi0]at hbi aT hbl aP;obtain⟨bf,aW⟩:=fD aP hbl;have aC:=eu (λj=>yA rb tv e l j w hS.gt);have aD:=eu (λj (hj:j<=e)=>show Calls prog 89 #[RG rb,.int .i64 ((j:Int)+1)] w λen w'=>en=.returned (.int .i64 (blanks l e (j+1):Nat))/\w=w' from by have h1:=EJ rb tv e l (j+1) w hS.gt (by omega);rw[show((j+1:Nat):Int)=(j:Int)+1 from by omega]at h1;exact h1);have HSc:=eu (λk=>Iy k w);have aF:=eu (λk=>zz k w);have aX:gI l e d up p s=Fl.OY l e (Fl.FL l e d) up p s LD.1 LD.2:=by rw[Fl.Nn,Fl.PM,hi0,aP]
 obtain⟨Z,hZ⟩:=eX (gI l e d up p s);rw[hZ]at aX⊢;obtain⟨aI,aJ,HS,ah,ak,av⟩:=j6 aX aT hS hck hf hlf;obtain⟨ax,aH⟩:=fD hno HC;have HQ:=eu (λW R' n (t:Nat) s' (hz:Z=(n,t,s'))(h:GS w0 W rb tv e l s' R')(h2:FP w W rb R R')=>show fU w0 w rb tv e l R (.tuple #[.int .i64 Z.1,.int .i64 (Z.2.1:Nat)]) Z.2.2 (.returned (.tuple #[.int .i64 n,.int .i64 (t:Int)])) W from by subst hz;exact⟨rfl,R',h,h2⟩);obtain⟨Q,hQ⟩:=eX (fU w0 w rb tv e l R (.tuple #[.int .i64 Z.1,.int .i64 (Z.2.1:Nat)]) Z.2.2);rw[hQ]at HQ⊢;have bg:(e:Int)+1<4611686018427387904:=by omega
 obtain⟨N,hN⟩:=eX (l.length);have HN:=eu hN;rw[hN]at hel hls;obtain⟨ay,aB⟩:=fD hn hd;clear hn hd bg;clear hS hck hf hlf hno HC aX hZ aP aT hbl hQ hN
 go_enter func81,ntmps81
 go_wp2_with (with_reducible refine aW.out.mono ?_;rintro e w1 ⟨rfl,rfl⟩)
 clear aW
 go_loopw [10,11,12] (λiv fv lv wr=>∃(i g:Nat)(o:Option (Nat×Nat)),iv=.int .i64 i/\fv=.int .i64 (Fl.Iq o)/\lv=.int .i64 (Fl.Ir o)/\i<=e/\Hid (e<=g+i)/\Hid (lead l e g o i=LD)/\w=wr) (λiv _ _ _=>e-(intOf iv).toNat)
 case atStart=>exact⟨i0,e-i0,none,rfl,rfl,rfl,hbi.2,eu (by omega),bf,rfl⟩
 case round=>
  clear bf;obtain⟨i,g,o,rfl,rfl,rfl,hie,HG,HL,rfl⟩:=hrel;have hk:=aC.out i;obtain⟨K,hK⟩:=eX (kd l e i);rw[hK]at hk;have aj:=eu hk;cases c:gM K with
  |true=>
   have hke:=Fl.wh (l:=l) (e:=e) (i:=i) (by rw[hK];intro h0;rw[h0]at c;exact absurd c (by decide));have hg1:=HG.out;obtain⟨g',rfl⟩:∃g',g=g'+1:=⟨g-1,by omega⟩
   have hl:=HL.out;rw[Fl.za,hK,eT c]at hl;have hin:=jR (l:=l) (e:=e) (i:=i+1) (by omega);have ht:=aD.out i hie;obtain⟨X,hX⟩:=eX (blanks l e (i+1));rw[hX]at hl hin ht;obtain⟨HL2,aU⟩:=fD hl ht;have aV:=eu (show e<=g'+X by omega);have h12:K=12\/K=14:=by rw[Fl.ry]at c;simp at c;omega
   cases o with
   |none=>
    have e1:gN none i=i:=rfl;rw[e1]at HL2;have e2:Fl.Iq none=-1:=rfl;have e3:Fl.Ir none=0:=rfl;rw[e2,e3];clear hk hK c hg1 HG HL hl ht hX aC aD HSc aF e1 e2 e3;rcases h12 with q|q
    ·have g1:((K:Int)==12)=true:=by simp;omega
     clear q;go_wp2_with (first|(with_reducible refine aj.out.mono ?_;rintro e w1 ⟨rfl,rfl⟩)|(with_reducible refine aU.out.mono ?_;rintro e w1 ⟨rfl,rfl⟩)|fail)
     go_roundw
     case rel=>exact⟨X,g',some (i,i),rfl,rfl,rfl,by omega,aV,HL2,trivial⟩
     case measure=>simp[intOf];omega
    have g1:((K:Int)==12)=false:=by simp;omega
    have g2:((K:Int)==14)=true:=by simp;omega
    clear q;go_wp2_with (first|(with_reducible refine aj.out.mono ?_;rintro e w1 ⟨rfl,rfl⟩)|(with_reducible refine aU.out.mono ?_;rintro e w1 ⟨rfl,rfl⟩)|fail)
    go_roundw
    case rel=>exact⟨X,g',some (i,i),rfl,rfl,rfl,by omega,aV,HL2,trivial⟩
    case measure=>simp[intOf];omega
   |some az=>
    obtain⟨a,z⟩:=az;have e1:gN (some (a,z)) i=a:=rfl;rw[e1]at HL2;have e2:Fl.Iq (some (a,z))=(a:Int):=rfl;have e3:Fl.Ir (some (a,z))=(z:Int):=rfl;rw[e2,e3];have ga:¬((a:Int)<0):=by omega
    clear hk hK c hg1 HG HL hl ht hX aC aD HSc aF e1 e2 e3;rcases h12 with q|q
    ·have g1:((K:Int)==12)=true:=by simp;omega
     clear q;go_wp2_with (first|(with_reducible refine aj.out.mono ?_;rintro e w1 ⟨rfl,rfl⟩)|(with_reducible refine aU.out.mono ?_;rintro e w1 ⟨rfl,rfl⟩)|fail)
     go_roundw
     case rel=>exact⟨X,g',some (a,i),rfl,rfl,rfl,by omega,aV,HL2,trivial⟩
     case measure=>simp[intOf];omega
    have g1:((K:Int)==12)=false:=by simp;omega
    have g2:((K:Int)==14)=true:=by simp;omega
    clear q;go_wp2_with (first|(with_reducible refine aj.out.mono ?_;rintro e w1 ⟨rfl,rfl⟩)|(with_reducible refine aU.out.mono ?_;rintro e w1 ⟨rfl,rfl⟩)|fail)
    go_roundw
    case rel=>exact⟨X,g',some (a,i),rfl,rfl,rfl,by omega,aV,HL2,trivial⟩
    case measure=>simp[intOf];omega
  |false=>
   have hl:=HL.out;rw[Fl.KH l e g o i (by rw[hK];exact c)]at hl;subst hl;have g12:((K:Int)==12)=false:=by rw[Fl.ry]at c;simp at c⊢;omega
   have g14:((K:Int)==14)=false:=by rw[Fl.ry]at c;simp at c⊢;omega
   have hz:=aI.out;unfold Fl.OY at hz;rw[hK]at hz;dsimp only at hz;have hlo:=aJ.out;dsimp only at hlo;obtain⟨l1,l2,l3,-⟩:=hlo;have ae:K≠0->i<e/\raw l i=K:=λh=>by have:=jW (l:=l) (e:=e) (i:=i) (by rw[hK];exact h);rw[hK]at this;exact this
   have aa:=eu (λk f t (bn:p<=f)(hft:f<=t)(ht:t<=e)(h1:1<=k)(h2:k<=10)=>AA w0 w rb tv e l s R up p k f t b HS.out ah.out ak.out av.out ax.out (by have:=ay.out;omega) bn hft (by rw[HN.out];omega) h1 h2);have hsc:=HSc.out K;have hop:=aF.out K;obtain⟨SC,aA⟩:=eX (gF K);obtain⟨OP,ag⟩:=eX (opens K);rw[aA]at hsc hz;rw[ag]at hop hz;obtain⟨ai,aK⟩:=fD hsc hop;cases o with
   |none=>
    have e1:gN none i=i:=rfl;have e2:Fl.Iq none=-1:=rfl;have e3:Fl.Ir none=0:=rfl;rw[e2,e3];rw[e1]at hz;clear e1 e2 e3;have hfr:p<=i/\i<=i:=⟨by omega,fC _⟩
    by_cases k13:K=13
    ·have hi2:=ae (by omega);rw[eT k13]at hz;have hp:=aa.out 8 i (i+1) hfr.1 (by omega) (by omega) (by omega) (by omega);obtain⟨A,hA⟩:=eX (Fl.add s up 8 i (i+1));rw[hA]at hp hz;rw[show((i+1:Nat):Int)=(i:Int)+1 from by omega]at hp;obtain⟨af,HZ⟩:=fD hp hz;have g13:((K:Int)==13)=true:=by simp;omega
     clear hk hK c HG HL aC aD HSc aF aa hsc hop aA ag aI aJ HS ah ak av ax aH HN ae l3 hbi ay aB hA hp hz hfr k13;go_wp2_with (first|(with_reducible refine aj.out.mono ?_;rintro e w1 ⟨rfl,rfl⟩)|fail)
     refine af.out.mono ?_;rintro e1 w1 ⟨rfl,R1,hS1,hF1⟩;have HD:=eu (HQ.out w1 R1 _ _ _ HZ.out hS1 hF1);clear hS1 hF1 af HQ HZ;rw[show((i+1:Nat):Int)=(i:Int)+1 from by omega]at HD;go_wp2_with fail
     exact HD.out
    rw[eQ k13]at hz;have g13:((K:Int)==13)=false:=by simp;omega
    cases SC with
    |true=>
     have hi2:=ae (λh=>by rw[h]at aA;exact absurd aA (by decide));rw[eT rfl]at hz;have hp:=aa.out 7 i (i+1) hfr.1 (by omega) (by omega) (by omega) (by omega);obtain⟨A,hA⟩:=eX (Fl.add s up 7 i (i+1));rw[hA]at hp hz;rw[show((i+1:Nat):Int)=(i:Int)+1 from by omega]at hp;obtain⟨af,HZ⟩:=fD hp hz;clear hk hK c HG HL aC aD HSc aF aa hsc hop aA ag aI aJ HS ah ak av ax aH HN ae l3 hbi ay aB hA hp hz hfr k13;go_wp2_with (first|(with_reducible refine aj.out.mono ?_;rintro e w1 ⟨rfl,rfl⟩)|(with_reducible refine ai.out.mono ?_;rintro e w1 ⟨rfl,rfl⟩)|fail)
     refine af.out.mono ?_;rintro e1 w1 ⟨rfl,R1,hS1,hF1⟩;have HD:=eu (HQ.out w1 R1 _ _ _ HZ.out hS1 hF1);clear hS1 hF1 af HQ HZ;rw[show((i+1:Nat):Int)=(i:Int)+1 from by omega]at HD;go_wp2_with fail
     exact HD.out
    |false=>
    rw[eQ (by decide)]at hz;by_cases k18:K=18
    ·have hi2:=ae (by omega);have htx:=sU (l:=l) (e:=e) (i:=i) (by rw[hK];exact k18);have htc:=NZ rb tv e l i w HS.out.gt (by omega);obtain⟨t,ht⟩:=eX (text l e i);rw[ht]at htx htc hz;have aY:=eu htc;rw[eT k18]at hz;have hp:=aa.out 7 i (t) hfr.1 (by omega) (by omega) (by omega) (by omega);obtain⟨A,hA⟩:=eX (Fl.add s up 7 i (t));rw[hA]at hp hz;obtain⟨af,HZ⟩:=fD hp hz;have g18:((K:Int)==18)=true:=by simp;omega
     clear hk hK c HG HL aC aD HSc aF aa hsc hop aA ag aI aJ HS ah ak av ax aH HN ae l3 hbi ay aB hA hp hz hfr k13 k18 htx htc ht;go_wp2_with (first|(with_reducible refine aj.out.mono ?_;rintro e w1 ⟨rfl,rfl⟩)|(with_reducible refine ai.out.mono ?_;rintro e w1 ⟨rfl,rfl⟩)|(with_reducible refine aY.out.mono ?_;rintro e w1 ⟨rfl,rfl⟩)|fail)
     refine af.out.mono ?_;rintro e1 w1 ⟨rfl,R1,hS1,hF1⟩;have HD:=eu (HQ.out w1 R1 _ _ _ HZ.out hS1 hF1);clear hS1 hF1 af HQ HZ;go_wp2_with fail
     exact HD.out
    rw[eQ k18]at hz;have g18:((K:Int)==18)=false:=by simp;omega
    cases OP with
    |true=>
     rw[eT rfl]at hz;have hi2:=ae (λh=>by rw[h]at ag;exact absurd ag (by decide));cases d with
     |zero=>
      dsimp only[Fl.FL]at hz;have hbn:=mD (l:=l) (e:=e) (i:=i) (by rw[hK];exact ag);have hbc:=yP rb tv e l i w HS.out.gt (by rw[hK];exact ag);obtain⟨t,ht⟩:=eX (balanced l e i);rw[ht]at hbn hbc hz;obtain⟨-,m2⟩:=Fe.jL (code:=10) (Fe.Ok.start (l:=l) (p0:=p) ah.out ak.out av.out ax.out) (f:=i) (t:=t) (by omega) (by omega) (by rw[HN.out];omega) (by omega) (by omega) (by omega) (by omega);obtain⟨v,hev⟩:=N7 w0 w rb tv e l s R up i t 10 HS.out (jD.of ah.out (by have:=ay.out;omega)) (lh m2) (by omega) (by rw[HN.out];omega) (by have:=aB.out;omega);obtain⟨hev,hv⟩:=hev;rw[<-hv]at hz;obtain⟨aQ,aZ,HZ⟩:=gW hev hbc hz;clear hk hK c HG HL aC aD HSc aF aa hsc hop aA ag aI aJ HS ah ak av ax aH HN ae l3 hbi ay aB hz hfr k13 k18 hbn hbc ht m2 hev hv;go_wp2_with (first|(with_reducible refine aj.out.mono ?_;rintro e w1 ⟨rfl,rfl⟩)|(with_reducible refine ai.out.mono ?_;rintro e w1 ⟨rfl,rfl⟩)|(with_reducible refine aK.out.mono ?_;rintro e w1 ⟨rfl,rfl⟩)|(with_reducible refine aZ.out.mono ?_;rintro e w1 ⟨rfl,rfl⟩)|fail)
      refine aQ.out.mono ?_;rintro e1 w1 ⟨rfl,R1,hS1,hF1⟩;have HD:=eu (HQ.out w1 R1 _ _ _ HZ.out hS1 hF1);clear hS1 hF1 aQ HQ HZ;go_wp2_with fail
      exact HD.out
     |succ d' =>
      dsimp only[Fl.FL]at hz;obtain⟨KN,aG⟩:∃KN:Nat,(if K=9 then 10 else 9)=KN:=⟨_,rfl⟩
      have hkn:1<=KN/\KN<=10:=by rw[<-aG];split<;>omega
      rw[aG]at hz;obtain⟨s',a1,a2,a3,⟨x,a4,a5,a7⟩,a6⟩:=BA (kind:=KN) (Fe.Ok.start (l:=l) (p0:=p) ah.out ak.out av.out ax.out) (f:=i) (t:=i+1) (by omega) (by omega) (by rw[HN.out];omega) hkn.1 hkn.2;have hzl:=Fe.iU s up KN i (i+1);have hp:=aa.out KN i (i+1) hfr.1 (by omega) (by omega) hkn.1 hkn.2;rw[a1]at hp hz hzl;dsimp only at hp hz hzl;rw[show((i+1:Nat):Int)=(i:Int)+1 from by omega]at hp;obtain⟨ZC,aO⟩:=eX (jB l e (gI l e d') (s.t.length:Int) i (e-i) (i+1) false s');rw[aO]at hz;have aR:CI l e d' s.t.length i x.k ZC (i+1) false s':=⟨a3.ck,a3.fits.le (by omega) (by omega),a3.lf,a3.no,Nat.lt_succ_self _,by omega,by rw[HN.out];exact hel,by rw[lJ,hi2.2];exact oK ag,⟨x,a4,rfl⟩,by have:=hzl.1;have:=ay.out;omega,by rw[hzl.2];have:=aB.out;omega,e-i,by omega,aO⟩
      have aL:=eu (λw1 R1 (h:GS w0 w1 rb tv e l s' R1)=>QF l d' (aH.out d' rfl) (by omega) w0 w1 rb tv e s' R1 s.t.length i x ZC h hi2.1 (by rw[a7,hi2.2,<-aG];rcases E9 ag with h|h<;>rw[h]<;>rfl) aR);obtain⟨M,hM⟩:=eX (s.t.length);rw[hM]at hp hz aL;obtain⟨af,HZ⟩:=fD hp hz;have gd:¬(((d'+1:Nat):Int)<=0):=by omega
      have aS:((d'+1:Nat):Int)=(d':Int)+1:=by omega
      rw[aS]at gd⊢;clear hk hK c HG HL aC aD HSc aF aa hsc hop aA ag aI aJ HS ah ak av ax aH HN ae l3 hbi ay aB hz hp hfr k13 k18 a1 a2 a3 a4 a5 a6 a7 hzl aO aR hM hkn aS;by_cases k9:K=9
      ·rw[eT k9]at aG;subst aG;have g9:((K:Int)==9)=true:=by simp;omega
       clear k9;go_wp2_with (first|(with_reducible refine aj.out.mono ?_;rintro e w1 ⟨rfl,rfl⟩)|(with_reducible refine ai.out.mono ?_;rintro e w1 ⟨rfl,rfl⟩)|(with_reducible refine aK.out.mono ?_;rintro e w1 ⟨rfl,rfl⟩)|fail)
       refine af.out.mono ?_;rintro e1 w1 ⟨rfl,R1,hS1,hF1⟩;obtain⟨aM,aN⟩:=fD (aL.out w1 R1 hS1) hF1;clear hS1 hF1 af aL;go_wp2_with fail
       refine aM.out.mono ?_;rintro e1 w2 ⟨rfl,R2,hS2,hF2⟩;have HD:=eu (HQ.out w2 R2 _ _ _ HZ.out hS2 (aN.out.trans hF2));clear hS2 hF2 aM HQ HZ aN;go_wp2_with fail
       exact HD.out
      rw[eQ k9]at aG;subst aG;have g9:((K:Int)==9)=false:=by simp;omega
      clear k9;go_wp2_with (first|(with_reducible refine aj.out.mono ?_;rintro e w1 ⟨rfl,rfl⟩)|(with_reducible refine ai.out.mono ?_;rintro e w1 ⟨rfl,rfl⟩)|(with_reducible refine aK.out.mono ?_;rintro e w1 ⟨rfl,rfl⟩)|fail)
      refine af.out.mono ?_;rintro e1 w1 ⟨rfl,R1,hS1,hF1⟩;obtain⟨aM,aN⟩:=fD (aL.out w1 R1 hS1) hF1;clear hS1 hF1 af aL;go_wp2_with fail
      refine aM.out.mono ?_;rintro e1 w2 ⟨rfl,R2,hS2,hF2⟩;have HD:=eu (HQ.out w2 R2 _ _ _ HZ.out hS2 (aN.out.trans hF2));clear hS2 hF2 aM HQ HZ aN;go_wp2_with fail
      exact HD.out
    |false=>
    rw[eQ (by decide)]at hz;dsimp only at hz;have HD:=eu (HQ.out w R _ _ _ hz HS.out (FP.refl _ _ _));clear hk hK c HG HL aC aD HSc aF aa hsc hop aA ag aI aJ HS ah ak av ax aH HN ae l3 hbi ay aB hz hfr k13 k18;go_wp2_with (first|(with_reducible refine aj.out.mono ?_;rintro e w1 ⟨rfl,rfl⟩)|(with_reducible refine ai.out.mono ?_;rintro e w1 ⟨rfl,rfl⟩)|(with_reducible refine aK.out.mono ?_;rintro e w1 ⟨rfl,rfl⟩)|fail)
    exact HD.out
   |some az=>
    obtain⟨a,z⟩:=az;have e1:gN (some (a,z)) i=a:=rfl;have e2:Fl.Iq (some (a,z))=(a:Int):=rfl;have e3:Fl.Ir (some (a,z))=(z:Int):=rfl;rw[e2,e3];rw[e1]at hz;clear e1 e2 e3;obtain⟨ha1,ha2,bz,bA⟩:=l3 a z rfl;have hfr:p<=a/\a<=i:=⟨by omega,by omega⟩
    have ga:(0:Int)<=(a:Int):=by omega
    by_cases k13:K=13
    ·have hi2:=ae (by omega);rw[eT k13]at hz;have hp:=aa.out 8 a (i+1) hfr.1 (by omega) (by omega) (by omega) (by omega);obtain⟨A,hA⟩:=eX (Fl.add s up 8 a (i+1));rw[hA]at hp hz;rw[show((i+1:Nat):Int)=(i:Int)+1 from by omega]at hp;obtain⟨af,HZ⟩:=fD hp hz;have g13:((K:Int)==13)=true:=by simp;omega
     clear hk hK c HG HL aC aD HSc aF aa hsc hop aA ag aI aJ HS ah ak av ax aH HN ae l3 hbi ay aB hA hp hz hfr k13;go_wp2_with (first|(with_reducible refine aj.out.mono ?_;rintro e w1 ⟨rfl,rfl⟩)|fail)
     refine af.out.mono ?_;rintro e1 w1 ⟨rfl,R1,hS1,hF1⟩;have HD:=eu (HQ.out w1 R1 _ _ _ HZ.out hS1 hF1);clear hS1 hF1 af HQ HZ;rw[show((i+1:Nat):Int)=(i:Int)+1 from by omega]at HD;go_wp2_with fail
     exact HD.out
    rw[eQ k13]at hz;have g13:((K:Int)==13)=false:=by simp;omega
    cases SC with
    |true=>
     have hi2:=ae (λh=>by rw[h]at aA;exact absurd aA (by decide));rw[eT rfl]at hz;have hp:=aa.out 7 a (i+1) hfr.1 (by omega) (by omega) (by omega) (by omega);obtain⟨A,hA⟩:=eX (Fl.add s up 7 a (i+1));rw[hA]at hp hz;rw[show((i+1:Nat):Int)=(i:Int)+1 from by omega]at hp;obtain⟨af,HZ⟩:=fD hp hz;clear hk hK c HG HL aC aD HSc aF aa hsc hop aA ag aI aJ HS ah ak av ax aH HN ae l3 hbi ay aB hA hp hz hfr k13;go_wp2_with (first|(with_reducible refine aj.out.mono ?_;rintro e w1 ⟨rfl,rfl⟩)|(with_reducible refine ai.out.mono ?_;rintro e w1 ⟨rfl,rfl⟩)|fail)
     refine af.out.mono ?_;rintro e1 w1 ⟨rfl,R1,hS1,hF1⟩;have HD:=eu (HQ.out w1 R1 _ _ _ HZ.out hS1 hF1);clear hS1 hF1 af HQ HZ;rw[show((i+1:Nat):Int)=(i:Int)+1 from by omega]at HD;go_wp2_with fail
     exact HD.out
    |false=>
    rw[eQ (by decide)]at hz;by_cases k18:K=18
    ·have hi2:=ae (by omega);have htx:=sU (l:=l) (e:=e) (i:=i) (by rw[hK];exact k18);have htc:=NZ rb tv e l i w HS.out.gt (by omega);obtain⟨t,ht⟩:=eX (text l e i);rw[ht]at htx htc hz;have aY:=eu htc;rw[eT k18]at hz;have hp:=aa.out 7 a (t) hfr.1 (by omega) (by omega) (by omega) (by omega);obtain⟨A,hA⟩:=eX (Fl.add s up 7 a (t));rw[hA]at hp hz;obtain⟨af,HZ⟩:=fD hp hz;have g18:((K:Int)==18)=true:=by simp;omega
     clear hk hK c HG HL aC aD HSc aF aa hsc hop aA ag aI aJ HS ah ak av ax aH HN ae l3 hbi ay aB hA hp hz hfr k13 k18 htx htc ht;go_wp2_with (first|(with_reducible refine aj.out.mono ?_;rintro e w1 ⟨rfl,rfl⟩)|(with_reducible refine ai.out.mono ?_;rintro e w1 ⟨rfl,rfl⟩)|(with_reducible refine aY.out.mono ?_;rintro e w1 ⟨rfl,rfl⟩)|fail)
     refine af.out.mono ?_;rintro e1 w1 ⟨rfl,R1,hS1,hF1⟩;have HD:=eu (HQ.out w1 R1 _ _ _ HZ.out hS1 hF1);clear hS1 hF1 af HQ HZ;go_wp2_with fail
     exact HD.out
    rw[eQ k18]at hz;have g18:((K:Int)==18)=false:=by simp;omega
    cases OP with
    |true=>
     rw[eT rfl]at hz;have hi2:=ae (λh=>by rw[h]at ag;exact absurd ag (by decide));cases d with
     |zero=>
      dsimp only[Fl.FL]at hz;have hbn:=mD (l:=l) (e:=e) (i:=i) (by rw[hK];exact ag);have hbc:=yP rb tv e l i w HS.out.gt (by rw[hK];exact ag);obtain⟨t,ht⟩:=eX (balanced l e i);rw[ht]at hbn hbc hz;obtain⟨-,m2⟩:=Fe.jL (code:=10) (Fe.Ok.start (l:=l) (p0:=p) ah.out ak.out av.out ax.out) (f:=a) (t:=t) (by omega) (by omega) (by rw[HN.out];omega) (by omega) (by omega) (by omega) (by omega);obtain⟨v,hev⟩:=N7 w0 w rb tv e l s R up a t 10 HS.out (jD.of ah.out (by have:=ay.out;omega)) (lh m2) (by omega) (by rw[HN.out];omega) (by have:=aB.out;omega);obtain⟨hev,hv⟩:=hev;rw[<-hv]at hz;obtain⟨aQ,aZ,HZ⟩:=gW hev hbc hz;clear hk hK c HG HL aC aD HSc aF aa hsc hop aA ag aI aJ HS ah ak av ax aH HN ae l3 hbi ay aB hz hfr k13 k18 hbn hbc ht m2 hev hv;go_wp2_with (first|(with_reducible refine aj.out.mono ?_;rintro e w1 ⟨rfl,rfl⟩)|(with_reducible refine ai.out.mono ?_;rintro e w1 ⟨rfl,rfl⟩)|(with_reducible refine aK.out.mono ?_;rintro e w1 ⟨rfl,rfl⟩)|(with_reducible refine aZ.out.mono ?_;rintro e w1 ⟨rfl,rfl⟩)|fail)
      refine aQ.out.mono ?_;rintro e1 w1 ⟨rfl,R1,hS1,hF1⟩;have HD:=eu (HQ.out w1 R1 _ _ _ HZ.out hS1 hF1);clear hS1 hF1 aQ HQ HZ;go_wp2_with fail
      exact HD.out
     |succ d' =>
      dsimp only[Fl.FL]at hz;obtain⟨KN,aG⟩:∃KN:Nat,(if K=9 then 10 else 9)=KN:=⟨_,rfl⟩
      have hkn:1<=KN/\KN<=10:=by rw[<-aG];split<;>omega
      rw[aG]at hz;obtain⟨s',a1,a2,a3,⟨x,a4,a5,a7⟩,a6⟩:=BA (kind:=KN) (Fe.Ok.start (l:=l) (p0:=p) ah.out ak.out av.out ax.out) (f:=a) (t:=i+1) (by omega) (by omega) (by rw[HN.out];omega) hkn.1 hkn.2;have hzl:=Fe.iU s up KN a (i+1);have hp:=aa.out KN a (i+1) hfr.1 (by omega) (by omega) hkn.1 hkn.2;rw[a1]at hp hz hzl;dsimp only at hp hz hzl;rw[show((i+1:Nat):Int)=(i:Int)+1 from by omega]at hp;obtain⟨ZC,aO⟩:=eX (jB l e (gI l e d') (s.t.length:Int) i (e-i) (i+1) false s');rw[aO]at hz;have aR:CI l e d' s.t.length i x.k ZC (i+1) false s':=⟨a3.ck,a3.fits.le (by omega) (by omega),a3.lf,a3.no,Nat.lt_succ_self _,by omega,by rw[HN.out];exact hel,by rw[lJ,hi2.2];exact oK ag,⟨x,a4,rfl⟩,by have:=hzl.1;have:=ay.out;omega,by rw[hzl.2];have:=aB.out;omega,e-i,by omega,aO⟩
      have aL:=eu (λw1 R1 (h:GS w0 w1 rb tv e l s' R1)=>QF l d' (aH.out d' rfl) (by omega) w0 w1 rb tv e s' R1 s.t.length i x ZC h hi2.1 (by rw[a7,hi2.2,<-aG];rcases E9 ag with h|h<;>rw[h]<;>rfl) aR);obtain⟨M,hM⟩:=eX (s.t.length);rw[hM]at hp hz aL;obtain⟨af,HZ⟩:=fD hp hz;have gd:¬(((d'+1:Nat):Int)<=0):=by omega
      have aS:((d'+1:Nat):Int)=(d':Int)+1:=by omega
      rw[aS]at gd⊢;clear hk hK c HG HL aC aD HSc aF aa hsc hop aA ag aI aJ HS ah ak av ax aH HN ae l3 hbi ay aB hz hp hfr k13 k18 a1 a2 a3 a4 a5 a6 a7 hzl aO aR hM hkn aS;by_cases k9:K=9
      ·rw[eT k9]at aG;subst aG;have g9:((K:Int)==9)=true:=by simp;omega
       clear k9;go_wp2_with (first|(with_reducible refine aj.out.mono ?_;rintro e w1 ⟨rfl,rfl⟩)|(with_reducible refine ai.out.mono ?_;rintro e w1 ⟨rfl,rfl⟩)|(with_reducible refine aK.out.mono ?_;rintro e w1 ⟨rfl,rfl⟩)|fail)
       refine af.out.mono ?_;rintro e1 w1 ⟨rfl,R1,hS1,hF1⟩;obtain⟨aM,aN⟩:=fD (aL.out w1 R1 hS1) hF1;clear hS1 hF1 af aL;go_wp2_with fail
       refine aM.out.mono ?_;rintro e1 w2 ⟨rfl,R2,hS2,hF2⟩;have HD:=eu (HQ.out w2 R2 _ _ _ HZ.out hS2 (aN.out.trans hF2));clear hS2 hF2 aM HQ HZ aN;go_wp2_with fail
       exact HD.out
      rw[eQ k9]at aG;subst aG;have g9:((K:Int)==9)=false:=by simp;omega
      clear k9;go_wp2_with (first|(with_reducible refine aj.out.mono ?_;rintro e w1 ⟨rfl,rfl⟩)|(with_reducible refine ai.out.mono ?_;rintro e w1 ⟨rfl,rfl⟩)|(with_reducible refine aK.out.mono ?_;rintro e w1 ⟨rfl,rfl⟩)|fail)
      refine af.out.mono ?_;rintro e1 w1 ⟨rfl,R1,hS1,hF1⟩;obtain⟨aM,aN⟩:=fD (aL.out w1 R1 hS1) hF1;clear hS1 hF1 af aL;go_wp2_with fail
      refine aM.out.mono ?_;rintro e1 w2 ⟨rfl,R2,hS2,hF2⟩;have HD:=eu (HQ.out w2 R2 _ _ _ HZ.out hS2 (aN.out.trans hF2));clear hS2 hF2 aM HQ HZ aN;go_wp2_with fail
      exact HD.out
    |false=>
    rw[eQ (by decide)]at hz;dsimp only at hz;have hp:=aa.out 7 a (z+1) hfr.1 (by omega) (by omega) (by omega) (by omega);obtain⟨A,hA⟩:=eX (Fl.add s up 7 a (z+1));rw[hA]at hp hz;rw[show((z+1:Nat):Int)=(z:Int)+1 from by omega]at hp;obtain⟨af,HZ⟩:=fD hp hz;clear hk hK c HG HL aC aD HSc aF aa hsc hop aA ag aI aJ HS ah ak av ax aH HN ae l3 hbi ay aB hA hp hz hfr k13 k18;go_wp2_with (first|(with_reducible refine aj.out.mono ?_;rintro e w1 ⟨rfl,rfl⟩)|(with_reducible refine ai.out.mono ?_;rintro e w1 ⟨rfl,rfl⟩)|(with_reducible refine aK.out.mono ?_;rintro e w1 ⟨rfl,rfl⟩)|fail)
    refine af.out.mono ?_;rintro e1 w1 ⟨rfl,R1,hS1,hF1⟩;have HD:=eu (HQ.out w1 R1 _ _ _ HZ.out hS1 hF1);clear hS1 hF1 af HQ HZ;rw[show((z+1:Nat):Int)=(z:Int)+1 from by omega]at HD;go_wp2_with fail
    exact HD.out
theorem Ji(l:List Tk):∀d:Nat,d<=1000->VG l d
 |0=>λh=>QH l 0 (λd' hd=>by omega) h
 |d+1=>λh=>QH l (d+1) (λd' hd=>by
  have e:d'=d:=Nat.succ.inj hd.symm;rw[e]
  exact Ji l d (by omega)) h
end
section
open Go.RowKit
open Sq
open Ar
open Fl (Tk)
def nD(x:Ps.Op):List Value:=[.int .i64 x.node,.int .i64 x.kind,.int .i64 x.fo,.int .i64 x.cur,.bool x.has]
def iA:jV Ps.Op:=⟨nD,5,by decide,λ_=>rfl,λx u hu=>by
 cases hu with
 |head=>rfl
 |tail _ hu=>cases hu with
  |head=>rfl
  |tail _ hu=>cases hu with
   |head=>rfl
   |tail _ hu=>cases hu with
    |head=>rfl
    |tail _ hu=>cases hu with
     |head=>rfl
     |tail _ hu=>cases hu⟩
theorem FQ:Ty prog iA 63 114 40:=Ty.of (z:=.agg #[.int .i64 0,.int .i64 0,.int .i64 0,.int .i64 0,.bool false]) underlying63 (by kernel_rfl) (by kernel_rfl) rfl (λw=>by kernel_rfl)
structure Cx where
 pb:Nat
 rb:Nat
 tv:Value
 rv:Value
 l:List Tk
 rs:List Rw.R
 depth:Nat
def TF(w w':World):Prop:=∀(k:Nat)(C:Array Value)(T:TypeId)(fr:Nat×Nat),w.heap[k]?=some (.cells C T fr)->62≠T->65≠T->114≠T->89≠T->w'.heap[k]?=w.heap[k]?
theorem TF.refl(w:World):TF w w:=λ_ _ _ _ _ _ _ _ _=>rfl
theorem TF.trans{a b c:World}(h:TF a b)(g:TF b c):TF a c:=λk C T fr hk h1 h2 h3 h4=>by
 have e:=h k C T fr hk h1 h2 h3 h4;rw[g k C T fr (e.trans hk) h1 h2 h3 h4,e]
theorem TF.below{w w':World}(h:Below w.heap.size w w'):TF w w':=λk C T fr hk _ _ _ _=>h.block k (kg hk)
abbrev mG(c:Cx)(p:Ps.PS)(sv:Value):Array Value:=#[RG c.rb,c.rv,.int .i64 p.doc,.bool p.root,sv,.int .i64 (c.depth:Int),.int .i64 (p.read:Int)]
structure PG(w0 w:World)(c:Cx)(e:Nat)(p:Ps.PS)(sv:Value)(R:Nat->Prop):Prop where
 gs:GS w0 w c.rb c.tv e c.l p.s R
 box:w.heap[c.pb]?=some (.cells (mG c p sv) 65 (0,0))
 low:w0.heap.size<=c.pb
 rows:Reads encR w0 c.rv c.rs
 Og:c.rs.length<=100000
 mJ:w.ownsRow w0.heap.size 114 5 sv p.st.reverse.length (iA.all p.st.reverse)
section
variable {w0 w w':World}{c:Cx}{e e':Nat}{p:Ps.PS}{sv:Value}{R R':Nat->Prop}{s':Fl.St}
theorem PG.cell(h:PG w0 w c e p sv R)(i:Nat)(u:Value)(hu:(mG c p sv)[i]?=some u):w.cell? ⟨c.pb,i,none⟩=some u:=(gQ h.box i).trans hu
theorem PG.free(h:PG w0 w c e p sv R)(o:Nat):w.frozen? ⟨c.pb,o,none⟩=false:=rW h.box o
theorem PG.lt(h:PG w0 w c e p sv R):c.pb<w.heap.size:=kg h.box
theorem PG.kE(h:PG w0 w c e p sv R):Below w0.heap.size w0 w:=h.gs.kE
theorem PG.below(h:PG w0 w c e p sv R)(hb:Below w.heap.size w w'):PG w0 w' c e p sv R:=
 ⟨h.gs.below hb,(hb.block _ h.lt).trans h.box,h.low,h.rows,h.Og,fI h.mJ hb⟩
theorem KI{B T s n:Nat}{v:Value}{xs:List Value}(h:w.ownsRow B T s v n xs)(hg:GS w0 w c.rb c.tv e c.l p.s R)(hF:FP w w' c.rb R R')(h3:89≠T)(h4:62≠T):w'.ownsRow B T s v n xs:=by
 refine il h (λg hgg=>?_);rcases h.2 with⟨h1,_⟩|⟨b,cap,cur,hv,_,hh,_⟩
 ·rw[h1]at hgg;cases hgg
 rw[hv]at hgg;obtain rfl:b=g:=by simpa [Value.ownBlock]using hgg
 have ho:=hg.off hh h3 h4;exact hF.block b (kg hh) ho.2 ho.1
theorem PG.step(h:PG w0 w c e p sv R)(hg:GS w0 w' c.rb c.tv e' c.l s' R')(hF:FP w w' c.rb R R'):PG w0 w' c e' {p with s:=s' } sv R'/\TF w w':=by
 have ho:=h.gs.off h.box (by decide) (by decide);refine⟨⟨hg,(hF.block _ h.lt ho.2 ho.1).trans h.box,h.low,h.rows,h.Og,KI h.mJ h.gs hF (by decide) (by decide)⟩,λk C T fr hk h1 h2 h3 h4=>?_⟩;have ho:=h.gs.off hk h4 h1;exact hF.block k (kg hk) ho.2 ho.1
theorem PG.toCell{p':Ps.PS}{i:Nat}{u:Value}(h:PG w0 w c e p sv R)(hs:p'.s=p.s)(hst:p'.st=p.st)(hC:(mG c p sv).setIfInBounds i u=mG c p' sv):PG w0 (w.setCell ⟨c.pb,i,none⟩ u) c e p' sv R/\TF w (w.setCell ⟨c.pb,i,none⟩ u):=by
 have st:∀g,g≠c.pb->(w.setCell ⟨c.pb,i,none⟩ u).heap[g]?=w.heap[g]?:=λg hg=>uo _ _ _ _ hg
 refine⟨⟨by rw[hs];exact h.gs.far h.low h.box (by decide) (by decide) (by decide) (by decide),?_,h.low,h.rows,h.Og,?_⟩,λk C T fr hk h1 h2 h3 h4=>st k ?_⟩
 ·rw[<-hC];exact mr h.box u
 ·rw[hst];exact il h.mJ (λg hg=>st g (λe'=>fK h.mJ h.box (by decide) (e' ▸hg)))
 rintro rfl;rw[h.box]at hk;injection hk with hk
 injection hk with _ hT
 exact h2 hT
theorem PG.l6{p':Ps.PS}{sv':Value}(h:PG w0 w c e p sv R)(hs:p'.s=p.s)(hd:p'.doc=p.doc)(hr:p'.root=p.root)(hre:p'.read=p.read)(hO:w.ownsRow w0.heap.size 114 5 sv' p'.st.reverse.length (iA.all p'.st.reverse)):
 PG w0 (w.setCell ⟨c.pb,4,none⟩ sv') c e p' sv' R/\TF w (w.setCell ⟨c.pb,4,none⟩ sv'):=by
 have st:∀g,g≠c.pb->(w.setCell ⟨c.pb,4,none⟩ sv').heap[g]?=w.heap[g]?:=λg hg=>uo _ _ _ _ hg
 refine⟨⟨by rw[hs];exact h.gs.far h.low h.box (by decide) (by decide) (by decide) (by decide),?_,h.low,h.rows,h.Og,il hO (λg hg=>st g (λe'=>fK hO h.box (by decide) (e' ▸hg)))⟩,λk C T fr hk h1 h2 h3 h4=>st k ?_⟩
 ·have e1:mG c p' sv'=(mG c p sv).setIfInBounds 4 sv':=by
   show#[_,_,_,_,_,_,_]=_;rw[hd,hr,hre];rfl
  rw[e1];exact mr h.box sv'
 rintro rfl;rw[h.box]at hk;injection hk with hk
 injection hk with _ hT
 exact h2 hT
theorem PG.Np{g n cap:Nat}{p':Ps.PS}(h:PG w0 w c e p (.slice (some ⟨g,0,none⟩) n cap) R)(i j:Nat)(x x':Ps.Op)(u:Value)(hx:p.st.reverse[i]?=some x)(hc:nD x'=(nD x).set j u)(hj:j<5)(hst:p'.st.reverse=p.st.reverse.set i x')(hs:p'.s=p.s)(hd:p'.doc=p.doc)(hr:p'.root=p.root)(hre:p'.read=p.read):
 PG w0 (w.setCell ⟨g,i*5+j,none⟩ u) c e p' (.slice (some ⟨g,0,none⟩) n cap) R/\TF w (w.setCell ⟨g,i*5+j,none⟩ u):=by
 have st:∀k,k≠g->(w.setCell ⟨g,i*5+j,none⟩ u).heap[k]?=w.heap[k]?:=λk hk=>uo _ _ _ _ hk
 obtain⟨cur,aa⟩:∃cur,w.heap[g]?=some (.cells cur 114 (0,0))/\w0.heap.size<=g:=by
  rcases h.mJ.2 with⟨h1,_⟩|⟨b,cap',cur,hv,hB,hh,_⟩
  ·cases h1
  obtain⟨e1,-,-⟩:=mq hv;injection e1 with e1
  injection e1 with e1
  exact⟨cur,e1▸hh,e1▸hB⟩
 have ae:g≠c.pb:=by
  rintro rfl;have h2:=h.box;rw[aa.1]at h2;injection h2 with h2
  injection h2 with _ hT
  exact absurd hT (by decide)
 have hO:=pR (E:=iA) h.mJ i j x x' u hx hc hj;refine⟨⟨by rw[hs];exact h.gs.far aa.2 aa.1 (by decide) (by decide) (by decide) (by decide),?_,h.low,h.rows,h.Og,by rw[hst];exact hO⟩,λk C T fr hk h1 h2 h3 h4=>st k ?_⟩
 ·rw[st _ ae.symm];have e1:mG c p' (.slice (some ⟨g,0,none⟩) n cap)=mG c p (.slice (some ⟨g,0,none⟩) n cap):=by
   show#[_,_,_,_,_,_,_]=_;rw[hd,hr,hre]
  rw[e1];exact h.box
 rintro rfl;rw[aa.1]at hk;injection hk with hk
 injection hk with _ hT
 exact h3 hT
theorem PG.toks(h:PG w0 w c e p sv R):w.cell? ⟨c.pb,0,none⟩=some (RG c.rb)/\w.cell? ⟨c.rb,0,none⟩=some c.tv/\Reads iZ w c.tv c.l/\c.l.length<=100000:=
 ⟨h.cell 0 _ rfl,h.gs.toks.1,h.gs.toks.2.2.1,h.gs.toks.2.2.2.2⟩
theorem PG.rws(h:PG w0 w c e p sv R):w.cell? ⟨c.pb,1,none⟩=some c.rv/\Reads encR w c.rv c.rs:=⟨h.cell 1 _ rfl,h.rows.below h.kE⟩
end
def iJ(w0 w:World)(c:Cx)(v:Value)(p:Ps.PS)(en:Ending)(w':World):Prop:=en=.returned v/\∃e sv R,PG w0 w' c e p sv R/\TF w w'
end
end Go.Proofs.YtfbiffdmhcjhbaaGreat

import Derived.Test.YtfbiffdmhcjhbaaZa09
import Derived.Test.YtfbiffdmhcjhbaaZa10
set_option linter.all false
set_option maxHeartbeats 16000000
set_option maxRecDepth 100000
namespace Go.Proofs.Ytfbiffdmhcjhbaa
open Go.RowKit Try
section
open Go.RowKit
open Sq
open Fl (Tk raw kd p9 cnt ends opens nL nR begins back blanks mG rO qi key props text)
theorem Vj(rb:Nat)(tv:Value)(e:Nat)(l:List Tk)(i:Nat)(w:World)(h:GT w rb tv e l)(hie:i<=e):
 Calls prog 99 #[RG rb,.int .i64 i] w λen w'=>en=.returned (.int .i64 (qi l e i:Nat))/\w=w':=by
 have hes:e<=100000:=qy h.ends h.size;obtain⟨T,hT⟩:=my (qi l e i);obtain⟨B,hB⟩:=my (rO l e (e-i) i 0);rw[hT];unfold qi at hT;rw[hB]at hT;have HB0:=eu hB;have HK:=eu (λj=>D9 rb tv e l j w h);have aa:=eu (fun(hj:B<=l.length)=>show Calls prog 92 #[RG rb,.int .i64 B,.int .i64 ((i:Int)+1)] w λen w'=>en=.returned (.int .i64 (T:Nat))/\w=w' from by have h1:=JH rb tv e l B (i+1) w h hj (by omega);rw[show((i+1:Nat):Int)=(i:Int)+1 from by omega,hT]at h1;exact h1);have ai:=eu (λk=>Fh k w);have aj:=eu (λk=>JG k w);have hend:=h.ends;obtain⟨N,hN⟩:=my (l.length);rw[hN]at hend;have HN:=eu hN;clear h hT hB hN
 go_enter func99,ntmps99
 go_wp2_with fail
 go_loopw [5,6] (λnv jv wr=>∃n j g:Nat,nv=.int .i64 n/\jv=.int .i64 j/\j<=e/\n<=j/\Hid (e<=g+j)/\Hid (rO l e g j n=B)/\w=wr) (λ_ jv _=>e-(intOf jv).toNat)
 case atStart=>exact⟨0,i,e-i,rfl,rfl,hie,nO _,eu (by omega),HB0,rfl⟩
 case round=>
  obtain⟨n,j,g,rfl,rfl,hj,av,HG,HB,rfl⟩:=hrel;have hk:=HK.out j;obtain⟨K,hK⟩:=my (kd l e j);rw[hK]at hk;have af:=eu hk;by_cases q0:K=0
  ·subst q0;have hb:=HB.out;rw[Fl.Jf l e g j n hK]at hb;subst hb;have ak:=eu (aa.out (by rw[HN.out];omega));clear hk hK HB HG HB0 av aa;go_wp2_with (first|(with_reducible refine af.out.mono ?_;rintro e w1 ⟨rfl,rfl⟩)|(with_reducible refine ak.out.mono ?_;rintro e w1 ⟨rfl,rfl⟩))
   go_ret;exact⟨rfl,rfl⟩
  have ax:=Fl.BZ (l:=l) (e:=e) (i:=j) (by rw[hK];exact q0);have hg1:=HG.out;obtain⟨g',rfl⟩:∃g',g=g'+1:=⟨g-1,by omega⟩
  have hb:=HB.out;rw[Fl.Bc,hK,fu q0]at hb;have gk:(0:Int)<(K:Int):=by omega
  have ho:=ai.out K;have hn:=aj.out K;have ah:=eu (show e<=g'+(j+1)by omega);by_cases q7:K=7
  ·have c1:opens K=false:=by rw[q7];rfl
   have c2:ends K=false:=by rw[q7];rfl
   have g7:((K:Int)==7)=true:=by simp;omega
   rw[c1]at ho;rw[c2]at hn;obtain⟨ag,ae⟩:=mR ho hn;by_cases c3:n=0
   ·subst c3;rw[gu ⟨rfl,.inl q7⟩]at hb;subst hb;have ak:=eu (aa.out (by rw[HN.out];omega));clear hk hK ho hn hg1 HG HB HB0 av aa ah HK ai aj c1 c2 q0 q7;go_wp2_with (first|(with_reducible refine af.out.mono ?_;rintro e w1 ⟨rfl,rfl⟩)|(with_reducible refine ak.out.mono ?_;rintro e w1 ⟨rfl,rfl⟩))
    go_ret;exact⟨rfl,rfl⟩
   rw[fu (λh=>c3 h.1),Fl.IL c1 c2]at hb;have HB2:=eu hb;have gn:((n:Int)==0)=false:=by simp;omega
   clear hk hK hb ho hn hg1 HG HB HB0 aa HK ai aj c1 c2 q0 c3 q7;go_wp2_with (first|(with_reducible refine af.out.mono ?_;rintro e w1 ⟨rfl,rfl⟩)|(with_reducible refine ag.out.mono ?_;rintro e w1 ⟨rfl,rfl⟩)|(with_reducible refine ae.out.mono ?_;rintro e w1 ⟨rfl,rfl⟩))
   go_roundw
   case rel=>exact⟨n,j+1,g',by go_num,by go_num,by omega,by omega,ah,HB2,trivial⟩
   case measure=>simp[intOf];omega
  have g7:((K:Int)==7)=false:=by simp;omega
  cases c1:opens K with
  |true=>
   have c2:=Fl.Gx c1;rw[c1]at ho;rw[c2]at hn;rw[fu (λh=>h.2.elim q7 (by rw[c2];decide)),Fl.Oo c1]at hb;obtain⟨ag,ae,HB2⟩:=nY ho hn hb;clear hk hK hb ho hn c1 c2 hg1 HG HB HB0 q0 HK aa ai aj q7;by_cases c3:n=0
   ·subst c3;go_wp2_with (first|(with_reducible refine af.out.mono ?_;rintro e w1 ⟨rfl,rfl⟩)|(with_reducible refine ag.out.mono ?_;rintro e w1 ⟨rfl,rfl⟩)|(with_reducible refine ae.out.mono ?_;rintro e w1 ⟨rfl,rfl⟩))
    go_roundw
    case rel=>exact⟨0+1,j+1,g',by go_num,by go_num,by omega,by omega,ah,HB2,trivial⟩
    case measure=>simp[intOf];omega
   have gn:((n:Int)==0)=false:=by simp;omega
   go_wp2_with (first|(with_reducible refine af.out.mono ?_;rintro e w1 ⟨rfl,rfl⟩)|(with_reducible refine ag.out.mono ?_;rintro e w1 ⟨rfl,rfl⟩)|(with_reducible refine ae.out.mono ?_;rintro e w1 ⟨rfl,rfl⟩))
   go_roundw
   case rel=>exact⟨n+1,j+1,g',by go_num,by go_num,by omega,by omega,ah,HB2,trivial⟩
   case measure=>simp[intOf];omega
  |false=>
   rw[c1]at ho;cases c2:ends K with
   |true=>
    rw[c2]at hn;obtain⟨ag,ae⟩:=mR ho hn;by_cases c3:n=0
    ·subst c3;rw[gu ⟨rfl,.inr c2⟩]at hb;subst hb;have ak:=eu (aa.out (by rw[HN.out];omega));clear hk hK ho hn c1 c2 hg1 HG HB HB0 q0 HK aa ai aj av ah q7;go_wp2_with (first|(with_reducible refine af.out.mono ?_;rintro e w1 ⟨rfl,rfl⟩)|(with_reducible refine ae.out.mono ?_;rintro e w1 ⟨rfl,rfl⟩)|(with_reducible refine ak.out.mono ?_;rintro e w1 ⟨rfl,rfl⟩))
     go_ret;exact⟨rfl,rfl⟩
    obtain⟨m,rfl⟩:∃m,n=m+1:=⟨n-1,by omega⟩
    rw[fu (λh=>c3 h.1),Fl.Oq c1 c2,si]at hb;have HB2:=eu hb;have gw:IntKind.i64.wrap (((m+1:Nat):Int)-1)=(m:Int):=by
     rw[show((m+1:Nat):Int)-1=(m:Int)by omega];exact qA _ (by omega)
    have gn:(((m+1:Nat):Int)==0)=false:=by simp;omega
    clear hk hK hb ho hn c1 c2 hg1 HG HB HB0 q0 HK aa ai aj c3 q7;go_wp2_with (first|(with_reducible refine af.out.mono ?_;rintro e w1 ⟨rfl,rfl⟩)|(with_reducible refine ag.out.mono ?_;rintro e w1 ⟨rfl,rfl⟩)|(with_reducible refine ae.out.mono ?_;rintro e w1 ⟨rfl,rfl⟩))
    go_roundw
    case rel=>exact⟨m,j+1,g',by go_num,by go_num,by omega,by omega,ah,HB2,trivial⟩
    case measure=>simp[intOf];omega
   |false=>
    rw[c2]at hn;rw[fu (λh=>h.2.elim q7 (by rw[c2];decide)),Fl.IL c1 c2]at hb;obtain⟨ag,ae,HB2⟩:=nY ho hn hb;clear hk hK hb ho hn c1 c2 hg1 HG HB HB0 q0 HK aa ai aj q7;by_cases c3:n=0
    ·subst c3;go_wp2_with (first|(with_reducible refine af.out.mono ?_;rintro e w1 ⟨rfl,rfl⟩)|(with_reducible refine ag.out.mono ?_;rintro e w1 ⟨rfl,rfl⟩)|(with_reducible refine ae.out.mono ?_;rintro e w1 ⟨rfl,rfl⟩))
     go_roundw
     case rel=>exact⟨0,j+1,g',by go_num,by go_num,by omega,by omega,ah,HB2,trivial⟩
     case measure=>simp[intOf];omega
    have gn:((n:Int)==0)=false:=by simp;omega
    go_wp2_with (first|(with_reducible refine af.out.mono ?_;rintro e w1 ⟨rfl,rfl⟩)|(with_reducible refine ag.out.mono ?_;rintro e w1 ⟨rfl,rfl⟩)|(with_reducible refine ae.out.mono ?_;rintro e w1 ⟨rfl,rfl⟩))
    go_roundw
    case rel=>exact⟨n,j+1,g',by go_num,by go_num,by omega,by omega,ah,HB2,trivial⟩
    case measure=>simp[intOf];omega
end
section
open Go.RowKit
open Sq
open Fl (Tk raw kd p9 cnt ends opens nL nR begins back blanks mG rO qi key props text oZ)
namespace Fl
def Lt(l:List Tk)(e a:Nat):Nat:=if nL (kd l e a)=true then mG l e (a+1)else a
def DV(l:List Tk)(e b:Nat):Nat:=if kd l e b=6 then b+1 else 0
theorem Vk(l:List Tk)(e i:Nat):key l e i=DV l e (Lt l e (props l e (e-i) i)):=rfl
theorem x9{k:Nat}:nR k=(k==12||k==14):=rfl
end Fl
theorem Ox(rb:Nat)(tv:Value)(e:Nat)(l:List Tk)(i:Nat)(w:World)(h:GT w rb tv e l)(hie:i<=e):
 Calls prog 100 #[RG rb,.int .i64 i] w λen w'=>en=.returned (.int .i64 (key l e i:Nat))/\w=w':=by
 have hes:e<=100000:=qy h.ends h.size;rw[Fl.Vk];obtain⟨A,hA⟩:=my (props l e (e-i) i);rw[hA];obtain⟨T,hT⟩:=my (Fl.DV l e (Fl.Lt l e A));rw[hT];obtain⟨HT,af⟩:=mR hT hA;have HK:=eu (λj=>D9 rb tv e l j w h);have HS:=eu (λk=>NQ k w);have ae:=eu (λj (hj:j<=e)=>show Calls prog 98 #[RG rb,.int .i64 ((j:Int)+1)] w λen w'=>en=.returned (.int .i64 (mG l e (j+1):Nat))/\w=w' from by have h1:=FE rb tv e l (j+1) w h (by omega);rw[show((j+1:Nat):Int)=(j:Int)+1 from by omega]at h1;exact h1);clear h hA hT
 go_enter func100,ntmps100
 go_wp2_with fail
 go_loopw [1] (λjv wr=>∃j g:Nat,jv=.int .i64 j/\j<=e/\Hid (e<=g+j)/\Hid (props l e g j=A)/\w=wr) (λjv _=>e-(intOf jv).toNat)
 case atStart=>exact⟨i,e-i,rfl,hie,eu (by omega),af,rfl⟩
 case round=>
  obtain⟨j,g,rfl,hj,HG,HA,rfl⟩:=hrel;have hk:=HK.out j;obtain⟨K,hK⟩:=my (kd l e j);rw[hK]at hk;have ag:=eu hk;cases c:nR K with
  |true=>
   have ak:=Fl.BZ (l:=l) (e:=e) (i:=j) (by rw[hK];intro h0;rw[h0]at c;exact absurd c (by decide));have hg1:=HG.out;obtain⟨g',rfl⟩:∃g',g=g'+1:=⟨g-1,by omega⟩
   have ha:=HA.out;rw[Fl.C9,hK,gu c]at ha;have hin:=oZ (l:=l) (e:=e) (i:=j+1) (by omega);have ht:=ae.out j hj;obtain⟨X,hX⟩:=my (mG l e (j+1));rw[hX]at ha hin ht;obtain⟨HA2,ah⟩:=mR ha ht;have ai:=eu (show e<=g'+X by omega);by_cases q:K=12
   ·have g1:((K:Int)==12)=true:=by simp;omega
    clear hk hK c hg1 HG HA af ha ht hX q HK HS ae;go_wp2_with (first|(with_reducible refine ag.out.mono ?_;rintro e w1 ⟨rfl,rfl⟩)|(with_reducible refine ah.out.mono ?_;rintro e w1 ⟨rfl,rfl⟩))
    go_roundw
    case rel=>exact⟨X,g',rfl,by omega,ai,HA2,trivial⟩
    case measure=>simp[intOf];omega
   have q2:K=14:=by rw[Fl.x9]at c;simp at c;omega
   have g1:((K:Int)==12)=false:=by simp;omega
   have g2:((K:Int)==14)=true:=by simp;omega
   clear hk hK c hg1 HG HA af ha ht hX q q2 HK HS ae;go_wp2_with (first|(with_reducible refine ag.out.mono ?_;rintro e w1 ⟨rfl,rfl⟩)|(with_reducible refine ah.out.mono ?_;rintro e w1 ⟨rfl,rfl⟩))
   go_roundw
   case rel=>exact⟨X,g',rfl,by omega,ai,HA2,trivial⟩
   case measure=>simp[intOf];omega
  |false=>
   have ha:=HA.out;rw[Fl.LX l e g j (by rw[hK];exact c)]at ha;subst ha;have g1:((K:Int)==12)=false:=by rw[Fl.x9]at c;simp at c⊢;omega
   have g2:((K:Int)==14)=false:=by rw[Fl.x9]at c;simp at c⊢;omega
   have hs:=HS.out K;cases c2:nL K with
   |true=>
    rw[c2]at hs;have ak:=Fl.BZ (l:=l) (e:=e) (i:=j) (by rw[hK];intro h0;rw[h0]at c2;exact absurd c2 (by decide));have ht:=ae.out j hj;have hb:Fl.Lt l e j=mG l e (j+1):=by unfold Fl.Lt;rw[hK,gu c2]
    have hin:=oZ (l:=l) (e:=e) (i:=j+1) (by omega);obtain⟨X,hX⟩:=my (mG l e (j+1));rw[hX]at ht hin hb;have hk2:=HK.out X;obtain⟨HSc,ah⟩:=mR hs ht;obtain⟨K2,hK2⟩:=my (kd l e X);rw[hK2]at hk2;have aj:=eu hk2;by_cases q:K2=6
    ·have g3:((K2:Int)==6)=true:=by simp;omega
     have hr:Fl.DV l e X=X+1:=by unfold Fl.DV;rw[hK2,gu q]
     have aa:=HT.out;rw[hb,hr]at aa;subst aa;clear hk hK c c2 HG HA af hs ht hb hX hk2 hK2 q HK HS ae hr HT;go_wp2_with (first|(with_reducible refine ag.out.mono ?_;rintro e w1 ⟨rfl,rfl⟩)|(with_reducible refine HSc.out.mono ?_;rintro e w1 ⟨rfl,rfl⟩)|(with_reducible refine ah.out.mono ?_;rintro e w1 ⟨rfl,rfl⟩)|(with_reducible refine aj.out.mono ?_;rintro e w1 ⟨rfl,rfl⟩))
     go_ret;exact⟨by go_num,rfl⟩
    have g3:((K2:Int)==6)=false:=by simp;omega
    have hr:Fl.DV l e X=0:=by unfold Fl.DV;rw[hK2,fu q]
    have aa:=HT.out;rw[hb,hr]at aa;subst aa;clear hk hK c c2 HG HA af hs ht hb hX hk2 hK2 q HK HS ae hr HT;go_wp2_with (first|(with_reducible refine ag.out.mono ?_;rintro e w1 ⟨rfl,rfl⟩)|(with_reducible refine HSc.out.mono ?_;rintro e w1 ⟨rfl,rfl⟩)|(with_reducible refine ah.out.mono ?_;rintro e w1 ⟨rfl,rfl⟩)|(with_reducible refine aj.out.mono ?_;rintro e w1 ⟨rfl,rfl⟩))
    go_ret;exact⟨rfl,rfl⟩
   |false=>
    rw[c2]at hs;have hb:Fl.Lt l e j=j:=by unfold Fl.Lt;rw[hK,fu (by rw[c2];decide)]
    have HSc:=eu hs;by_cases q:K=6
    ·have g3:((K:Int)==6)=true:=by simp;omega
     have hr:Fl.DV l e j=j+1:=by unfold Fl.DV;rw[hK,gu q]
     have aa:=HT.out;rw[hb,hr]at aa;subst aa;clear hk hK c c2 HG HA af hs hb q HK HS ae hr HT;go_wp2_with (first|(with_reducible refine ag.out.mono ?_;rintro e w1 ⟨rfl,rfl⟩)|(with_reducible refine HSc.out.mono ?_;rintro e w1 ⟨rfl,rfl⟩))
     go_ret;exact⟨by go_num,rfl⟩
    have g3:((K:Int)==6)=false:=by simp;omega
    have hr:Fl.DV l e j=0:=by unfold Fl.DV;rw[hK,fu q]
    have aa:=HT.out;rw[hb,hr]at aa;subst aa;clear hk hK c c2 HG HA af hs hb q HK HS ae hr HT;go_wp2_with (first|(with_reducible refine ag.out.mono ?_;rintro e w1 ⟨rfl,rfl⟩)|(with_reducible refine HSc.out.mono ?_;rintro e w1 ⟨rfl,rfl⟩))
    go_ret;exact⟨rfl,rfl⟩
theorem Uc(rb:Nat)(tv:Value)(e:Nat)(l:List Tk)(i:Nat)(w:World)(h:GT w rb tv e l)(hie:i<e):
 Calls prog 88 #[RG rb,.int .i64 i] w λen w'=>en=.returned (.int .i64 (text l e i:Nat))/\w=w':=by
 obtain⟨c0,c3,hr,he,hs⟩:=h;obtain⟨a,cap,rfl⟩:=hr.shape;obtain⟨P,hP⟩:∃P:Nat->Bool,(λj=>!cnt (raw l j)&&raw l j !=1)=P:=⟨_,rfl⟩
 obtain⟨P2,hP2⟩:∃P2:Nat->Bool,(λj=>raw l j==19)=P2:=⟨_,rfl⟩
 have HX:=eu (λi (x:Tk)(hi:l[i]?=some x)=>show(!cnt x.1&&x.1 !=1)=P i by rw[<-hP];show _=(!cnt (raw l i)&&raw l i !=1);rw[Fl.rP hi]);have af:=eu (λi (x:Tk)(hi:l[i]?=some x)=>show(x.1==19)=P2 i by rw[<-hP2];show _=(raw l i==19);rw[Fl.rP hi]);have HR:=eu (λi (x:Tk)(hi:l[i]?=some x)=>Fl.rP hi);have H:=eu (λj x (hj:l[j]?=some x)=>o8 hr j x hj);have HC:=eu (λk=>Rt k w);obtain⟨J,hJ⟩:=my (p9 P (e-(i+1)) (i+1));obtain⟨T,hT⟩:=my (text l e i);rw[hT];have ht:(if e<=J\/raw l J≠1\/e<=J+1\/raw l (J+1)≠19 then i+1 else p9 P2 (e-(J+1)) (J+1))=T:=by
  rw[<-hT,<-hJ,<-hP,<-hP2];rfl
 obtain⟨HT,HJ⟩:=mR ht hJ;obtain⟨N,hN⟩:=my (l.length);have HN:=eu hN;rw[hN]at hs c0 he;clear hr hN hT hP hP2 hJ ht
 go_enter func88,ntmps88
 go_wp2_with fail
 go_loopw [5] (λiv wr=>∃k:Nat,iv=.int .i64 k/\k<=e/\Hid (p9 P (e-k) k=J)/\w=wr) (λiv _=>e-(intOf iv).toNat)
 case atStart=>exact⟨i+1,by go_num,by omega,HJ,rfl⟩
 case round=>
  obtain⟨k,rfl,hk,ae,rfl⟩:=hrel;by_cases hlt:k<e
  ·obtain⟨x,hx⟩:=pG l k (by rw[HN.out];omega);have aa:=HX.out k x hx;have ag:=HR.out k x hx;obtain⟨b,off,rfl,t0,-,-⟩:=H.out k x hx;have hst:=Fl.rZ P e k hlt;obtain⟨K,hK⟩:=my (x.1);rw[hK]at t0 aa ag;have hcl:=HC.out K;have gp:(k:Int)<(e:Int):=by omega
   have gq:¬((e:Int)<=(k:Int)):=by omega
   have gi:(k:Int)<(N:Int):=by omega
   by_cases q1:K=1
   ·have c1:cnt K=false:=by rw[q1];rfl
    rw[c1]at hcl aa;have ai:P k=false:=by rw[<-aa,q1];rfl
    rw[fu (by rw[ai];decide)]at hst;obtain rfl:J=k:=by rw[<-ae.out];exact hst
    have ah:=eu hcl;have g1:((K:Int) !=1)=false:=by simp;omega
    by_cases q2:e<=J+1
    ·have ht:=HT.out;rw[gu (.inr (.inr (.inl q2)))]at ht;subst ht;have g2:(e:Int)<=(J:Int)+1:=by omega
     clear hcl hst hx hK HX af HR H HC ae HT HJ aa ag c1 ai q1 q2 hlt;go_wp2_with (with_reducible refine ah.out.mono ?_;rintro e w1 ⟨rfl,rfl⟩)
     go_ret;exact⟨by go_num,rfl⟩
    obtain⟨y,hy⟩:=pG l (J+1) (by rw[HN.out];omega);obtain⟨b',off',he2,s0,-,-⟩:=H.out (J+1) y hy;injection he2 with he2
    injection he2 with e1 e2
    subst e1 e2;have aj:=HR.out (J+1) y hy;obtain⟨Y,hY⟩:=my (y.1);rw[hY]at s0 aj;have g2:¬((e:Int)<=(J:Int)+1):=by omega
    have av:(J:Int)+1<(N:Int):=by omega
    by_cases q3:Y=19
    ·have ht:=HT.out;rw[fu (by rw[ag,aj];omega)]at ht;have HT2:=eu ht;have g3:((Y:Int) !=19)=false:=by simp;omega
     have ak:=eu HN.out;clear hcl hst hx hK HX HR HC ae HT HJ aa ag c1 ai q1 q3 hlt hy hY aj ht;go_wp2_with (with_reducible refine ah.out.mono ?_;rintro e w1 ⟨rfl,rfl⟩)
     clear ah g1 g3 g2 gp gq gi av t0 s0
     go_loopw [5] (λiv wr=>∃k:Nat,iv=.int .i64 k/\k<=e/\Hid (p9 P2 (e-k) k=T)/\w=wr) (λiv _=>e-(intOf iv).toNat)
     case atStart=>exact⟨J+1,by go_num,by omega,HT2,rfl⟩
     case round=>
      obtain⟨m,rfl,hm,HM,rfl⟩:=hrel;by_cases hlt:m<e
      ·obtain⟨x,hx⟩:=pG l m (by rw[ak.out];omega);have aa:=af.out m x hx;obtain⟨b',off',he2,t0,-,-⟩:=H.out m x hx;injection he2 with he2
       injection he2 with e1 e2
       subst e1 e2;have hst:=Fl.rZ P2 e m hlt;obtain⟨K2,hK⟩:=my (x.1);rw[hK]at t0 aa;have gp:(m:Int)<(e:Int):=by omega
       have gi:(m:Int)<(N:Int):=by omega
       by_cases q:K2=19
       ·have q0:P2 m=true:=by rw[<-aa,q];rfl
        rw[gu q0]at hst;have ax:=eu (show p9 P2 (e-(m+1)) (m+1)=T by rw[<-HM.out];exact hst.symm);have g1:((K2:Int)==19)=true:=by simp;omega
        clear hst hx hK q q0 H af HM HT2 aa ak;go_wp2_with fail
        go_roundw
        case rel=>exact⟨m+1,by go_num,by omega,ax,trivial⟩
        case measure=>simp[intOf];omega
       have q0:P2 m=false:=by rw[<-aa];simpa using q
       rw[fu (by rw[q0];decide)]at hst;obtain rfl:T=m:=by rw[<-HM.out];exact hst
       have g1:((K2:Int)==19)=false:=by simp;omega
       clear hst hx hK q q0 H af HM HT2 aa ak;go_wp2_with fail
       go_ret;exact⟨rfl,rfl⟩
      have hst:=Fl.tL P2 e m (by omega);obtain rfl:T=m:=by rw[<-HM.out];exact hst
      have gp:¬(T:Int)<(e:Int):=by omega
      clear H af HM HT2 hlt hst ak;go_wp2_with fail
      go_ret;exact⟨rfl,rfl⟩
    have ht:=HT.out;rw[gu (.inr (.inr (.inr (by rw[aj];exact q3))))]at ht;subst ht;have g3:((Y:Int) !=19)=true:=by simp;omega
    clear hcl hst hx hK HX af HR H HC ae HT HJ aa ag c1 ai q1 q2 q3 hlt hy hY aj;go_wp2_with (with_reducible refine ah.out.mono ?_;rintro e w1 ⟨rfl,rfl⟩)
    go_ret;exact⟨by go_num,rfl⟩
   have g1:((K:Int) !=1)=true:=by simp;omega
   cases c1:cnt K with
   |false=>
    rw[c1]at hcl aa;have hpt:P k=true:=by rw[<-aa];simpa using q1
    rw[gu hpt]at hst;have ay:=eu (show p9 P (e-(k+1)) (k+1)=J by rw[<-ae.out];exact hst.symm);have ah:=eu hcl;clear hcl hst hx hK HX af HR H HC ae HT HJ aa ag c1 hpt q1;go_wp2_with (with_reducible refine ah.out.mono ?_;rintro e w1 ⟨rfl,rfl⟩)
    go_roundw
    case rel=>exact⟨k+1,by go_num,by omega,ay,trivial⟩
    case measure=>simp[intOf];omega
   |true=>
    rw[c1]at hcl aa;have ai:P k=false:=by rw[<-aa];rfl
    rw[fu (by rw[ai];decide)]at hst;obtain rfl:J=k:=by rw[<-ae.out];exact hst
    have ht:=HT.out;rw[gu (.inr (.inl (by rw[ag];exact q1)))]at ht;subst ht;have ah:=eu hcl;clear hcl hst hx hK HX af HR H HC ae HT HJ aa ag c1 ai q1;go_wp2_with (with_reducible refine ah.out.mono ?_;rintro e w1 ⟨rfl,rfl⟩)
    go_ret;exact⟨by go_num,rfl⟩
  have hst:=Fl.tL P e k (by omega);obtain rfl:J=k:=by rw[<-ae.out];exact hst
  have ht:=HT.out;rw[gu (.inl (by omega))]at ht;subst ht;have gp:¬(J:Int)<(e:Int):=by omega
  have gq:(e:Int)<=(J:Int):=by omega
  clear H HX af HR ae HT HJ hlt hst HC;go_wp2_with fail
  go_ret;exact⟨by go_num,rfl⟩
end
section
open Go.RowKit
open Sq
open Ar
open Fl (Tk raw kd p9 cnt ends opens nL nR begins back blanks mG nD wG pair)
theorem qp.of{t:List Nd}{n:Int}(h:Ck t n)(hn:t.length<=800000000000):qp t:=⟨h.good,hn,λx hx=>qy (Ft.Gy h x hx) hn⟩
theorem Fq{t r:List Nd}{up k f u:Int}(h:addN t up k f u=(r,(t.length:Int))):oV t up k f u=true:=by
 unfold addN at h;by_cases hm:oV t up k f u=true
 ·exact hm
 rw[fu hm]at h;have:=congrArg Prod.snd h;dsimp only at this;omega
theorem GD{t:List Nd}{n:Int}{i:Nat}{u:Int}(h:Ck t n)(hi:i<t.length)(hu:u<=n):rq t i u=true:=by
 unfold rq;rw[h.firstT];simp;omega
namespace Fl
def qI(l:List Tk)(j n:Nat):Nat:=if(List.range n).any (λx=>raw l (j+x)==13)=true then 8 else 7
theorem Ji(l:List Tk)(j n:Nat):qI l j (n+1)=if raw l (j+n)=13 then 8 else qI l j n:=by
 unfold qI;rw[Uy,List.any_append,List.any_cons,List.any_nil,Um];by_cases h:raw l (j+n)=13
 ·rw[gu h,show(raw l (j+n)==13)=true by simpa using h,Bool.or_true,gu rfl]
 rw[fu h,show(raw l (j+n)==13)=false by simpa using h,Um]
end Fl
theorem Ud(w0 w:World)(rb:Nat)(tv:Value)(e:Nat)(l:List Tk)(s:Fl.St)(R:Nat->Prop)(c j q:Nat)(b:Int)(hS:GS w0 w rb tv e l s R)(hck:Ck s.t l.length)(hf:Fits s.t j b c)(hlf:Fe.Lf s.t)(hno:Fe.No s.t c)(hjq:j<q)(hq:q<=l.length)(hn:s.t.length<=700000000000):
 Calls prog 84 #[RG rb,.int .i64 c,.int .i64 j,.int .i64 q] w (nE w0 w rb tv e l R (.int .i64 (s.t.length:Int)) (pair l s c j q).1):=by
 obtain⟨s1,a1,_,a3,⟨x,a4,a5⟩,a6⟩:=Fe.pQ (kind:=6) (Fe.Ok.start (l:=l) (p0:=j) hck hf hlf hno) (f:=j) (t:=q) (by omega) (by omega) (by omega) (by omega) (by omega);have a1:Fl.add s c 6 j q=(s1,(s.t.length:Int)):=a1;have hadd:addN s.t c 6 j q=(s1.t,(s.t.length:Int)):=by
  have e1:=congrArg (λx=>x.1.t) a1;have e2:=congrArg Prod.snd a1;exact Prod.ext e1 e2
 have ah:s1.d=s.d:=by have e1:=congrArg (λx=>x.1.d) a1;exact e1.symm
 have hA:=NF w0 w rb tv e l s R c 6 j q hS (qp.of hck (by omega)) (Fq hadd);rw[hadd]at hA;dsimp only at hA;rw[<-ah]at hA;have hlen1:s1.t.length<=s.t.length+1:=by have h:=Fe.tK s.t c 6 j q;rw[hadd]at h;exact h
 have ae:(pair l s c j q).1=if q-j<2 then s1 else(⟨Fl.keyed (Fl.add s1 s.t.length (Fl.qI l j (q-j)) j (back l (q-1) (j+1))).1.t s.t.length,(Fl.add s1 s.t.length (Fl.qI l j (q-j)) j (back l (q-1) (j+1))).1.d⟩:Fl.St):=by
  unfold pair;dsimp only;rw[a1];dsimp only;split
  ·rfl
  rfl
 rw[ae];have aI:q<=100000:=qy hq hS.gt.size;obtain⟨M,hM⟩:=my (s.t.length);rw[hM]at hA hlen1 a3⊢;have HA:=eu hA;by_cases c1:q-j<2
 ·rw[gu c1];have g1:(q:Int)-(j:Int)<2:=by omega
  have HQ:=eu (λW R' (h:GS w0 W rb tv e l ⟨s1.t,s1.d⟩ R')(h2:FP w W rb R R')=>show nE w0 w rb tv e l R (.int .i64 (M:Int)) s1 (.returned (.int .i64 (M:Int))) W from⟨rfl,R',h,h2⟩);obtain⟨Q,hQ⟩:=my (nE w0 w rb tv e l R (.int .i64 (M:Int)) s1);rw[hQ]at HQ⊢;clear hA a1 a3 a4 a5 a6 hadd ah ae hM hck hf hlf hno hS c1 hQ
  go_enter func84,ntmps84
  go_wp2_with fail
  refine HA.out.mono ?_;rintro e1 w1 ⟨rfl,R1,hS1,hF1⟩;have HD:=eu (HQ.out w1 R1 hS1 hF1);clear hS1 hF1 HA HQ;go_wp2_with fail
  exact HD.out
 rw[fu c1];have g1:¬((q:Int)-(j:Int)<2):=by omega
 have b1:=nD l (q-1) (j+1);have b2:=wG l (q-1) (j+1) (by omega);obtain⟨B,hB⟩:=my (back l (q-1) (j+1));rw[hB]at b1 b2⊢;obtain⟨K,hK⟩:=my (Fl.qI l j (q-j));have hk1:1<=K/\K<=10:=by rw[<-hK];unfold Fl.qI;split<;>omega
 rw[hK];obtain⟨s2,d1,d2,_⟩:=Fe.pQ (kind:=K) (Fe.Ok.start (l:=l) (p0:=j) a3.ck a3.fits a3.lf a3.no) (f:=j) (t:=B) (by omega) (by omega) (by omega) hk1.1 hk1.2;have aa:addN s1.t M K j B=(s2.t,(s1.t.length:Int)):=by
  have e1:=congrArg (λx=>x.1.t) d1;have e2:=congrArg Prod.snd d1;exact Prod.ext e1 e2
 have az:s2.d=s1.d:=by have e1:=congrArg (λx=>x.1.d) d1;exact e1.symm
 have aA:s2.t.length<=s1.t.length+1:=by have h:=Fe.tK s1.t M K j B;rw[aa]at h;exact h
 have hM2:M<s2.t.length:=by
  have:=d2.keep.1;have h3:=a3.fits.lt;omega
 rw[d1];dsimp only
 have HA2:=eu (λw1 R1 (h:GS w0 w1 rb tv e l s1 R1)=>show Calls prog 65 #[RG rb,.int .i64 M,.int .i64 K,.int .i64 j,.int .i64 B] w1 (nE w0 w1 rb tv e l R1 (.int .i64 (s1.t.length:Int)) s2)from by
  have h1:=NF w0 w1 rb tv e l s1 R1 M K j B h (qp.of a3.ck (by omega)) (Fq aa);rw[aa]at h1;dsimp only at h1;rw[<-az]at h1
  exact h1)
 have ai:=eu (λw1 R1 (h:GS w0 w1 rb tv e l s2 R1)=>Om w0 w1 rb tv e l s2 R1 M h hM2 (by omega))
 have aj:=eu (λw1 R1 (h:GS w0 w1 rb tv e l s1 R1)=>show Calls prog 92 #[RG rb,.int .i64 ((q:Int)-1),.int .i64 ((j:Int)+1)] w1 λen w'=>en=.returned (.int .i64 (B:Nat))/\w1=w' from by
  have h1:=JH rb tv e l (q-1) (j+1) w1 h.gt (by omega) (by omega);rw[hB,show((q-1:Nat):Int)=(q:Int)-1 from by omega,show((j+1:Nat):Int)=(j:Int)+1 from by omega]at h1
  exact h1)
 have ak:=eu (λn=>Fl.Ji l j n);have HK:=eu hK;have av:=eu (show Fl.qI l j 0=7 from rfl);have ax:=eu (λi (x:Tk)(hi:l[i]?=some x)=>Fl.rP hi);have HQ:=eu (λW w1 w2 R1 R2 R3 (h1:FP w w1 rb R R1)(h2:FP w1 w2 rb R1 R2)(h3:FP w2 W rb R2 R3)(h:GS w0 W rb tv e l ⟨Fl.keyed s2.t M,s2.d⟩ R3)=>show nE w0 w rb tv e l R (.int .i64 (M:Int)) ⟨Fl.keyed s2.t M,s2.d⟩ (.returned (.int .i64 (M:Int))) W from⟨rfl,R3,h,(h1.trans h2).trans h3⟩);obtain⟨Q,hQ⟩:=my (nE w0 w rb tv e l R (.int .i64 (M:Int)) ⟨Fl.keyed s2.t M,s2.d⟩);rw[hQ]at HQ⊢;clear hA a1 a3 a4 a5 a6 hadd ah ae hM hck hf hlf hno hS c1 hQ d1 d2 aa az hB hK hlen1 aA hM2 b1 b2
 go_enter func84,ntmps84
 go_wp2_with fail
 refine HA.out.mono ?_;rintro e1 w1 ⟨rfl,R1,hS1,hF1⟩;have af:=eu (show GS w0 w1 rb tv e l s1 R1 from hS1);have aG:=eu hF1;obtain⟨c0,_,hr,_,_⟩:=af.out.gt;obtain⟨ta,tc,rfl⟩:=hr.shape;have H:=eu (λj x (hj:l[j]?=some x)=>o8 hr j x hj);obtain⟨N,hN⟩:=my (l.length);have HN:=eu hN;rw[hN]at hq c0;have HS2:=eu (show GS w0 w1 rb (.slice ta l.length tc) e l s1 R1 from af.out);clear hS1 hF1 hr hN HA;go_wp2_with fail
 go_loopw [10,11] (λkv iv wr=>∃i:Nat,iv=.int .i64 i/\j<=i/\i<=q/\kv=.int .i64 (Fl.qI l j (i-j):Nat)/\w1=wr) (λ_ iv _=>q-(intOf iv).toNat)
 case atStart=>exact⟨j,rfl,mJ _,by omega,by rw[DL,av.out];rfl,rfl⟩
 case round=>
  obtain⟨i,rfl,hi1,hi2,rfl,rfl⟩:=hrel;obtain⟨K0,ag⟩:=my (Fl.qI l j (i-j));rw[ag];by_cases hlt:i<q
  ·obtain⟨x,hx⟩:=pG l i (by rw[HN.out];omega);have ay:=ax.out i x hx;obtain⟨bb,off,rfl,t0,-,-⟩:=H.out i x hx;have hst:=ak.out (i-j);rw[show j+(i-j)=i by omega,ag]at hst;obtain⟨X,hX⟩:=my (x.1);rw[hX]at t0 ay;rw[ay]at hst;have gi:(i:Int)<(q:Int):=by omega
   have gn:(i:Int)<(N:Int):=by omega
   by_cases q1:X=13
   ·rw[gu q1]at hst;have g2:((X:Int)==13)=true:=by simp;omega
    have aB:=eu (show Fl.qI l j (i+1-j)=8 by rw[show i+1-j=i-j+1 by omega];exact hst);clear hst hx ay hX q1 ag ak HK av ax H HQ aj HA2 ai af HS2;go_wp2_with fail
    go_roundw
    case rel=>exact⟨i+1,by go_num,by omega,by omega,by rw[aB.out];rfl,trivial⟩
    case measure=>simp[intOf];omega
   rw[fu q1]at hst;have g2:((X:Int)==13)=false:=by simp;omega
   have aB:=eu (show Fl.qI l j (i+1-j)=K0 by rw[show i+1-j=i-j+1 by omega];exact hst);clear hst hx ay hX q1 ag ak HK av ax H HQ aj HA2 ai af HS2;go_wp2_with fail
   go_roundw
   case rel=>exact⟨i+1,by go_num,by omega,by omega,by rw[aB.out],trivial⟩
   case measure=>simp[intOf];omega
  obtain rfl:i=q:=by omega
  rw[HK.out]at ag;subst ag;have gi:¬((i:Int)<(i:Int)):=by omega
  obtain⟨HB1,HA1⟩:=mR (aj.out w1 R1 af.out) (HA2.out w1 R1 af.out);have gw:IntKind.i64.wrap ((i:Int)-1)=(i:Int)-1:=qA _ (by omega);clear ak HK av ax H aj HA2 af HS2 hlt;go_wp2_with fail
  with_reducible refine HB1.out.mono ?_
  rintro e2 w2 ⟨rfl,rfl⟩;go_wp2_with fail
  refine HA1.out.mono ?_;rintro e2 w2 ⟨rfl,R2,hS2,hF2⟩;obtain⟨aC,aH⟩:=mR (ai.out w2 R2 hS2) hF2;clear hS2 hF2 HA1 HB1 ai;go_wp2_with fail
  refine aC.out.mono ?_;rintro e3 w3 ⟨rfl,R3,aD,aF⟩;have HD:=eu (HQ.out w3 w1 w2 R1 R2 R3 aG.out aH.out aF aD);clear aD aF aC HQ;go_wp2_with fail
  exact HD.out
end
section
open Go.RowKit
open Sq
open Ar
open Fl (Tk raw kd p9 cnt ends opens nL nR begins back blanks mG pair item nM key wB oZ qR)
def VG(l:List Tk)(d:Nat):Prop:=∀(w0 w:World)(rb:Nat)(tv:Value)(e:Nat)(s:Fl.St)(R:Nat->Prop)(up p:Nat)(b:Int),GS w0 w rb tv e l s R->Ck s.t l.length->Fits s.t p b up->Fe.Lf s.t->Fe.No s.t up->b<=p+1->p<=e->
 s.t.length+2*(e-p)<=600000000000->s.d.length+(e-p)<=600000000000->
 Calls prog 78 #[RG rb,.int .i64 up,.int .i64 p,.int .i64 d] w (nE w0 w rb tv e l R (.tuple #[.int .i64 (nM l e d up p s).1,.int .i64 ((nM l e d up p s).2.1:Nat)]) (nM l e d up p s).2.2)
theorem GS.node{w0 w:World}{rb:Nat}{tv:Value}{e:Nat}{l:List Tk}{s:Fl.St}{R:Nat->Prop}(h:GS w0 w rb tv e l s R){c:Nat}{x:Nd}(hx:s.t[c]?=some x):
 ∃g cap,w.cell? ⟨rb,1,none⟩=some (.slice (some ⟨g,0,none⟩) s.t.length cap)/\w.cell? ⟨g,c*6,none⟩=some (.int .i64 x.k):=by
 obtain⟨nv,dv,L,hM,hL,rfl⟩:=h;have hLn:L.length=s.t.length:=by rw[<-hL,tV]
 have hc:=(nC.1 hx).1;obtain⟨p,hp⟩:=pG L c (by omega);have hpx:p.nd=x:=by
  have h1:s.t[c]?=some p.nd:=by rw[<-hL,r9,hp];rfl
  rw[hx]at h1;exact(qJ h1).symm
 obtain⟨g,cap,aa,-,-,-,-⟩:=pP hM.nodes.row (by omega);subst aa;refine⟨g,cap,hLn▸hM.cell 1 _ rfl,?_⟩;have:=hM.nodes.row.cells (g:=g) rfl _ _ ((qh uY L c p hp 0 (by decide)).trans rfl);rw[nX,qz,xh,hpx]at this;exact this
theorem WI(l:List Tk)(d:Nat)(HV:VG l d)(aP:d<=1000)(w0 w:World)(rb:Nat)(tv:Value)(e:Nat)(s:Fl.St)(R:Nat->Prop)(c j:Nat)(b:Int)(x:Nd)(hS:GS w0 w rb tv e l s R)(hck:Ck s.t l.length)(hf:Fits s.t j b c)(hlf:Fe.Lf s.t)(hno:Fe.No s.t c)(hb:b<=j)
 (hj:kd l e j≠0) (ai:0<key l e j\/begins (kd l e j)=true) (hx:s.t[c]?=some x) (hn:s.t.length+2*(e-j)+1<=600000000000) (hd:s.d.length+(e-j)<=600000000000):
 Calls prog 102 #[RG rb,.int .i64 c,.int .i64 j,.int .i64 ((d:Int)+1)] w (nE w0 w rb tv e l R (.int .i64 ((item l e (nM l e d) (x.k==10) c j s).1:Nat)) (item l e (nM l e d) (x.k==10) c j s).2):=by
 have az:=(qR hj).1;have hel:=hS.gt.ends;have hls:=hS.gt.size;have hkey:=Ox rb tv e l j w hS.gt (by omega);have gd:IntKind.i64.wrap ((d:Int)+1-1)=(d:Int):=by rw[show(d:Int)+1-1=(d:Int)by omega];exact qA _ (by omega)
 have aQ:IntKind.i64.wrap (d:Int)=(d:Int):=qA _ (by omega);by_cases hq:0<key l e j
 ·obtain⟨q1,q2,q3⟩:=wB (by omega) hq;have hI:item l e (nM l e d) (x.k==10) c j s=(if kd l e (mG l e (key l e j))=0\/kd l e (mG l e (key l e j))=7\/ends (kd l e (mG l e (key l e j)))=true then(key l e j,(pair l s c j (key l e j)).1)else if(nM l e d (pair l s c j (key l e j)).2 (mG l e (key l e j)) (pair l s c j (key l e j)).1).1<0 then(key l e j,(nM l e d (pair l s c j (key l e j)).2 (mG l e (key l e j)) (pair l s c j (key l e j)).1).2.2)else((nM l e d (pair l s c j (key l e j)).2 (mG l e (key l e j)) (pair l s c j (key l e j)).1).2.1,(nM l e d (pair l s c j (key l e j)).2 (mG l e (key l e j)) (pair l s c j (key l e j)).1).2.2)):=by
   unfold item;rw[gu hq]
  rw[hI];clear hI;obtain⟨q,aG⟩:=my (key l e j);rw[aG]at q1 q2 q3 hq hkey⊢;have hz:=Fe.uK l s c j q q1;have hP:=Ud w0 w rb tv e l s R c j q b hS hck hf hlf hno q1 (by omega) (by omega);obtain⟨s1,a1,a2,_,a5⟩:=Fe.Fz l e l.length (by omega) hck hf hlf hno (by omega) q1 q2;rw[a1]at hz hP⊢;dsimp only at hz hP⊢;have ht:=oZ (l:=l) (e:=e) (i:=q) q2;obtain⟨X,hX⟩:=my (mG l e q)
  have ag:=eu (λw1 R1 (h:GS w0 w1 rb tv e l s1 R1)=>show Calls prog 98 #[RG rb,.int .i64 q] w1 λen w'=>en=.returned (.int .i64 (X:Nat))/\w1=w' from by
   have h1:=FE rb tv e l q w1 h.gt (by omega);rw[hX]at h1
   exact h1)
  rw[hX]at ht⊢;obtain⟨K,hK⟩:=my (kd l e X)
  have ah:=eu (λw1 R1 (h:GS w0 w1 rb tv e l s1 R1)=>show Calls prog 87 #[RG rb,.int .i64 X] w1 λen w'=>en=.returned (.int .i64 (K:Nat))/\w1=w' from by
   have h1:=D9 rb tv e l X w1 h.gt;rw[hK]at h1
   exact h1)
  rw[hK];have aA:=eu (λw1=>JG K w1);obtain⟨M,hM⟩:=my (s.t.length);have hv:=HV;have aj:=eu (λw1 R1 (h:GS w0 w1 rb tv e l s1 R1)=>HV w0 w1 rb tv e s1 R1 s.t.length X q h a2.ck (a2.fits.le (by omega) (pW _)) a2.lf a2.no (by omega) ht.2 (by omega) (by rw[hz.2];omega));rw[hM]at hP aj⊢;obtain⟨aa,HP⟩:=mR hkey hP;by_cases stop:K=0\/K=7\/ends K=true
  ·rw[gu stop];have HQ:=eu (λW R' (h:GS w0 W rb tv e l s1 R')(h2:FP w W rb R R')=>show nE w0 w rb tv e l R (.int .i64 (q:Nat)) s1 (.returned (.int .i64 (q:Nat))) W from⟨rfl,R',h,h2⟩);obtain⟨Q,hQ⟩:=my (nE w0 w rb tv e l R (.int .i64 ((q,s1).1:Nat)) (q,s1).2);have aK:nE w0 w rb tv e l R (.int .i64 (q:Nat)) s1=Q:=hQ;rw[hQ];rw[aK]at HQ;have gq:(0:Int)<(q:Int):=by omega
   clear hQ aK hP hkey aj hv a1 a2 a5 hz hM hX hK aG hck hf hlf hno hS hb hj ai hx hn hd az hel HV;have main:∀(a:Bool),ends K=a->(K=0\/K=7\/a=true)->Calls prog 102 #[RG rb,.int .i64 c,.int .i64 j,.int .i64 ((d:Int)+1)] w Q:=by
    intro a ha stop;have HE:=eu (λw1=>show Calls prog 97 #[.int .i64 K] w1 λe w'=>e=.returned (.bool a)/\w1=w' from ha▸aA.out w1);clear aA ha;by_cases k0:K=0
    ·have g1:((K:Int)==0)=true:=by simp;omega
     clear stop k0
     go_enter func102,ntmps102
     go_wp2_with fail
     with_reducible refine aa.out.mono ?_
     rintro e1 w1 ⟨rfl,rfl⟩;go_wp2_with fail
     refine HP.out.mono ?_;rintro e1 w1 ⟨rfl,R1,hS1,hF1⟩;obtain⟨HT1,af,HD⟩:=nY (ag.out w1 R1 hS1) (ah.out w1 R1 hS1) (HQ.out w1 R1 hS1 hF1);clear hS1 hF1 ag ah HQ HP aa;go_wp2_with (first|(with_reducible refine HT1.out.mono ?_;rintro e w1 ⟨rfl,rfl⟩)|(with_reducible refine af.out.mono ?_;rintro e w1 ⟨rfl,rfl⟩))
     exact HD.out
    have g1:((K:Int)==0)=false:=by simp;omega
    by_cases k7:K=7
    ·have g2:((K:Int)==7)=true:=by simp;omega
     clear stop k0 k7
     go_enter func102,ntmps102
     go_wp2_with fail
     with_reducible refine aa.out.mono ?_
     rintro e1 w1 ⟨rfl,rfl⟩;go_wp2_with fail
     refine HP.out.mono ?_;rintro e1 w1 ⟨rfl,R1,hS1,hF1⟩;obtain⟨HT1,af,HD⟩:=nY (ag.out w1 R1 hS1) (ah.out w1 R1 hS1) (HQ.out w1 R1 hS1 hF1);clear hS1 hF1 ag ah HQ HP aa;go_wp2_with (first|(with_reducible refine HT1.out.mono ?_;rintro e w1 ⟨rfl,rfl⟩)|(with_reducible refine af.out.mono ?_;rintro e w1 ⟨rfl,rfl⟩))
     exact HD.out
    have g2:((K:Int)==7)=false:=by simp;omega
    obtain rfl:a=true:=(stop.resolve_left k0).resolve_left k7;clear stop k0 k7
    go_enter func102,ntmps102
    go_wp2_with fail
    with_reducible refine aa.out.mono ?_
    rintro e1 w1 ⟨rfl,rfl⟩;go_wp2_with fail
    refine HP.out.mono ?_;rintro e1 w1 ⟨rfl,R1,hS1,hF1⟩;obtain⟨HT1,af,ax,HD⟩:=qg (ag.out w1 R1 hS1) (ah.out w1 R1 hS1) (HE.out w1) (HQ.out w1 R1 hS1 hF1);clear hS1 hF1 ag ah HQ HP aa HE;go_wp2_with (first|(with_reducible refine HT1.out.mono ?_;rintro e w1 ⟨rfl,rfl⟩)|(with_reducible refine af.out.mono ?_;rintro e w1 ⟨rfl,rfl⟩)|(with_reducible refine ax.out.mono ?_;rintro e w1 ⟨rfl,rfl⟩))
    exact HD.out
   exact main _ rfl stop
  rw[fu stop];obtain⟨V,hV⟩:=my (nM l e d M X s1);have ae:=eu (λw1 R1 (h:GS w0 w1 rb tv e l s1 R1)=>show Calls prog 78 #[RG rb,.int .i64 M,.int .i64 X,.int .i64 d] w1 (nE w0 w1 rb tv e l R1 (.tuple #[.int .i64 V.1,.int .i64 (V.2.1:Nat)]) V.2.2)from hV▸aj.out w1 R1 h);rw[hV];obtain⟨v1,v2,v3⟩:=V;dsimp only at ae⊢;have gq:(0:Int)<(q:Int):=by omega
  have k0:K≠0:=λh=>stop (.inl h)
  have k7:K≠7:=λh=>stop (.inr (.inl h))
  have g1:((K:Int)==0)=false:=by simp;omega
  have g2:((K:Int)==7)=false:=by simp;omega
  have ha:ends K=false:=by simpa using(λh=>stop (.inr (.inr h)):¬ends K=true)
  have HE:=eu (λw1=>show Calls prog 97 #[.int .i64 K] w1 λe w'=>e=.returned (.bool false)/\w1=w' from ha▸aA.out w1);by_cases neg:v1<0
  ·rw[gu neg];dsimp only;have HQ:=eu (λW w1 R1 R' (h1:FP w w1 rb R R1)(h:GS w0 W rb tv e l v3 R')(h2:FP w1 W rb R1 R')=>show nE w0 w rb tv e l R (.int .i64 (q:Nat)) v3 (.returned (.int .i64 (q:Nat))) W from⟨rfl,R',h,h1.trans h2⟩);obtain⟨Q,hQ⟩:=my (nE w0 w rb tv e l R (.int .i64 (q:Nat)) v3);rw[hQ]at HQ⊢;clear hQ hP hkey aj hv a1 a2 a5 hz hM hX hK aG hck hf hlf hno hS hb hj ai hx hn hd az hel HV stop k0 k7 ha aA hV
   go_enter func102,ntmps102
   go_wp2_with fail
   with_reducible refine aa.out.mono ?_
   rintro e1 w1 ⟨rfl,rfl⟩;go_wp2_with fail
   refine HP.out.mono ?_;rintro e1 w1 ⟨rfl,R1,hS1,hF1⟩;obtain⟨HT1,af,ax,ak,av⟩:=BN (ag.out w1 R1 hS1) (ah.out w1 R1 hS1) (HE.out w1) (ae.out w1 R1 hS1) hF1;clear hS1 hF1 ag ah HP aa HE ae;go_wp2_with (first|(with_reducible refine HT1.out.mono ?_;rintro e w1 ⟨rfl,rfl⟩)|(with_reducible refine af.out.mono ?_;rintro e w1 ⟨rfl,rfl⟩)|(with_reducible refine ax.out.mono ?_;rintro e w1 ⟨rfl,rfl⟩)|fail)
   refine ak.out.mono ?_;rintro e1 w2 ⟨rfl,R2,hS2,hF2⟩;have HD:=eu (HQ.out w2 w1 R1 R2 av.out hS2 hF2);clear hS2 hF2 ak HT1 af ax av HQ;go_wp2_with fail
   exact HD.out
  rw[fu neg];dsimp only;have HQ:=eu (λW w1 R1 R' (h1:FP w w1 rb R R1)(h:GS w0 W rb tv e l v3 R')(h2:FP w1 W rb R1 R')=>show nE w0 w rb tv e l R (.int .i64 (v2:Nat)) v3 (.returned (.int .i64 (v2:Nat))) W from⟨rfl,R',h,h1.trans h2⟩);obtain⟨Q,hQ⟩:=my (nE w0 w rb tv e l R (.int .i64 (v2:Nat)) v3);rw[hQ]at HQ⊢;clear hQ hP hkey aj hv a1 a2 a5 hz hM hX hK aG hck hf hlf hno hS hb hj ai hx hn hd az hel HV stop k0 k7 ha aA hV
  go_enter func102,ntmps102
  go_wp2_with fail
  with_reducible refine aa.out.mono ?_
  rintro e1 w1 ⟨rfl,rfl⟩;go_wp2_with fail
  refine HP.out.mono ?_;rintro e1 w1 ⟨rfl,R1,hS1,hF1⟩;obtain⟨HT1,af,ax,ak,av⟩:=BN (ag.out w1 R1 hS1) (ah.out w1 R1 hS1) (HE.out w1) (ae.out w1 R1 hS1) hF1;clear hS1 hF1 ag ah HP aa HE ae;go_wp2_with (first|(with_reducible refine HT1.out.mono ?_;rintro e w1 ⟨rfl,rfl⟩)|(with_reducible refine af.out.mono ?_;rintro e w1 ⟨rfl,rfl⟩)|(with_reducible refine ax.out.mono ?_;rintro e w1 ⟨rfl,rfl⟩)|fail)
  refine ak.out.mono ?_;rintro e1 w2 ⟨rfl,R2,hS2,hF2⟩;have HD:=eu (HQ.out w2 w1 R1 R2 av.out hS2 hF2);clear hS2 hF2 ak HT1 af ax av HQ;go_wp2_with fail
  exact HD.out
 have hjb:j<=100000:=by omega
 have hq0:key l e j=0:=by omega
 rw[hq0]at hkey;have aa:=eu hkey;have hbg:begins (kd l e j)=true:=ai.resolve_left hq;have hI:item l e (nM l e d) (x.k==10) c j s=(if(x.k==10)=true then((nM l e d (Fl.add s c 6 j (j+1)).2 j ⟨Fl.keyed (Fl.add s c 6 j (j+1)).1.t (Fl.add s c 6 j (j+1)).2,(Fl.add s c 6 j (j+1)).1.d⟩).2.1,(nM l e d (Fl.add s c 6 j (j+1)).2 j ⟨Fl.keyed (Fl.add s c 6 j (j+1)).1.t (Fl.add s c 6 j (j+1)).2,(Fl.add s c 6 j (j+1)).1.d⟩).2.2)else((nM l e d c j s).2.1,(nM l e d c j s).2.2)):=by
  unfold item;rw[fu hq]
 rw[hI];clear hI;obtain⟨g,cap,n1,n0⟩:=hS.node hx;have hcl:=(nC.1 hx).1;have aL:(c:Int)<(s.t.length:Int):=by omega
 cases ay:(x.k==10)with
 |true=>
  rw[gu rfl];obtain⟨s1,a1,_,a3,⟨x1,a4,a5⟩,a6⟩:=Fe.pQ (kind:=6) (Fe.Ok.start (l:=l) (p0:=j) hck hf hlf hno) (f:=j) (t:=j+1) (by omega) (by omega) (by omega) (by omega) (by omega);have a1:Fl.add s c 6 j (j+1)=(s1,(s.t.length:Int)):=a1;have hadd:addN s.t c 6 j (j+1:Nat)=(s1.t,(s.t.length:Int)):=by
   have e1:=congrArg (λx=>x.1.t) a1;have e2:=congrArg Prod.snd a1;exact Prod.ext e1 e2
  have aB:s1.d=s.d:=by have e1:=congrArg (λx=>x.1.d) a1;exact e1.symm
  have hlen1:s1.t.length<=s.t.length+1:=by have h:=Fe.tK s.t c 6 j (j+1:Nat);rw[hadd]at h;exact h
  have hA:=NF w0 w rb tv e l s R c 6 j (j+1:Nat) hS (qp.of hck (by omega)) (Fq hadd);rw[hadd]at hA;dsimp only at hA;rw[<-aB,show((j+1:Nat):Int)=(j:Int)+1 from by omega]at hA;rw[a1];dsimp only;have d3:=Fe.tJ (s.t.length:Int) a3;have hkl:=(Fl.sQ s1.t (s.t.length:Int)).1;have hM2:s.t.length<s1.t.length:=a3.fits.lt
  have aH:=eu (λw1 R1 (h:GS w0 w1 rb tv e l s1 R1)=>Om w0 w1 rb tv e l s1 R1 s.t.length h hM2 (by omega));obtain⟨s2,hs2⟩:∃s2:Fl.St,(⟨Fl.keyed s1.t (s.t.length:Int),s1.d⟩:Fl.St)=s2:=⟨_,rfl⟩
  rw[hs2]at d3 aH⊢;have aM:s2.t.length=s1.t.length:=by rw[<-hs2];exact hkl
  have aJ:s2.d=s.d:=by rw[<-hs2];exact aB
  have aj:=eu (λw1 R1 (h:GS w0 w1 rb tv e l s2 R1)=>HV w0 w1 rb tv e s2 R1 s.t.length j (j+1:Nat) h d3.ck (d3.fits.le (pW _) (by omega)) d3.lf d3.no (by omega) (by omega) (by omega) (by rw[aJ];omega));obtain⟨M,hM⟩:=my (s.t.length);rw[hM]at hA aH aj n1 aL⊢;obtain⟨V,hV⟩:=my (nM l e d M j s2);have ae:=eu (λw1 R1 (h:GS w0 w1 rb tv e l s2 R1)=>show Calls prog 78 #[RG rb,.int .i64 M,.int .i64 j,.int .i64 d] w1 (nE w0 w1 rb tv e l R1 (.tuple #[.int .i64 V.1,.int .i64 (V.2.1:Nat)]) V.2.2)from hV▸aj.out w1 R1 h);rw[hV];obtain⟨v1,v2,v3⟩:=V;dsimp only at ae⊢;have HA:=eu hA;have gk:(x.k==10)=true:=ay;have HQ:=eu (λW w1 w2 R1 R2 R' (h1:FP w w1 rb R R1)(h2:FP w1 w2 rb R1 R2)(h:GS w0 W rb tv e l v3 R')(h3:FP w2 W rb R2 R')=>show nE w0 w rb tv e l R (.int .i64 (v2:Nat)) v3 (.returned (.int .i64 (v2:Nat))) W from⟨rfl,R',h,(h1.trans h2).trans h3⟩);obtain⟨Q,hQ⟩:=my (nE w0 w rb tv e l R (.int .i64 (v2:Nat)) v3);rw[hQ]at HQ⊢;obtain⟨XK,aC⟩:=my (x.k);rw[aC]at n0 gk;clear hQ hA hkey aj a1 a3 a4 a5 a6 d3 hM hck hf hlf hno hS hb hj ai hx hn hd az hel HV hV hq hq0 hbg hadd aB hlen1 hkl hM2 hs2 aM aJ ay hcl aC
  go_enter func102,ntmps102
  go_wp2_with fail
  with_reducible refine aa.out.mono ?_
  rintro e1 w1 ⟨rfl,rfl⟩;go_wp2_with fail
  refine HA.out.mono ?_;rintro e1 w1 ⟨rfl,R1,hS1,hF1⟩;obtain⟨aN,av⟩:=mR (aH.out w1 R1 hS1) hF1;clear hS1 hF1 aH HA aa;go_wp2_with fail
  refine aN.out.mono ?_;rintro e1 w2 ⟨rfl,R2,hS2,hF2⟩;obtain⟨ak,aO⟩:=mR (ae.out w2 R2 hS2) hF2;clear hS2 hF2 aN ae;go_wp2_with fail
  refine ak.out.mono ?_;rintro e1 w3 ⟨rfl,R3,aD,aF⟩;have HD:=eu (HQ.out w3 w1 w2 R1 R2 R3 av.out aO.out aD aF);clear aD aF ak av aO HQ;go_wp2_with fail
  exact HD.out
 |false=>
  rw[fu (by decide)];have aI:=HV w0 w rb tv e s R c j b hS hck hf hlf hno (by omega) (by omega) (by omega) (by omega);obtain⟨V,hV⟩:=my (nM l e d c j s);rw[hV]at aI⊢;obtain⟨v1,v2,v3⟩:=V;dsimp only at aI⊢;have ae:=eu aI;have gk:(x.k==10)=false:=ay;have HQ:=eu (λW R' (h:GS w0 W rb tv e l v3 R')(h3:FP w W rb R R')=>show nE w0 w rb tv e l R (.int .i64 (v2:Nat)) v3 (.returned (.int .i64 (v2:Nat))) W from⟨rfl,R',h,h3⟩);obtain⟨Q,hQ⟩:=my (nE w0 w rb tv e l R (.int .i64 (v2:Nat)) v3);rw[hQ]at HQ⊢;obtain⟨XK,aC⟩:=my (x.k);rw[aC]at n0 gk;obtain⟨M,hM⟩:=my (s.t.length);rw[hM]at n1 aL;clear hQ hkey aI hM hck hf hlf hno hS hb hj ai hx hn hd az hel HV hV hq hq0 hbg ay hcl aC
  go_enter func102,ntmps102
  go_wp2_with fail
  with_reducible refine aa.out.mono ?_
  rintro e1 w1 ⟨rfl,rfl⟩;go_wp2_with fail
  refine ae.out.mono ?_;rintro e1 w3 ⟨rfl,R3,aD,aF⟩;have HD:=eu (HQ.out w3 R3 aD aF);clear aD aF ae HQ;go_wp2_with fail
  exact HD.out
end
end Go.Proofs.Ytfbiffdmhcjhbaa

import Derived.Test.YtmkkdjpebbdikaaGreatDoorZb06
import Derived.Test.YtmkkdjpebbdikaaGreatDoorZb07
import Derived.Test.YtmkkdjpebbdikaaGreatDoorZb08
import Derived.WalkMore
set_option linter.all false
set_option maxHeartbeats 16000000
set_option maxRecDepth 100000
namespace Go.Proofs.YtmkkdjpebbdikaaGreatDoor
open Go.RowKit Tryz
section
open Go.RowKit
open Sg
open Sq
abbrev Tk:=Nat×Nat×Nat
def Uf(x:Tk):List Value:=[.int .i64 x.1,.int .i64 x.2.1,.int .i64 x.2.2]
def iQ:mW Tk:=⟨Uf,3,dU,λ_=>rfl,λx u hu=>by
 cases hu with
 |head=>rfl
 |tail _ hu=>cases hu with
  |head=>rfl
  |tail _ hu=>cases hu with
   |head=>rfl
   |tail _ hu=>cases hu⟩
theorem tyT:Ty prog iQ 28 45 24:=Ty.of (z:=.agg #[.int .i64 0,.int .i64 0,.int .i64 0]) underlying28 dV dV rfl (λw=>dV)
theorem iY{w:World}{a:Option Addr}{cap:Nat}{l:List Tk}(h:Reads iQ w (.slice a l.length cap) l)(j:Nat)(x:Tk)(hj:l[j]?=some x):
 ∃b off,a=some ⟨b,off,none⟩/\w.cell? ⟨b,off+j*3,none⟩=some (.int .i64 x.1)/\w.cell? ⟨b,off+j*3+1,none⟩=some (.int .i64 x.2.1)/\w.cell? ⟨b,off+j*3+2,none⟩=some (.int .i64 x.2.2):=by
 obtain⟨b,off,h1,h2⟩:=h.at_ j x hj;exact⟨b,off,h1,h2 0 _ rfl,h2 1 _ rfl,h2 2 _ rfl⟩
section
variable {w w':World}{b:Nat}{v:Value}
abbrev Row(w:World)(b:Nat)(v:Value)(l:List Tk):Prop:=w.ownsRow (b+1) 45 3 v l.length (iQ.all l)
theorem jH{l:List Tk}(h:Row w b v l)(o:Nat)(u:Value):Row (w.setCell ⟨b,o,none⟩ u) b v l:=Pk h (a:=⟨b,o,none⟩) eG u
theorem jI{B:Nat}{a:World}(h:Below B a w)(hB:B<=b)(o:Nat)(u:Value):Below B a (w.setCell ⟨b,o,none⟩ u):=h.setCell (p:=⟨b,o,none⟩) hB u
theorem afu(W:World)(x:Tk)(t:TypeId):∀j c,(iQ.all [x])[j]?=some c->(W.alloc (.cells #[.int .i64 x.1,.int .i64 x.2.1,.int .i64 x.2.2] t)).cell? ⟨W.heap.size,j,none⟩=some c:=by
 intro j c hj;rw[yJ]
 simpa [mW.all,iQ,Uf]using hj
theorem _root_.Go.RowKit.Below.nC{B C:Nat}{a m c:World}(h:Below B a m)(hC:C<=B)(h2:Below C m c):Below C a c:=(h.mono hC).trans h2
end
def Gives(L:List Nat)(w:World)(e:Ending)(w':World):Prop:=
 ∃u,e=.returned u/\w'.ownsRow w.heap.size 45 3 u (Sc.tokens L).length (iQ.all (Sc.tokens L))/\Below w.heap.size w w'
end
section
open Go.RowKit
open Sq
namespace Fl
def kx(l:List Tk)(i:Nat):Nat:=if i<l.length then raw l i else 21
theorem uU{l:List Tk}{i:Nat}{x:Tk}(h:l[i]?=some x):raw l i=x.1:=by unfold raw;rw[h]
theorem akK{l:List Tk}{i:Nat}{x:Tk}(h:l[i]?=some x):kx l i=x.1:=by unfold kx;rw[dX (eY.1 h).1,uU h]
theorem oD(p:Nat->Bool)(n i:Nat)(h:i<n):iy p (n-i) i=if p i=true then iy p (n-(i+1)) (i+1)else i:=by
 rw[show n-i=(n-(i+1))+1 by omega,iy]
theorem Ku(p:Nat->Bool)(n:Nat):iy p (n-n) n=n:=by rw[si,iy]
theorem GR{l:List Tk}{i:Nat}(h:i<=l.length):kd l l.length i=if kx l i=20\/kx l i=21 then 0 else kx l i:=by
 unfold kd kx;by_cases hi:i<l.length
 ·rw[dX hi];by_cases h2:raw l i=20\/raw l i=21
  ·rw[dX (.inr h2),dX h2]
  ·rw[dW (λh3=>h3.elim dS h2),dW h2]
 ·rw[dW hi,dX (.inl dS),dX (.inr rfl)]
def mk(k:Nat):Bool:=k==20||k==21
end Fl
open Fl (raw kx iy oD Ku cnt ends opens gX gG begins kd back)
abbrev RP(rb:Nat):Value:=.pointer (some ⟨rb,0,none⟩)
theorem Me(rb:Nat)(v:Value)(l:List Tk)(i:Nat)(w:World)(hc:w.cell? ⟨rb,0,none⟩=some v)(h:Reads iQ w v l)(hi:i<=l.length)(hs:l.length<=100000):
 Calls prog 153 #[RP rb,.int .i64 i] w λe w'=>e=.returned (.int .i64 (kx l i:Nat))/\w=w':=by
 obtain⟨a,cap,rfl⟩:=h.shape;by_cases he:i<l.length
 ·obtain⟨x,hx⟩:∃x,l[i]?=some x:=⟨_,fu he⟩
  rw[Fl.akK hx];obtain⟨b,off,rfl,c0,-,-⟩:=iY h i x hx;obtain⟨N,hN⟩:=eu (l.length);rw[hN]at hc he hs;have g:((i:Int)==(N:Int))=false:=eQ
  have gi:(i:Int)<(N:Int):=dS
  clear h hi hx hN he
  go_enter func153,ntmps153
  exact nH
 ·obtain rfl:i=l.length:=by omega
  have hk:kx l l.length=21:=by unfold kx;rw[dW (vU _)]
  rw[hk];obtain⟨N,hN⟩:=eu (l.length);rw[hN]at hc⊢;clear h hi hN he hk hs
  go_enter func153,ntmps153
  exact nH
theorem ai1(k:Nat)(w:World):Calls prog 152 #[.int .i64 k] w λe w'=>e=.returned (.bool (k==3))/\w=w':=by
 go_enter func152,ntmps152
 exact JU
theorem akL(k:Nat)(w:World):Calls prog 167 #[.int .i64 k] w λe w'=>e=.returned (.bool (k==19))/\w=w':=by
 go_enter func167,ntmps167
 exact JU
theorem akM(k:Nat)(w:World):Calls prog 166 #[.int .i64 k] w λe w'=>e=.returned (.bool (k==3||k==4))/\w=w':=by
 go_enter func166,ntmps166
 exact JU
theorem aha(k:Nat)(w:World):Calls prog 172 #[.int .i64 k] w λe w'=>e=.returned (.bool (!cnt k))/\w=w':=by
 go_enter func172,ntmps172
 exact aam
theorem aky(k:Nat)(w:World):Calls prog 173 #[.int .i64 k] w λe w'=>e=.returned (.bool (ends k))/\w=w':=by
 go_enter func173,ntmps173
 go_wp2;all_goals (go_ret;refine⟨congrArg (λb=>Ending.returned (.bool b)) ?_,rfl⟩)
 all_goals (rw[qb];simp[ends]at*;try omega)
theorem Ye(k:Nat)(w:World):Calls prog 169 #[.int .i64 k] w λe w'=>e=.returned (.bool (Fl.mk k))/\w=w':=by
 go_enter func169,ntmps169
 go_wp2;all_goals (go_ret;refine⟨congrArg (λb=>Ending.returned (.bool b)) ?_,rfl⟩)
 all_goals (rw[qb];simp[Fl.mk]at*;try omega)
theorem ae2(k:Nat)(w:World):Calls prog 183 #[.int .i64 k] w λe w'=>e=.returned (.bool (begins k))/\w=w':=by
 go_enter func183,ntmps183
 go_wp2;all_goals (go_ret;refine⟨congrArg (λb=>Ending.returned (.bool b)) ?_,rfl⟩)
 all_goals (rw[qb];simp[opens,gX,gG,begins]at*;try omega)
theorem RU(rb:Nat)(v:Value)(l:List Tk)(p:Nat)(w:World)(hc:w.cell? ⟨rb,0,none⟩=some v)(h:Reads iQ w v l)(hp:p<=l.length)(hs:l.length<=100000):
 Calls prog 151 #[RP rb,.int .i64 p,.func (.func 152) #[] #[]] w λe w'=>e=.returned (.int .i64 (iy (λj=>(λk=>k==3) (raw l j)) (l.length-p) p:Nat))/\w=w':=by
 have HK:=dY (λi (hi:i<=l.length)=>Me rb v l i w hc h hi hs);obtain⟨P,hP⟩:∃P:Nat->Bool,(λj=>(λk=>k==3) (raw l j))=P:=⟨_,rfl⟩
 have HX:=dY (λi (hi:i<l.length)=>show(λk=>k==3) (kx l i)=P i by unfold kx;rw[dX hi,<-hP]);have HE:=dY (show(λk=>k==3) (kx l l.length)=false by unfold kx;rw[dW (vU _)];rfl);have HC:=dY (λk=>ai1 k w);rw[hP];obtain⟨T,hT⟩:=eu (iy P (l.length-p) p);rw[hT];obtain⟨N,hN⟩:=eu (l.length);rw[hN]at hp hs hT HK HX HE;have HT:=dY hT;clear h hN hT hc hP
 go_enter func151,ntmps151
 go_wp2_with fail
 go_loopw [1] (λiv wr=>∃k:Nat,iv=.int .i64 k/\k<=N/\Hid (iy P (N-k) k=T)/\w=wr) (λiv _=>N-(intOf iv).toNat)
 case atStart=>exact⟨p,rfl,hp,HT,rfl⟩
 case round=>
  obtain⟨k,rfl,hk,qj,rfl⟩:=hrel;have hcall:=HK.out k hk;by_cases hlt:k<N
  ·have hx:=HX.out k hlt;have hst:=oD P N k hlt;obtain⟨K,hK⟩:=eu (kx l k);rw[hK]at hcall hx;have hcl:=HC.out K;cases q:P k with
   |true=>
    rw[q]at hst hx;rw[dX rfl]at hst;have HK3:=dY (show iy P (N-(k+1)) (k+1)=T by rw[<-qj.out];exact hst.symm);have e:(K==3)=true:=hx;rw[e]at hcl;obtain⟨Gp,Bq⟩:=fw hcall hcl;clear hcall hcl hst hx hK q e HX HE HC HK qj HT;go_wp2_with fail
    exact J5
   |false=>
    rw[q]at hst hx;rw[dW dU]at hst;obtain rfl:T=k:=yO
    have e:(K==3)=false:=hx;rw[e]at hcl;obtain⟨Gp,Bq⟩:=fw hcall hcl;clear hcall hcl hst hx hK q e HX HE HC HK qj HT;go_wp2_with fail
    exact wI
  ·obtain rfl:k=N:=by omega
   obtain rfl:T=k:=DT
   have hx:=HE.out;obtain⟨K,hK⟩:=eu (kx l T);rw[hK]at hcall hx;have hcl:=HC.out K;have e:(K==3)=false:=hx;rw[e]at hcl;obtain⟨Gp,Bq⟩:=fw hcall hcl;clear hcall hcl hx hK e HX HE HC HK qj HT hlt;go_wp2_with fail
   exact wI
theorem VQ(rb:Nat)(v:Value)(l:List Tk)(p:Nat)(w:World)(hc:w.cell? ⟨rb,0,none⟩=some v)(h:Reads iQ w v l)(hp:p<=l.length)(hs:l.length<=100000):
 Calls prog 151 #[RP rb,.int .i64 p,.func (.func 167) #[] #[]] w λe w'=>e=.returned (.int .i64 (iy (λj=>(λk=>k==19) (raw l j)) (l.length-p) p:Nat))/\w=w':=by
 have HK:=dY (λi (hi:i<=l.length)=>Me rb v l i w hc h hi hs);obtain⟨P,hP⟩:∃P:Nat->Bool,(λj=>(λk=>k==19) (raw l j))=P:=⟨_,rfl⟩
 have HX:=dY (λi (hi:i<l.length)=>show(λk=>k==19) (kx l i)=P i by unfold kx;rw[dX hi,<-hP]);have HE:=dY (show(λk=>k==19) (kx l l.length)=false by unfold kx;rw[dW (vU _)];rfl);have HC:=dY (λk=>akL k w);rw[hP];obtain⟨T,hT⟩:=eu (iy P (l.length-p) p);rw[hT];obtain⟨N,hN⟩:=eu (l.length);rw[hN]at hp hs hT HK HX HE;have HT:=dY hT;clear h hN hT hc hP
 go_enter func151,ntmps151
 go_wp2_with fail
 go_loopw [1] (λiv wr=>∃k:Nat,iv=.int .i64 k/\k<=N/\Hid (iy P (N-k) k=T)/\w=wr) (λiv _=>N-(intOf iv).toNat)
 case atStart=>exact⟨p,rfl,hp,HT,rfl⟩
 case round=>
  obtain⟨k,rfl,hk,qj,rfl⟩:=hrel;have hcall:=HK.out k hk;by_cases hlt:k<N
  ·have hx:=HX.out k hlt;have hst:=oD P N k hlt;obtain⟨K,hK⟩:=eu (kx l k);rw[hK]at hcall hx;have hcl:=HC.out K;cases q:P k with
   |true=>
    rw[q]at hst hx;rw[dX rfl]at hst;have HK3:=dY (show iy P (N-(k+1)) (k+1)=T by rw[<-qj.out];exact hst.symm);have e:(K==19)=true:=hx;rw[e]at hcl;obtain⟨Gp,Bq⟩:=fw hcall hcl;clear hcall hcl hst hx hK q e HX HE HC HK qj HT;go_wp2_with fail
    exact J5
   |false=>
    rw[q]at hst hx;rw[dW dU]at hst;obtain rfl:T=k:=yO
    have e:(K==19)=false:=hx;rw[e]at hcl;obtain⟨Gp,Bq⟩:=fw hcall hcl;clear hcall hcl hst hx hK q e HX HE HC HK qj HT;go_wp2_with fail
    exact wI
  ·obtain rfl:k=N:=by omega
   obtain rfl:T=k:=DT
   have hx:=HE.out;obtain⟨K,hK⟩:=eu (kx l T);rw[hK]at hcall hx;have hcl:=HC.out K;have e:(K==19)=false:=hx;rw[e]at hcl;obtain⟨Gp,Bq⟩:=fw hcall hcl;clear hcall hcl hx hK e HX HE HC HK qj HT hlt;go_wp2_with fail
   exact wI
theorem VS(rb:Nat)(v:Value)(l:List Tk)(p:Nat)(w:World)(hc:w.cell? ⟨rb,0,none⟩=some v)(h:Reads iQ w v l)(hp:p<=l.length)(hs:l.length<=100000):
 Calls prog 151 #[RP rb,.int .i64 p,.func (.func 166) #[] #[]] w λe w'=>e=.returned (.int .i64 (iy (λj=>(λk=>k==3||k==4) (raw l j)) (l.length-p) p:Nat))/\w=w':=by
 have HK:=dY (λi (hi:i<=l.length)=>Me rb v l i w hc h hi hs);obtain⟨P,hP⟩:∃P:Nat->Bool,(λj=>(λk=>k==3||k==4) (raw l j))=P:=⟨_,rfl⟩
 have HX:=dY (λi (hi:i<l.length)=>show(λk=>k==3||k==4) (kx l i)=P i by unfold kx;rw[dX hi,<-hP]);have HE:=dY (show(λk=>k==3||k==4) (kx l l.length)=false by unfold kx;rw[dW (vU _)];rfl);have HC:=dY (λk=>akM k w);rw[hP];obtain⟨T,hT⟩:=eu (iy P (l.length-p) p);rw[hT];obtain⟨N,hN⟩:=eu (l.length);rw[hN]at hp hs hT HK HX HE;have HT:=dY hT;clear h hN hT hc hP
 go_enter func151,ntmps151
 go_wp2_with fail
 go_loopw [1] (λiv wr=>∃k:Nat,iv=.int .i64 k/\k<=N/\Hid (iy P (N-k) k=T)/\w=wr) (λiv _=>N-(intOf iv).toNat)
 case atStart=>exact⟨p,rfl,hp,HT,rfl⟩
 case round=>
  obtain⟨k,rfl,hk,qj,rfl⟩:=hrel;have hcall:=HK.out k hk;by_cases hlt:k<N
  ·have hx:=HX.out k hlt;have hst:=oD P N k hlt;obtain⟨K,hK⟩:=eu (kx l k);rw[hK]at hcall hx;have hcl:=HC.out K;cases q:P k with
   |true=>
    rw[q]at hst hx;rw[dX rfl]at hst;have HK3:=dY (show iy P (N-(k+1)) (k+1)=T by rw[<-qj.out];exact hst.symm);have e:(K==3||K==4)=true:=hx;rw[e]at hcl;obtain⟨Gp,Bq⟩:=fw hcall hcl;clear hcall hcl hst hx hK q e HX HE HC HK qj HT;go_wp2_with fail
    exact J5
   |false=>
    rw[q]at hst hx;rw[dW dU]at hst;obtain rfl:T=k:=yO
    have e:(K==3||K==4)=false:=hx;rw[e]at hcl;obtain⟨Gp,Bq⟩:=fw hcall hcl;clear hcall hcl hst hx hK q e HX HE HC HK qj HT;go_wp2_with fail
    exact wI
  ·obtain rfl:k=N:=by omega
   obtain rfl:T=k:=DT
   have hx:=HE.out;obtain⟨K,hK⟩:=eu (kx l T);rw[hK]at hcall hx;have hcl:=HC.out K;have e:(K==3||K==4)=false:=hx;rw[e]at hcl;obtain⟨Gp,Bq⟩:=fw hcall hcl;clear hcall hcl hx hK e HX HE HC HK qj HT hlt;go_wp2_with fail
   exact wI
theorem VU(rb:Nat)(v:Value)(l:List Tk)(p:Nat)(w:World)(hc:w.cell? ⟨rb,0,none⟩=some v)(h:Reads iQ w v l)(hp:p<=l.length)(hs:l.length<=100000):
 Calls prog 151 #[RP rb,.int .i64 p,.func (.func 172) #[] #[]] w λe w'=>e=.returned (.int .i64 (iy (λj=>(λk=>!cnt k) (raw l j)) (l.length-p) p:Nat))/\w=w':=by
 have HK:=dY (λi (hi:i<=l.length)=>Me rb v l i w hc h hi hs);obtain⟨P,hP⟩:∃P:Nat->Bool,(λj=>(λk=>!cnt k) (raw l j))=P:=⟨_,rfl⟩
 have HX:=dY (λi (hi:i<l.length)=>show(λk=>!cnt k) (kx l i)=P i by unfold kx;rw[dX hi,<-hP]);have HE:=dY (show(λk=>!cnt k) (kx l l.length)=false by unfold kx;rw[dW (vU _)];rfl);have HC:=dY (λk=>aha k w);rw[hP];obtain⟨T,hT⟩:=eu (iy P (l.length-p) p);rw[hT];obtain⟨N,hN⟩:=eu (l.length);rw[hN]at hp hs hT HK HX HE;have HT:=dY hT;clear h hN hT hc hP
 go_enter func151,ntmps151
 go_wp2_with fail
 go_loopw [1] (λiv wr=>∃k:Nat,iv=.int .i64 k/\k<=N/\Hid (iy P (N-k) k=T)/\w=wr) (λiv _=>N-(intOf iv).toNat)
 case atStart=>exact⟨p,rfl,hp,HT,rfl⟩
 case round=>
  obtain⟨k,rfl,hk,qj,rfl⟩:=hrel;have hcall:=HK.out k hk;by_cases hlt:k<N
  ·have hx:=HX.out k hlt;have hst:=oD P N k hlt;obtain⟨K,hK⟩:=eu (kx l k);rw[hK]at hcall hx;have hcl:=HC.out K;cases q:P k with
   |true=>
    rw[q]at hst hx;rw[dX rfl]at hst;have HK3:=dY (show iy P (N-(k+1)) (k+1)=T by rw[<-qj.out];exact hst.symm);have e:(!cnt K)=true:=hx;rw[e]at hcl;obtain⟨Gp,Bq⟩:=fw hcall hcl;clear hcall hcl hst hx hK q e HX HE HC HK qj HT;go_wp2_with fail
    exact J5
   |false=>
    rw[q]at hst hx;rw[dW dU]at hst;obtain rfl:T=k:=yO
    have e:(!cnt K)=false:=hx;rw[e]at hcl;obtain⟨Gp,Bq⟩:=fw hcall hcl;clear hcall hcl hst hx hK q e HX HE HC HK qj HT;go_wp2_with fail
    exact wI
  ·obtain rfl:k=N:=by omega
   obtain rfl:T=k:=DT
   have hx:=HE.out;obtain⟨K,hK⟩:=eu (kx l T);rw[hK]at hcall hx;have hcl:=HC.out K;have e:(!cnt K)=false:=hx;rw[e]at hcl;obtain⟨Gp,Bq⟩:=fw hcall hcl;clear hcall hcl hx hK e HX HE HC HK qj HT hlt;go_wp2_with fail
   exact wI
end
namespace Fl
open Ar
def Ej(l:List Tk):Prop:=∀i j,raw l i=18->i<j->(∀m,i<m->m<j->raw l m=3\/raw l m=4)->raw l j≠2/\raw l j≠19
theorem qa(p q:Nat->Bool):∀(f i:Nat),(∀k,i<=k->k<=iy q f i->k<i+f->p k=q k)->iy p f i=iy q f i
 |0,_=>λ_=>rfl
 |f+1,i=>λh=>by
  have hge:=kH q f (i+1);have h0:p i=q i:=h i (eO _) (by rw[iy];split<;>omega) dS;rw[iy,iy,h0];by_cases hq:q i=true
  ·rw[dX hq,dX hq];exact qa p q f (i+1) (λk h1 h2 h3=>h k dS (by rw[iy,dX hq];exact h2) dS)
  ·rw[dW hq,dW hq]
theorem kP(p:Nat->Bool):∀(f i k:Nat),i<=k->k<iy p f i->p k=true
 |0,i,k=>λh1 h2=>by rw[iy]at h2;omega
 |f+1,i,k=>λh1 h2=>by
  rw[iy]at h2;split at h2
  ·rename_i hp;by_cases e:k=i
   ·rw[e];exact hp
   ·exact kP p f (i+1) k dS h2
  ·omega
def Mf(l:List Tk)(i:Nat):Nat:=
 let f:=iy (λj=>raw l j==3||raw l j==4) (l.length-(i+1)) (i+1)
 let f2:=if kx l f=1 then f+1 else f
 let t:=iy (λj=>raw l j==19) (l.length-f2) f2
 if f2<t then t else i+1
theorem acg{l:List Tk}{i:Nat}(hi:i<l.length)(hk:raw l i=18)(hok:Ej l):Mf l i=text l l.length i:=by
 unfold Mf text;dsimp only;obtain⟨N,hN⟩:=eu (l.length);obtain⟨f,hf⟩:=eu (iy (λj=>raw l j==3||raw l j==4) (N-(i+1)) (i+1));have f1:=kH (λj=>raw l j==3||raw l j==4) (N-(i+1)) (i+1);have f2:=lq (λj=>raw l j==3||raw l j==4) (N-(i+1)) (i+1);have f3:=kP (λj=>raw l j==3||raw l j==4) (N-(i+1)) (i+1);have f4:=ma (λj=>raw l j==3||raw l j==4) (N-(i+1)) (i+1);rw[hf]at f1 f2 f3 f4;rw[hN]at hi⊢;have hmid:∀m,i<m->m<f->raw l m=3\/raw l m=4:=λm h1 h2=>by simpa using f3 m dS h2
 obtain⟨n2,n19⟩:=hok i f hk dS hmid;have hj:iy (λj=>!cnt (raw l j)&&raw l j !=1) (N-(i+1)) (i+1)=f:=by
  rw[<-hf];refine qa _ _ _ _ (λk h1 h2 h3=>?_);rw[hf]at h2;by_cases e:k=f
  ·subst e;have aa:(raw l k==3||raw l k==4)=false:=by
    rcases f4 with h|h
    ·omega
    ·exact h
   rw[aa];simp at aa;simp[cnt];omega
  ·rcases hmid k dS dS with h|h<;>rw[h]<;>rfl
 rw[hf,hj];have hkx:kx l f=if f<N then raw l f else 21:=by unfold kx;rw[hN]
 have stay:∀a,raw l a≠19->iy (λj=>raw l j==19) (N-a) a=a:=by
  intro a ha;cases hn:N-a with
  |zero=>rfl
  |succ n=>rw[iy,dW (by simpa using ha)]
 obtain⟨g,hg⟩:=eu ((if kx l f=1 then f+1 else f));rw[hg];by_cases c1:N<=f
 ·have e1:kx l f≠1:=by rw[hkx,dW dS];decide
  rw[dW e1]at hg;subst hg;rw[stay f n19,dW (vU _),dX (.inl c1)]
 by_cases c2:raw l f=1
 ·rw[dX (by rw[hkx,dX dS];exact c2)]at hg;subst hg;by_cases c3:N<=f+1
  ·rw[show N-(f+1)=0 by omega,iy,dW (vU _),dX (.inr (.inr (.inl c3)))]
  by_cases c4:raw l (f+1)=19
  ·have h9:¬(N<=f\/raw l f≠1\/N<=f+1\/raw l (f+1)≠19):=λh=>h.elim c1 (λh=>h.elim (λh=>h c2) (λh=>h.elim c3 (λh=>h c4)))
   rw[dW h9];have:f+1<iy (λj=>raw l j==19) (N-(f+1)) (f+1):=by
    rw[show N-(f+1)=(N-(f+1)-1)+1 by omega,iy,dX (by simpa using c4)];have:=kH (λj=>raw l j==19) (N-(f+1)-1) (f+1+1);omega
   rw[dX this]
  ·rw[stay (f+1) c4,dW (vU _),dX (.inr (.inr (.inr c4)))]
 ·have e1:kx l f≠1:=by rw[hkx,dX dS];exact c2
  rw[dW e1]at hg;subst hg;rw[stay f n19,dW (vU _),dX (.inr (.inl c2))]
def yA(l:List Tk)(i j n:Nat):Nat:=match su l l.length (l.length-j) j n with
 |some r=>r
 |none=>back l (iy (λj=>kd l l.length j !=0) (l.length-j) j) (i+1)
theorem VV(l:List Tk)(i:Nat):yA l i i 0=balanced l l.length i:=rfl
theorem ach{l:List Tk}{i j n:Nat}(hk:kd l l.length j=0):yA l i j n=back l j (i+1):=by
 unfold yA;cases hf:l.length-j with
 |zero=>rw[su,iy]
 |succ f=>
  rw[su,dX hk];dsimp only;rw[iy,dW (by simp[hk])]
theorem aci{l:List Tk}{i j n:Nat}(hk:kd l l.length j≠0):yA l i j n=if step (kd l l.length j) n=0 then j+1 else yA l i (j+1) (step (kd l l.length j) n):=by
 have hj:=(ji hk).1;unfold yA;have hg:iy (λj=>kd l l.length j !=0) (l.length-j) j=iy (λj=>kd l l.length j !=0) (l.length-(j+1)) (j+1):=by
  rw[oD _ _ _ hj,dX (by simpa using hk)]
 rw[hg,show l.length-j=(l.length-(j+1))+1 by omega,su,dW hk];by_cases hs:step (kd l l.length j) n=0
 ·rw[dX hs,dX hs]
 ·rw[dW hs,dW hs]
theorem Hg(l:List Tk)(e:Nat):∀(f j n r:Nat),(0<n\/opens (kd l e j)=true)->su l e f j n=some r->iT l e f j n=iT l e (f-(r-j)) r 0
 |0,j,n,r=>λ_ h=>by simp[su]at h
 |f+1,j,n,r=>λho h=>by
  rw[su]at h;split at h
  ·simp at h
  ·rename_i h0;have hc:¬(n=0/\(kd l e j=7\/ends (kd l e j)=true)):=Zb
   rw[iT,dW h0,dW hc];split at h
   ·rename_i h1;injection h with h
    subst h;rw[h1,show f+1-(j+1-j)=f by omega]
   ·rename_i h1;have hr:=(CK l e f (j+1) _ r h).1;rw[Hg l e f (j+1) _ r (.inl dS) h,show f-(r-(j+1))=f+1-(r-j)by omega]
theorem ML(l:List Tk)(e:Nat):∀(f j n:Nat),(0<n\/opens (kd l e j)=true)->su l e f j n=none->iT l e f j n=iy (λj=>kd l e j !=0) f j
 |0,j,n=>λ_ _=>rfl
 |f+1,j,n=>λho h=>by
  rw[su]at h;rw[iT,iy];by_cases h0:kd l e j=0
  ·rw[dX h0,dW (by simp[h0])]
  ·rw[dW h0]at h;have hc:¬(n=0/\(kd l e j=7\/ends (kd l e j)=true)):=Zb
   rw[dW h0,dW hc,dX (by simpa using h0)];split at h
   ·cases h
   ·rename_i h1;exact ML l e f (j+1) _ (.inl dS) h
theorem Hl(l:List Tk):∀(i m k:Nat),back l i m<=k->k<i->cnt (raw l k)=false
 |0,m,k=>λ_ h=>dS
 |i+1,m,k=>λh1 h2=>by
  rw[back]at h1;split at h1
  ·rename_i h3;by_cases e:k=i
   ·rw[e];exact h3.2
   ·exact Hl l i m k h1 dS
  ·omega
theorem VW{l:List Tk}{k:Nat}(ho:opens (kd l l.length k)=true):iT l l.length (l.length-balanced l l.length k) (balanced l l.length k) 0=iT l l.length (l.length-k) k 0:=by
 obtain⟨e,he⟩:=eu (l.length);rw[he]at ho⊢;have hb:=my (l:=l) (e:=e) ho;have hkd:kd l e k≠0:=λh=>by rw[h]at ho;exact absurd ho dU
 have hk:=(ji hkd).1;unfold balanced at hb⊢;cases hr:su l e (e-k) k 0 with
 |some r=>
  dsimp only;rw[Hg l e (e-k) k 0 r (.inr ho) hr];have:=CK l e _ _ _ _ hr;rw[show e-k-(r-k)=e-r by omega]
 |none=>
  rw[hr]at hb;dsimp only at hb⊢;rw[ML l e (e-k) k 0 (.inr ho) hr];obtain⟨g,hg⟩:=eu (iy (λj=>kd l e j !=0) (e-k) k);have g1:=lq (λj=>kd l e j !=0) (e-k) k;have g2:=kP (λj=>kd l e j !=0) (e-k) k;have g3:=ma (λj=>kd l e j !=0) (e-k) k;rw[hg]at g1 g2 g3 hb⊢;have h0:kd l e g=0:=by
   rcases g3 with h|h
   ·unfold kd;rw[dX (.inl dS)]
   ·simpa using h
  have hid:=Hl l g (k+1);obtain⟨b,hbd⟩:=eu (back l g (k+1));have hbg:=gH l g (k+1);rw[hbd]at hid hb hbg⊢;have key:∀(f a:Nat),b<=a->a<=g->g<=a+f->iT l e f a 0=g:=by
   intro f
   induction f with
   |zero=>intro a h1 h2 h3;rw[iT];omega
   |succ f ih=>
    intro a h1 h2 h3;by_cases e2:a=g
    ·subst e2;rw[iT,dX h0]
    ·have ha:kd l e a≠0:=by simpa using g2 a dS dS
     have hc:=hid a h1 dS;have hr2:=(ji ha).2;rw[hr2]at hc;have hc2:kd l e a=1\/kd l e a=2\/kd l e a=3\/kd l e a=4:=by unfold cnt at hc;simp at hc;omega
     rw[iT,dW ha,dW (by rintro⟨_,h⟩;rcases hc2 with h4|h4|h4|h4<;>rw[h4]at h<;>rcases h with h|h<;>exact absurd h dU)];rw[show step (kd l e a) 0=0 by rcases hc2 with h4|h4|h4|h4<;>rw[h4]<;>rfl];exact ih (a+1) dS dS dS
  exact key (e-b) b (eO _) hbg dS
theorem RX{l:List Tk}{k:Nat}(h:kd l l.length k=0\/kd l l.length k=7\/ends (kd l l.length k)=true):iT l l.length (l.length-k) k 0=k:=by
 cases hf:l.length-k with
 |zero=>rfl
 |succ f=>
  rw[iT];rcases h with h|h
  ·rw[dX h]
  ·by_cases h0:kd l l.length k=0
   ·rw[dX h0]
   ·rw[dW h0,dX ⟨rfl,h⟩]
theorem acj{l:List Tk}{k:Nat}(h0:kd l l.length k≠0)(h7:kd l l.length k≠7)(he:ends (kd l l.length k)=false)(ho:opens (kd l l.length k)=false):
 iT l l.length (l.length-(k+1)) (k+1) 0=iT l l.length (l.length-k) k 0:=by
 have hk:=(ji h0).1
 conv=>rhs;rw[show l.length-k=(l.length-(k+1))+1 by omega,iT,dW h0,dW (by rw[he];simp[h7])]
 rw[show step (kd l l.length k) 0=0 by unfold step;rw[ho,he];rfl]
theorem FF(l:List Tk)(e:Nat):∀(f g i:Nat),e<=i+f->e<=i+g->props l e f i=props l e g i
 |0,0,i=>λ_ _=>rfl
 |0,g+1,i=>λh _=>by
  rw[props,props,dW];have:kd l e i=0:=JG
  rw[this];decide
 |f+1,0,i=>λ_ h=>by
  rw[props,props,dW];have:kd l e i=0:=JG
  rw[this];decide
 |f+1,g+1,i=>λh1 h2=>by
  rw[props,props];by_cases hp:gG (kd l e i)=true
  ·rw[dX hp,dX hp];have h0:kd l e i≠0:=λh=>by rw[h]at hp;exact absurd hp dU
   have:=iW (l:=l) (e:=e) (i:=i+1) (ji h0).1;exact FF l e f g _ dS dS
  ·rw[dW hp,dW hp]
def nI(l:List Tk)(i:Nat):Int:=(key l l.length i:Int)-1
theorem RY{l:List Tk}{i:Nat}(hp:gG (kd l l.length i)=true):nI l i=nI l (fI l l.length (i+1)):=by
 have h0:kd l l.length i≠0:=λh=>by rw[h]at hp;exact absurd hp dU
 have hi:=(ji h0).1;have ht:=iW (l:=l) (e:=l.length) (i:=i+1) hi;unfold nI key;rw[show l.length-i=(l.length-(i+1))+1 by omega,props,dX hp,FF l l.length (l.length-(i+1)) (l.length-fI l l.length (i+1)) _ dS dS]
theorem RZ{l:List Tk}{i:Nat}(hp:gG (kd l l.length i)=false)(hs:gX (kd l l.length i)=true):nI l i=if kd l l.length (fI l l.length (i+1))=6 then(fI l l.length (i+1):Int)else -1:=by
 have hq:props l l.length (l.length-i) i=i:=by
  cases hf:l.length-i with
  |zero=>rfl
  |succ f=>rw[props,dW (by simp[hp])]
 unfold nI key;dsimp only;have hb:(if gX (kd l l.length i)=true then fI l l.length (i+1)else i)=fI l l.length (i+1):=dX hs;rw[hq,hb];by_cases h6:kd l l.length (fI l l.length (i+1))=6
 ·rw[dX h6,dX h6];omega
 ·rw[dW h6,dW h6];rfl
theorem Ob{l:List Tk}{i:Nat}(hp:gG (kd l l.length i)=false)(hs:gX (kd l l.length i)=false):nI l i=if kd l l.length i=6 then(i:Int)else -1:=by
 have hq:props l l.length (l.length-i) i=i:=by
  cases hf:l.length-i with
  |zero=>rfl
  |succ f=>rw[props,dW (by simp[hp])]
 have hb:(if gX (kd l l.length i)=true then fI l l.length (i+1)else i)=i:=dW (by simp[hs]);unfold nI key;dsimp only;rw[hq,hb];by_cases h6:kd l l.length i=6
 ·rw[dX h6,dX h6];omega
 ·rw[dW h6,dW h6];rfl
end Fl
section
open Go.RowKit
open Sq
open Fl (raw kx cnt back)
theorem ack(rb:Nat)(v:Value)(l:List Tk)(p m:Nat)(w:World)(hc:w.cell? ⟨rb,0,none⟩=some v)(h:Reads iQ w v l)(hp:p<=l.length)(hs:l.length<=100000)(hm0:0<m)(hmp:m<=p)(hm:∃z,m<=z/\z<=p/\cnt (raw l (z-1))=true):
 Calls prog 170 #[RP rb,.int .i64 p] w λe w'=>e=.returned (.int .i64 (back l p m:Nat))/\w=w':=by
 obtain⟨a,cap,rfl⟩:=h.shape;obtain⟨z,hz1,hz2,hz3⟩:=hm;have H:=dY (λj x (hj:l[j]?=some x)=>iY h j x hj);have HC:=dY (λk=>aha k w)
 have HB:=dY (λi (h1:z<=i)(h2:0<i)=>show back l i m=if cnt (raw l (i-1))=true then i else back l (i-1) m by
  obtain⟨i,rfl⟩:∃k,i=k+1:=⟨i-1,dS⟩
  rw[back,lW];by_cases e:cnt (raw l i)=true
  ·rw[dW (λh=>by rw[e]at h;exact absurd h.2 dU),dX e]
  ·rw[dW e];have hne:z≠i+1:=λh=>by rw[h,lW]at hz3;exact e hz3
   rw[dX ⟨dS,by simpa using e⟩])
 obtain⟨T,hT⟩:=eu (back l p m);rw[hT];obtain⟨HT,HZ⟩:=fw hT hz3;obtain⟨N,hN⟩:=eu (l.length);have HN:=dY hN;rw[hN]at hp hs hc;have hz0:0<z:=dS
 clear h hN hT hz3 hmp
 go_enter func170,ntmps170
 go_wp2_with fail
 go_loopw [1] (λiv wr=>∃k:Nat,iv=.int .i64 k/\k<=N/\z<=k/\Hid (back l k m=T)/\w=wr) (λiv _=>(intOf iv).toNat)
 case atStart=>exact⟨p,rfl,hp,hz2,HT,rfl⟩
 case round=>
  obtain⟨k,rfl,hk,hzk,qj,rfl⟩:=hrel;have hst:=HB.out k hzk dS;obtain⟨i,rfl⟩:∃i,k=i+1:=⟨k-1,dS⟩
  rw[lW]at hst;obtain⟨x,hx⟩:∃x,l[i]?=some x:=⟨_,fu mP⟩
  obtain⟨b,off,rfl,c0,-,-⟩:=H.out i x hx;have hr:=Fl.uU hx;obtain⟨K,hK⟩:=eu (x.1);rw[hK]at c0 hr;rw[hr]at hst;have hcl:=HC.out K
  have HZ2:=dY (fun(e:cnt K=false)=>show z<=i by
   have h1:=HZ.out;by_cases h2:z=i+1
   ·rw[h2,lW,hr,e]at h1;cases h1
   ·omega)
  have gw:IntKind.i64.wrap (((i+1:Nat):Int)-1)=(i:Int):=by
   rw[show((i+1:Nat):Int)-1=(i:Int)by omega];exact sj _ dS
  have gi:(i:Int)<(N:Int):=dS
  cases q:cnt K with
  |true=>
   exact aaK
  |false=>
   exact Z4
end
section
open Go.RowKit
open Sq
open Fl (raw kx iy cnt ends opens gX gG begins kd back fI balanced kE text Ej Mf nI yA iT)
structure RT(w:World)(rb:Nat)(v:Value)(l:List Tk):Prop where
 cell:w.cell? ⟨rb,0,none⟩=some v
 reads:Reads iQ w v l
 size:l.length<=100000
structure oV(l:List Tk):Prop where
 pos:∀i,i<l.length->raw l i≠0
 head:Ej l
theorem Rf{l:List Tk}(h:oV l)(i:Nat):kx l i≠0:=by
 unfold kx;split
 ·rename_i hi;exact h.pos i hi
 ·decide
theorem Yf{l:List Tk}(h:oV l){i:Nat}(hi:i<=l.length):Fl.mk (kx l i)=decide (kd l l.length i=0):=by
 rw[Fl.GR hi];unfold Fl.mk;have h0:=Rf h i;by_cases hm:kx l i=20\/kx l i=21
 ·rw[dX hm];rcases hm with h|h<;>rw[h]<;>rfl
 ·rw[dW hm,ic h0];simp;omega
theorem Yg{l:List Tk}{i:Nat}(hi:i<=l.length)(h:kd l l.length i≠0):kx l i=kd l l.length i:=by
 have:=Fl.GR hi;rw[this]at h⊢;split at h
 ·exact absurd rfl h
 ·rename_i h2;rw[dW h2]
section
variable {rb:Nat}{v:Value}{l:List Tk}{w:World}
theorem RT.kind(h:RT w rb v l)(i:Nat)(hi:i<=l.length):Calls prog 153 #[RP rb,.int .i64 i] w λe w'=>e=.returned (.int .i64 (kx l i:Nat))/\w=w':=Me rb v l i w h.cell h.reads hi h.size
theorem RT.idle(h:RT w rb v l)(i:Nat)(hi:i<=l.length):Calls prog 151 #[RP rb,.int .i64 i,.func (.func 172) #[] #[]] w λe w'=>e=.returned (.int .i64 (fI l l.length i:Nat))/\w=w':=VU rb v l i w h.cell h.reads hi h.size
theorem RT.blank(h:RT w rb v l)(i:Nat)(hi:i<=l.length):Calls prog 151 #[RP rb,.int .i64 i,.func (.func 152) #[] #[]] w λe w'=>e=.returned (.int .i64 (Fl.blanks l l.length i:Nat))/\w=w':=RU rb v l i w h.cell h.reads hi h.size
theorem RT.counted(h:RT w rb v l)(p m:Nat)(hp:p<=l.length)(hm0:0<m)(hmp:m<=p)(hm:∃z,m<=z/\z<=p/\cnt (raw l (z-1))=true):
 Calls prog 170 #[RP rb,.int .i64 p] w λe w'=>e=.returned (.int .i64 (back l p m:Nat))/\w=w':=ack rb v l p m w h.cell h.reads hp h.size hm0 hmp hm
end
theorem ai2(rb:Nat)(v:Value)(l:List Tk)(i:Nat)(w:World)(hR:RT w rb v l)(hT:oV l)(hi:i<l.length)(hk:raw l i=18):
 Calls prog 155 #[RP rb,.int .i64 i] w λe w'=>e=.returned (.int .i64 (text l l.length i:Nat))/\w=w':=by
 have hpt:=Fl.acg hi hk hT.head;rw[<-hpt];unfold Mf;dsimp only;have hP1:=VS rb v l (i+1) w hR.cell hR.reads dS hR.size;have hge:=Fl.kH (λj=>raw l j==3||raw l j==4) (l.length-(i+1)) (i+1);have hle:=Fl.lq (λj=>raw l j==3||raw l j==4) (l.length-(i+1)) (i+1);obtain⟨f,hf⟩:=eu (iy (λj=>raw l j==3||raw l j==4) (l.length-(i+1)) (i+1));rw[hf]at hP1 hge hle⊢;have hK:=hR.kind f dS;have hP2:=λp hp=>VQ rb v l p w hR.cell hR.reads hp hR.size
 have hs:=hR.size;have hkl:kx l f=1->f<l.length:=λh=>by
  unfold kx at h;split at h
  ·assumption
  ·cases h
 obtain⟨K,aa⟩:=eu (kx l f);rw[aa]at hK hkl⊢;have hfl:f<=l.length:=dS
 rw[show((i+1:Nat):Int)=(i:Int)+1 from dS]at hP1;obtain⟨zq,HK⟩:=fw hP1 hK;by_cases q:K=1
 ·subst q;have hlt:=hkl rfl;rw[dX rfl];have hp2:=hP2 (f+1) dS;obtain⟨t,ht⟩:=eu (iy (λj=>raw l j==19) (l.length-(f+1)) (f+1));rw[ht]at hp2⊢;rw[show((f+1:Nat):Int)=(f:Int)+1 from dS]at hp2;have o9:=dY hp2;obtain⟨N,hN⟩:=eu (l.length);rw[hN]at hi hlt hs;by_cases c:f+1<t
  ·rw[dX c];have g:(f:Int)+1<(t:Int):=by omega
   clear hT hpt hP1 hge hle hf hP2 hK aa hkl hfl hp2 ht hk hR c hN
   exact aaG
  ·rw[dW c];have g:¬(f:Int)+1<(t:Int):=by omega
   clear hT hpt hP1 hge hle hf hP2 hK aa hkl hfl hp2 ht hk hR c hN
   exact aaa
 ·rw[dW q];have hp2:=hP2 f hfl;obtain⟨t,ht⟩:=eu (iy (λj=>raw l j==19) (l.length-f) f);rw[ht]at hp2⊢;have o9:=dY hp2;have gk:((K:Int)==1)=false:=by simp;omega
  obtain⟨N,hN⟩:=eu (l.length);rw[hN]at hi hs;by_cases c:f<t
  ·rw[dX c];have g:(f:Int)<(t:Int):=by omega
   clear hT hpt hP1 hge hle hf hP2 hK aa hkl hfl hp2 ht hk hR c q hN
   exact aaG
  ·rw[dW c];have g:¬(f:Int)<(t:Int):=by omega
   clear hT hpt hP1 hge hle hf hP2 hK aa hkl hfl hp2 ht hk hR c q hN
   exact aaa
theorem Hm(rb:Nat)(v:Value)(l:List Tk)(i:Nat)(w:World)(hR:RT w rb v l)(hT:oV l)(ho:opens (kd l l.length i)=true):
 Calls prog 157 #[RP rb,.int .i64 i] w λe w'=>e=.returned (.int .i64 (balanced l l.length i:Nat))/\w=w':=by
 have hkd:kd l l.length i≠0:=λh=>by rw[h]at ho;exact absurd ho dU
 have hi:=Fl.ji hkd;have hcnt:cnt (raw l i)=true:=by rw[hi.2];exact Fl.Ex ho
 have HK:=dY (λj (hj:j<=l.length)=>hR.kind j hj);have HM:=dY (λk=>Ye k w);have aa:=dY (λj (hj:j<=l.length)=>Yf hT hj);have ae:=dY (λj (hj:j<=l.length)(h:kd l l.length j≠0)=>Yg hj h);have af:=dY (λj (hj:j<=l.length)(hij:i<j)=>hR.counted j (i+1) hj dS dS ⟨i+1,dS,dS,by rw[lW];exact hcnt⟩);have ag:=dY (λj n (h:kd l l.length j=0)=>Fl.ach (i:=i) (n:=n) h);have ah:=dY (λj n (h:kd l l.length j≠0)=>Fl.aci (i:=i) (n:=n) h);have Df:=dY (λj (h:kd l l.length j≠0)=>(Fl.ji h).1);obtain⟨HI,HO⟩:=fw hkd ho;rw[<-Fl.VV];obtain⟨T,ak⟩:=eu (yA l i i 0);rw[ak];have HT0:=dY ak;have hs:=hR.size;have hil:=hi.1;obtain⟨N,hN⟩:=eu (l.length);rw[hN]at HK aa ae af ag ah Df HI HO hs hil;clear hR hT ho hkd hi hcnt ak hN
 go_enter func157,ntmps157
 go_wp2_with fail
 go_loopw [1,5] (λiv nv wr=>∃j n:Nat,iv=.int .i64 j/\nv=.int .i64 n/\i<=j/\j<=N/\n<=j/\(i<j->0<n)/\Hid (yA l i j n=T)/\w=wr) (λiv _ _=>N-(intOf iv).toNat)
 case atStart=>exact⟨i,0,rfl,rfl,eO _,dS,dS,λh=>absurd h (vU _),HT0,rfl⟩
 case round=>
  obtain⟨j,n,rfl,rfl,hij,ai,av,hn0,HB,rfl⟩:=hrel;have hcall:=HK.out j ai;have hmc:=HM.out (kx l j);rw[aa.out j ai]at hmc;by_cases hz:kd l N j=0
  ·have hlt:i<j:=by
    by_cases e:j=i
    ·subst e;exact absurd hz HI.out
    ·omega
   rw[kD hz]at hmc;have hct:=af.out j ai hlt;have hB:=HB.out;rw[ag.out j n hz]at hB;rw[hB]at hct;obtain⟨K,hK⟩:=eu (kx l j);rw[hK]at hcall hmc;obtain⟨H1,H2,H3⟩:=je hcall hmc hct;clear hcall hmc hct hB HK HM aa ae af ag ah Df HI HO HB HT0 hK hz hn0;go_wp2_with fail
   refine H1.out.mono ?_;rintro e w1 ⟨rfl,rfl⟩;go_wp2_with fail
   refine H2.out.mono ?_;rintro e w1 ⟨rfl,rfl⟩;go_wp2_with fail
   refine H3.out.mono ?_;rintro e w1 ⟨rfl,rfl⟩;go_wp2_with fail
   exact pz
  ·rw[ic hz]at hmc;have hkx:=ae.out j ai hz;have hst:=ah.out j n hz;have hjl:=Df.out j hz;rw[hkx]at hcall hmc;have hone:j=i->opens (kd l N j)=true:=λe=>by rw[e];exact HO.out
   obtain⟨K,hK⟩:=eu (kd l N j);rw[hK]at hcall hmc hst hone;rw[HB.out]at hst;obtain⟨H1,H2⟩:=fw hcall hmc;clear hcall hmc HK HM aa ae af ag ah Df HI HO HB HT0 hK hz hkx;by_cases q8:K=8
   ·subst q8;rw[show Fl.step 8 n=n+1 from rfl,dW dS]at hst;have HB2:=dY hst.symm;have g0:((n:Int)+1==0)=false:=by simp;omega
    exact Z6
   have g8:((K:Int)==8)=false:=eQ
   by_cases q9:K=9
   ·subst q9;rw[show Fl.step 9 n=n+1 from rfl,dW dS]at hst;have HB2:=dY hst.symm;have g0:((n:Int)+1==0)=false:=by simp;omega
    exact Z6
   have g9:((K:Int)==9)=false:=eQ
   have hni:0<n:=by
    refine hn0 ?_;by_cases e:j=i
    ·have:=hone e;unfold opens at this;simp at this;omega
    ·omega
   by_cases aj:K=10\/K=11
   ·have hsn:Fl.step K n=n-1:=by rcases aj with rfl|rfl<;>rfl
    rw[hsn]at hst;by_cases hn1:n-1=0
    ·obtain rfl:n=1:=by omega
     rw[dX hn1]at hst;subst hst;clear hone hn0 hsn hn1;rcases aj with rfl|rfl
     all_goals
      go_wp2_with fail
      refine H1.out.mono ?_;rintro e w1 ⟨rfl,rfl⟩;go_wp2_with fail
      refine H2.out.mono ?_;rintro e w1 ⟨rfl,rfl⟩;go_wp2_with fail
      refine H1.out.mono ?_;rintro e w1 ⟨rfl,rfl⟩;go_wp2_with fail
      go_ret;exact⟨fH,rfl⟩
    ·rw[dW hn1]at hst;have HB2:=dY hst.symm;obtain⟨m,rfl⟩:∃m,n=m+1:=⟨n-1,dS⟩
     have hm0:0<m:=dS
     have g0:((m:Int)==0)=false:=eQ
     have g1:(((m+1:Nat):Int)-1==0)=false:=eQ
     have gw:wrap64 (((m+1:Nat):Int)-1)=(m:Int):=by
      rw[show((m+1:Nat):Int)-1=(m:Int)by omega];exact AF _ dS
     rw[lW]at HB2;clear hst hone hn0 hsn hn1;rcases aj with rfl|rfl
     all_goals
      go_wp2_with fail
      refine H1.out.mono ?_;rintro e w1 ⟨rfl,rfl⟩;go_wp2_with fail
      refine H2.out.mono ?_;rintro e w1 ⟨rfl,rfl⟩;go_wp2_with fail
      refine H1.out.mono ?_;rintro e w1 ⟨rfl,rfl⟩;go_wp2_with fail
      go_roundw
      case rel=>exact⟨j+1,m,fH,by first|go_num|rw[gw],dS,dS,dS,λ_=>dS,HB2,trivial⟩
      case measure=>simp[intOf];omega
   ·have hsn:Fl.step K n=n:=by
     unfold Fl.step opens ends;rw[dW eQ,dW eQ]
    rw[hsn,dW dS]at hst;have HB2:=dY hst.symm;have g10:((K:Int)==10)=false:=eQ
    have g11:((K:Int)==11)=false:=eQ
    have g0:((n:Int)==0)=false:=eQ
    clear hst hone hn0 hsn q8 q9 aj;go_wp2_with fail
    refine H1.out.mono ?_;rintro e w1 ⟨rfl,rfl⟩;go_wp2_with fail
    refine H2.out.mono ?_;rintro e w1 ⟨rfl,rfl⟩;go_wp2_with fail
    refine H1.out.mono ?_;rintro e w1 ⟨rfl,rfl⟩;go_wp2_with fail
    go_roundw
    case rel=>exact⟨j+1,n,fH,rfl,dS,dS,dS,λ_=>dS,HB2,trivial⟩
    case measure=>simp[intOf];omega
end
namespace Sq
open Go.RowKit
section
variable {α:Type}{E:mW α}{w:World}
theorem oO{P:Program}{t e:TypeId}{bytes:Nat}(T:Ty P E t e bytes){ops:Array Oper}{o:Oper}{act:Act}{K:Act->World->Prop}{Q:Exit->Act->World->Prop}{G:Prop}(hgd:o.guard=none)(x y:Operand)
 (ho:o.op=.call {callee:=.builtin .append,args:=#[x,y],argTypes:=#[t,t]})
 (base:Nat) (v:Value) (l:List α) (hs:act.eval x=v) (hown:w.ownsRow base e E.k v l.length (E.all l)) (b m:Nat) (us:List α) (hm:us.length=m) (hy:act.eval y=.slice (some ⟨b,0,none⟩) m m)
 (hnew:∀j c,(E.all us)[j]?=some c->w.cell? ⟨b,j,none⟩=some c) (hmax:l.length+m<=maxLen) (hlen:(l.length+m)*bytes<=140737488355328) (hbase:base<=w.heap.size)
 (h:∀v' w',w'.ownsRow base e E.k v' (l++us).length (E.all (l++us))->w.grownBy w' v.ownBlock->(v'.ownBlock=v.ownBlock\/v'.ownBlock=some w.heap.size)->K (act.put o.dst v') w'):
 if Region.wanted o (yielded ops act.tmps)=true then Oper.wp P o act w K Q else G:=by
 obtain⟨i,z,hi,hz,hsz,hby,hzs⟩:=T.parts;have hw:Region.wanted o (yielded ops act.tmps)=true:=by simp[Region.wanted,hgd]
 rw[dX hw];obtain⟨v',w',hrun,q1,q2,_,q3⟩:=run_append_own_at (P:=P) (w:=w) base t o.type e i z E.k bytes T.ht hi hz hsz hby hzs E.pos v l.length (E.all l) hown ⟨b,0,none⟩ m m (E.all us) (by rw[lD,hm]) (λj c hj=>by rw[fT,jY];exact hnew j c hj) (xK E us) hmax hlen hbase;unfold Oper.wp execOp;simp only[ho,resolve,invoke,builtin,ah1,ah2,aeG,ahN,yG,O0,hs,hy,hrun];exact h v' w' PY q2 q3
theorem fE{w':World}{B e size n:Nat}{v:Value}{xs:List Value}(h:w.ownsRow B e size v n xs)(hk:∀g,v.ownBlock=some g->w'.heap[g]?=w.heap[g]?):w'.ownsRow B e size v n xs:=by
 obtain⟨h1,h2⟩:=h;refine⟨h1,?_⟩;rcases h2 with h2|⟨g,cap,cur,hv,hg,hh,hr⟩
 ·exact .inl h2
 ·exact .inr ⟨g,cap,cur,hv,hg,(hk g DZ).trans hh,hr⟩
end
end Sq
section
open Go.RowKit
open Sq
open Ar
def abb(x:Fl.Dg):List Value:=[.int .i64 x.code,.int .i64 x.f,.int .i64 x.t]
def fK:mW Fl.Dg:=⟨abb,3,dU,λ_=>rfl,λx u hu=>by
 cases hu with
 |head=>rfl
 |tail _ hu=>cases hu with
  |head=>rfl
  |tail _ hu=>cases hu with
   |head=>rfl
   |tail _ hu=>cases hu⟩
theorem tyD:Ty prog fK 32 40 24:=Ty.of (z:=.agg #[.int .i64 0,.int .i64 0,.int .i64 0]) underlying32 dV dV rfl (λw=>dV)
def jX(nv dv:Value)(L:List Ln)(g:Nat):Prop:=nv.ownBlock=some g\/dv.ownBlock=some g\/∃p∈L,p.val.ownBlock=some g
structure FP(w w':World)(rb:Nat)(R R':Nat->Prop):Prop where
 size:w.heap.size<=w'.heap.size
 block:∀k,k<w.heap.size->k≠rb->¬R k->w'.heap[k]?=w.heap[k]?
 rows:∀k,R' k->R k\/w.heap.size<=k
theorem FP.trans{a b c:World}{rb:Nat}{R R' aa:Nat->Prop}(h:FP a b rb R R')(g:FP b c rb R' aa):FP a c rb R aa :=
 ⟨iU h.size g.size,λk hk hr hn=>(g.block k (zx hk h.size) hr (λh2=>(h.rows k h2).elim hn (λh3=>absurd hk (aeD.2 h3)))).trans (h.block k hk hr hn),
  λk hk=>(g.rows k hk).elim (λh2=>h.rows k h2) (λh2=>.inr (iU h.size h2))⟩
theorem FP.below{w w':World}{rb:Nat}{R:Nat->Prop}(h:Below w.heap.size w w'):FP w w' rb R R:=⟨h.size,λk hk _ _=>h.block k hk,λk hk=>.inl hk⟩
theorem FP.refl(w:World)(rb:Nat)(R:Nat->Prop):FP w w rb R R:=FP.below (fD _ _)
theorem eU{w:World}{B e s n rb:Nat}{v:Value}{xs:List Value}{C:Array Value}{T:TypeId}{fr:Nat×Nat}(h:w.ownsRow B e s v n xs)(hb:w.heap[rb]?=some (.cells C T fr))(hne:e≠T):v.ownBlock≠some rb:=λhg=>by
 rcases h.2 with⟨h1,_⟩|⟨b,cap,cur,hv,_,hh,_⟩
 ·rw[h1]at hg;cases hg
 ·rw[hv]at hg;obtain rfl:b=rb:=by simpa [Value.ownBlock]using hg
  rw[hh]at hb;injection hb with hb
  injection hb with _ h3
  exact hne h3
structure RM(w0 w:World)(rb:Nat)(tv nv dv:Value)(l:List Tk)(L:List Ln)(D:List Fl.Dg):Prop where
 kL:Below w0.heap.size w0 w
 toks:Reads iQ w0 tv l
 size:l.length<=100000
 low:w0.heap.size<=rb
 box:w.heap[rb]?=some (.cells #[tv,nv,dv] 154 (0,0))
 nodes:OT w w0.heap.size nv L
 told:w.ownsRow w0.heap.size 40 3 dv D.length (fK.all D)
section
variable {w0 w w':World}{rb:Nat}{tv nv dv:Value}{l:List Tk}{L:List Ln}{D:List Fl.Dg}
theorem RM.lt(h:RM w0 w rb tv nv dv l L D):rb<w.heap.size:=gK h.box
theorem RM.cells(h:RM w0 w rb tv nv dv l L D):w.cell? ⟨rb,0,none⟩=some tv/\w.cell? ⟨rb,1,none⟩=some nv/\w.cell? ⟨rb,2,none⟩=some dv:=
 ⟨(fq h.box 0).trans rfl,(fq h.box 1).trans rfl,(fq h.box 2).trans rfl⟩
theorem RM.rt(h:RM w0 w rb tv nv dv l L D):RT w rb tv l:=⟨h.cells.1,h.toks.below h.kL,h.size⟩
theorem RM.rows(h:RM w0 w rb tv nv dv l L D){g:Nat}(hg:jX nv dv L g):w0.heap.size<=g/\g<w.heap.size/\g≠rb:=by
 rcases hg with hg|hg|⟨p,hp,hg⟩
 ·exact Zm
 ·exact Zr
 ·obtain⟨i,hi⟩:=jy hp;have hk:=h.nodes.kids i p hi;exact⟨(hk.lt g hg).1,(hk.lt g hg).2,λe=>eU hk h.box dU (e▸hg)⟩
theorem RM.keep(h:RM w0 w rb tv nv dv l L D)(hb:Below w0.heap.size w0 w')(hk:∀g,g=rb\/jX nv dv L g->w'.heap[g]?=w.heap[g]?):RM w0 w' rb tv nv dv l L D:=
 ⟨hb,h.toks,h.size,h.low,(hk rb (.inl rfl)).trans h.box,⟨fE h.nodes.row (λg hg=>hk g (.inr (.inl hg))),λi p hp=>fE (h.nodes.kids i p hp) (λg hg=>hk g (.inr (.inr (.inr ⟨p,gW hp,hg⟩)))),h.nodes.apart⟩,
  fE h.told (λg hg=>hk g (.inr (.inr (.inl hg))))⟩
theorem RM.below(h:RM w0 w rb tv nv dv l L D)(hb:Below w.heap.size w w'):RM w0 w' rb tv nv dv l L D:=
 h.keep (h.kL.trans (hb.mono h.kL.size)) (λg hg=>hb.block g (hg.elim (λe=>e▸h.lt) (λh2=>(h.rows h2).2.1)))
theorem RM.store(h:RM w0 w rb tv nv dv l L D){b:Nat}(h0:w0.heap.size<=b)(hr:b≠rb)(hn:¬jX nv dv L b)(o:Nat)(u:Value):RM w0 (w.setCell ⟨b,o,none⟩ u) rb tv nv dv l L D:=
 h.keep (h.kL.setCell (p:=⟨b,o,none⟩) h0 u) (λg hg=>jo _ _ _ _ (λe=>hg.elim (λh2=>hr (e.symm.trans h2)) (λh2=>hn ((show g=b from e)▸h2))))
theorem RM.afv{aa:Value}{L':List Ln}(h:RM w0 w rb tv nv dv l L D)(hb:Below w0.heap.size w0 w')(hx:w'.heap[rb]?=some (.cells #[tv,nv,dv] 154 (0,0)))(hO:OT w' w0.heap.size aa L')(hT:w'.ownsRow w0.heap.size 40 3 dv D.length (fK.all D)):
 RM w0 (w'.setCell ⟨rb,1,none⟩ aa) rb tv aa dv l L' D:=by
 have st:∀g,g≠rb->(w'.setCell ⟨rb,1,none⟩ aa).heap[g]?=w'.heap[g]?:=λg hg=>jo _ _ _ _ hg
 refine⟨hb.setCell (p:=⟨rb,1,none⟩) h.low _,h.toks,h.size,h.low,?_,⟨fE hO.row (λg hg=>st g (λe=>eU hO.row hx dU (e▸hg))),λi p hp=>fE (hO.kids i p hp) (λg hg=>st g (λe=>eU (hO.kids i p hp) hx dU (e▸hg))),hO.apart⟩,
  fE hT (λg hg=>st g (λe=>eU hT hx dU (e▸hg)))⟩
 exact sw hx aa
theorem RM.ai3{aa:Value}{D':List Fl.Dg}(h:RM w0 w rb tv nv dv l L D)(hb:Below w0.heap.size w0 w')(hx:w'.heap[rb]?=some (.cells #[tv,nv,dv] 154 (0,0)))(hO:OT w' w0.heap.size nv L)(hT:w'.ownsRow w0.heap.size 40 3 aa D'.length (fK.all D')):
 RM w0 (w'.setCell ⟨rb,2,none⟩ aa) rb tv nv aa l L D':=by
 have st:∀g,g≠rb->(w'.setCell ⟨rb,2,none⟩ aa).heap[g]?=w'.heap[g]?:=λg hg=>jo _ _ _ _ hg
 refine⟨hb.setCell (p:=⟨rb,2,none⟩) h.low _,h.toks,h.size,h.low,?_,⟨fE hO.row (λg hg=>st g (λe=>eU hO.row hx dU (e▸hg))),λi p hp=>fE (hO.kids i p hp) (λg hg=>st g (λe=>eU (hO.kids i p hp) hx dU (e▸hg))),hO.apart⟩,
  fE hT (λg hg=>st g (λe=>eU hT hx dU (e▸hg)))⟩
 exact sw hx aa
end
def RS(w0 w:World)(rb:Nat)(tv:Value)(l:List Tk)(s:Fl.fF)(R:Nat->Prop):Prop:=
 ∃nv dv L,RM w0 w rb tv nv dv l L s.d/\L.map Ln.nd=s.q/\R=jX nv dv L
section
variable {w0 w w':World}{rb:Nat}{tv:Value}{l:List Tk}{s:Fl.fF}{R:Nat->Prop}
theorem RS.below(h:RS w0 w rb tv l s R)(hb:Below w.heap.size w w'):RS w0 w' rb tv l s R:=by
 obtain⟨nv,dv,L,h1,h2,h3⟩:=h;exact⟨nv,dv,L,h1.below hb,h2,h3⟩
theorem RS.rt(h:RS w0 w rb tv l s R):RT w rb tv l:=by
 obtain⟨nv,dv,L,h1,h2,h3⟩:=h;exact h1.rt
theorem RS.kL(h:RS w0 w rb tv l s R):Below w0.heap.size w0 w:=by
 obtain⟨nv,dv,L,h1,h2,h3⟩:=h;exact h1.kL
theorem RS.lt(h:RS w0 w rb tv l s R):w0.heap.size<=rb/\rb<w.heap.size:=by
 obtain⟨nv,dv,L,h1,h2,h3⟩:=h;exact⟨h1.low,h1.lt⟩
theorem RS.rows(h:RS w0 w rb tv l s R){g:Nat}(hg:R g):w0.heap.size<=g/\g<w.heap.size/\g≠rb:=by
 obtain⟨nv,dv,L,h1,h2,rfl⟩:=h;exact h1.rows hg
theorem RS.store(h:RS w0 w rb tv l s R){b:Nat}(h0:w0.heap.size<=b)(hr:b≠rb)(hn:¬R b)(o:Nat)(u:Value):RS w0 (w.setCell ⟨b,o,none⟩ u) rb tv l s R:=by
 obtain⟨nv,dv,L,h1,h2,rfl⟩:=h;exact⟨nv,dv,L,h1.store h0 hr hn o u,h2,rfl⟩
end
section
variable {w0 w w':World}{rb:Nat}{tv nv dv:Value}{l:List Tk}{L:List Ln}{D:List Fl.Dg}
theorem jX.set{i:Nat}{p p':Ln}{k:Nat}(hv:p'.val=p.val)(hp:L[i]?=some p)(h:jX nv dv (L.set i p') k):jX nv dv L k:=by
 rcases h with h|h|⟨q,hq,h⟩
 ·exact .inl h
 ·exact .inr (.inl h)
 ·refine .inr (.inr ?_);obtain⟨j,hj⟩:=jy hq;rw[oI]at hj;split at hj
  ·split at hj
   ·injection hj with hj
    subst hj;exact⟨p,gW hp,hv▸h⟩
   ·cases hj
  ·exact⟨q,gW hj,h⟩
theorem RM.setNode{g n cap:Nat}(h:RM w0 w rb tv (.slice (some ⟨g,0,none⟩) n cap) dv l L D)(i j:Nat)(p:Ln)(nd:Nd)(u:Value)(hp:L[i]?=some p)(hks:nd.ks=p.nd.ks)(hc:l8 {p with nd:=nd}=(l8 p).set j u)(hj:j<6):
 RM w0 (w.setCell ⟨g,i*6+j,none⟩ u) rb tv (.slice (some ⟨g,0,none⟩) n cap) dv l (L.set i {p with nd:=nd}) D/\
 FP w (w.setCell ⟨g,i*6+j,none⟩ u) rb (jX (.slice (some ⟨g,0,none⟩) n cap) dv L) (jX (.slice (some ⟨g,0,none⟩) n cap) dv (L.set i {p with nd:=nd})):=by
 have hg:jX (.slice (some ⟨g,0,none⟩) n cap) dv L g:=.inl rfl;have hr:=h.rows hg;have st:∀k,k≠g->(w.setCell ⟨g,i*6+j,none⟩ u).heap[k]?=w.heap[k]?:=λk hk=>jo _ _ _ _ hk
 have hd:dv.ownBlock≠some g:=λe=>eX h.nodes.row h.told dU g rfl e
 refine⟨⟨h.kL.setCell (p:=⟨g,i*6+j,none⟩) hr.1 u,h.toks,h.size,h.low,(st rb (λe=>hr.2.2 e.symm)).trans h.box,h.nodes.set i j p nd u hp hks hc hj,fE h.told (λk hk=>st k (λe=>hd (e▸hk)))⟩,
  ⟨?_,λk _ _ hn=>st k (λe=>hn (e▸hg)),λk hk=>.inl (jX.set (p:=p) (p':={p with nd:=nd}) rfl hp hk)⟩⟩
 exact(fD 0 w|>.setCell (p:=⟨g,i*6+j,none⟩) (fP _) u).size
end
def Goes(w0 w:World)(rb:Nat)(tv:Value)(l:List Tk)(R:Nat->Prop)(v:Value)(s:Fl.fF)(e:Ending)(w':World):Prop:=
 e=.returned v/\∃R',RS w0 w' rb tv l s R'/\FP w w' rb R R'
end
end Go.Proofs.YtmkkdjpebbdikaaGreatDoor

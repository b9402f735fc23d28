/- The law correctorlaw13.WalkOrder: whatever the input, the call returns true, and each argument reads afterwards as it read before. Conditions: none but those of the form (the arguments can be read as data, each string and slice within the reach of the form; no package-level variable is listed).
   The idea stands in the walk (Wlo) and in what it imports; this text is the frame. -/
import Derived.Test.YtfbiffdmhcjhbaaZa34
import Derived.Test.YtfbiffdmhcjhbaaZa40
import Derived.ChangeOld
import Derived.Deep.DeepHandedRow
import Derived.ShutString
import Derived.Test.YtfbiffdmhcjhbaaRows
set_option linter.all false
set_option maxHeartbeats 16000000
set_option maxRecDepth 100000
set_option synthInstance.maxSize 4000
set_option synthInstance.maxHeartbeats 0
namespace Go.Proofs.Ytfbiffdmhcjhbaa
open Go.RowKit Go.Proofs.Try
section
open Go.RowKit
open Sq
open Ar
namespace Ar
theorem TQ(s:List Int)(n:Int)(j:Nat)(h0:0<=n)(h1:n<s.length):(inc s n)[j]?=s[j]?.map (λc:Int=>c+(if n=(j:Int)then 1 else 0)):=by
 obtain⟨m,rfl⟩:∃m:Nat,n=(m:Int):=⟨n.toNat,by omega⟩
 have hm:m<s.length:=by omega
 unfold inc;rw[oN,qQ hm];dsimp only;rw[E5];by_cases e:m=j
 ·subst e;rw[gu rfl,gu hm,qQ hm];simp
 rw[fu e];have:¬((m:Int)=(j:Int)):=by omega
 simp[this]
theorem Ho:∀(ks s:List Int)(j:Nat),(∀z∈ks,0<=z/\z<s.length)->(uT s ks)[j]?=s[j]?.map (λc:Int=>c+((ks.countP (λz=>z==(j:Int)):Nat):Int))
 |[],s,j=>λ_=>by
  show s[j]?=_;simp
 |n::r,s,j=>λh=>by
  show(uT (inc s n) r)[j]?=_;have hn:=h n (Nr ..);rw[Ho r (inc s n) j (λz hz=>by rw[KX];exact h z (Re _ hz)),TQ s n j hn.1 hn.2,Option.map_map,E4];congr 1;funext c;simp only[VZ];by_cases e:n=(j:Int)
  ·simp[e];omega
  simp[e]
theorem QL(s a b:List Int):uT s (a++b)=uT (uT s a) b:=by unfold uT;rw[Q9]
def ze(l:List Nd)(i:Nat):List Int:=(l.take i).flatMap (·.ks)
theorem EY{l:List Nd}{i:Nat}{x:Nd}(h:l[i]?=some x):ze l (i+1)=ze l i++x.ks:=by
 unfold ze;rw[Ir,h,Uq];simp
theorem Hq(l:List Nd)(hk:∀x∈l,x.ks.length<=20000):∀i,(ze l i).length<=20000*i
 |0=>by simp[ze]
 |i+1=>by
  have ih:=Hq l hk i;cases hx:l[i]? with
  |none=>
   have h2:ze l (i+1)=ze l i:=by unfold ze;rw[Ir,hx];simp
   rw[h2];omega
  |some x=>
   have:=hk x (sI hx);rw[EY hx,oq];omega
def wW(l:List Nd)(i:Nat):List Int:=uT (List.replicate l.length 0) (ze l i)
theorem KY(l:List Nd)(i:Nat):(wW l i).length=l.length:=by unfold wW;rw[CX,Us]
theorem QM{l:List Nd}{i:Nat}{x:Nd}(h:l[i]?=some x):wW l (i+1)=uT (wW l i) x.ks:=by
 unfold wW;rw[EY h,QL]
theorem VI{l:List Nd}(hk:∀x∈l,x.ks.length<=20000)(hl:l.length<=20000)(i:Nat)(hi:i<=l.length):∀c∈wW l i,0<=c/\c<=1000000000:=by
 intro c hc;have h1:=FO (ze l i) (List.replicate l.length 0) 0 (λd hd=>by rw[List.eq_of_mem_replicate hd];exact⟨pW _,pW _⟩) c hc;have h2:=Hq l hk i;have h3:20000*i<=1000000000:=by omega
 omega
theorem TR{l:List Nd}(i j:Nat)(hj:j<l.length)(h:∀k,k<i->tT l k=true)(hi:i<=l.length):(wW l i)[j]?=some ((yD l i j:Nat):Int):=by
 have hin:∀z∈ze l i,0<=z/\z<l.length:=by
  intro z hz;unfold ze at hz;obtain⟨x,hx,hz⟩:=Rf.1 hz;obtain⟨k,hk⟩:=yG hx;have hki:k<i:=by
   have:=(nC.1 hk).1;rw[qx]at this;omega
  rw[Nn,gu hki]at hk;have hn:=h k hki;unfold tT at hn;rw[hk]at hn;simp only[vY]at hn;have hkn:=hn.2;unfold yC at hkn;rw[hk]at hkn;exact Hg _ _ hkn z hz
 unfold wW;rw[Ho _ _ j (λz hz=>by rw[Us];exact hin z hz),V8,gu hj];simp[yD,ze]
end Ar
theorem M6(n:Nat):(madeCells #[.int .i64 0] (n*1)).toList=encI.all (List.replicate n 0):=by
 have e:encI.all (List.replicate n 0)=List.replicate n (.int .i64 0):=by
  induction n with
  |zero=>rfl
  |succ n ih=>
   show(encI.cells 0++encI.all (List.replicate n 0))=_;rw[ih];rfl
 rw[e];apply zT;intro j;rw[Lm];simp only[madeCells,Ul];by_cases h:j<n
 ·simp[h,Nat.mod_one]
 simp[h]
theorem EZ(n B:Nat)(w:World)(hn:n<=1000000)(hB:B<=w.heap.size):∃w',(∀m:Int,m=(n:Int)->(Instr.makeSlice 22 (.int .i64 m) (.int .i64 m)).run prog w=.ok (.slice (some ⟨w.heap.size,0,none⟩) n n) w')/\w'.ownsRow B 3 encI.k (.slice (some ⟨w.heap.size,0,none⟩) n n) (List.replicate n (0:Int)).length (encI.all (List.replicate n 0))/\w.grownBy w' none:=by
 obtain⟨i0,hi,hz0,hz1,hz2⟩:=Fa (show(prog.info? 3).map (λi=>(i.zero,i.size,i.bytes))=some (some (.int .i64 0),1,8)by kernel_rfl);obtain⟨w',h1,h2,h3⟩:=run_make_full (P:=prog) w B 22 3 i0 (.int .i64 0) 1 underlying22 hi hz0 hz1 .i64 .i64 n (by rw[hz2];omega) (by simp only[maxLen];omega) hB;refine⟨w',λm hm=>by rw[hm];exact h1,?_,h3⟩;have e:(madeCells (Value.int .i64 0).cells (n*1)).toList=encI.all (List.replicate n 0):=M6 n;rw[e]at h2;rw[Us];exact h2
theorem VJ(v:Value)(l:List Nd)(n:Int)(w:World)(h:vB w v l)(hl:l.length<=20000)(hk:∀x∈l,x.ks.length<=20000):
 Calls prog 12 #[.agg #[v],.int .i64 n] w (λe w'=>e=.returned (.bool (checkN l n))/\Below w.heap.size w w'):=by
 obtain⟨a,cap,rfl⟩:=h.shape;obtain⟨R,hR⟩:=my (checkN l n);have hf:=Ie (l:=l) (n:=n);have hnd:=Jy (l:=l) (n:=n);have hse:=Jz (l:=l) (n:=n);have hok:=QC (l:=l) (n:=n);rw[hR]at hf hnd hse hok⊢;have HX:=eu (λW (hb:Below w.heap.size w W)=>h.below hb);have av:=eu hk;have HQ:=eu (λb w'=>show(b=R/\Below w.heap.size w w')->(λe (w':World)=>e=Ending.returned (.bool R)/\Below w.heap.size w w') (.returned (.bool b)) w' from λh=>⟨by rw[h.1],h.2⟩);obtain⟨Q,hQ⟩:=my ((λe (w':World)=>e=Ending.returned (.bool R)/\Below w.heap.size w w'));rw[hQ]at HQ⊢;have HL:=eu hl;have ai:=eu (λW i x s sg sc (hb:Below w.heap.size w W)=>Xh (.slice a l.length cap) l i x s sg sc w.heap.size W (λW' hb'=>h.below (hb.trans hb')) hl);obtain⟨N,hN⟩:=my (l.length);rw[hN]at hl HX ai⊢;obtain⟨HN,HF,aA,aB,aC⟩:=BN hN hf hnd hse hok;obtain⟨w1,hw1⟩:=my (w.alloc (.cells #[.slice a N cap] 28));obtain⟨B,hB⟩:=my (w.heap.size);have hb1:=mr w (.cells #[.slice a N cap] 28);have c1:w1.cell? ⟨B,0,none⟩=some (.slice a N cap):=by rw[<-hw1,<-hB];exact at_new rfl
 rw[hw1]at hb1;obtain⟨HB1,HW1,aD⟩:=nY hb1 hw1 hB;have hq1:w.heap.size<=w1.heap.size:=hb1.size;obtain⟨b0,hb0⟩:=my (yf l n);have HB0:=eu hb0;clear h hk hQ hN hw1 hB hb1 hR hf hnd hse hok hb0
 go_enter func12,ntmps12
 go_upto_region 1 with fail
 rw[HW1.out,aD.out];clear HW1;go_upto_region 2 with fail
 clear c1
 go_cut [46] (λq wx=>q=.bool (!b0)/\w1=wx)
 case first=>
  have hm:=HB0.out;rcases DK N with h0|h0
  ·subst h0;obtain rfl:b0=false:=by
    rw[<-hm];cases l with
    |nil=>rfl
    |cons _ _=>exact absurd HN.out (by simp)
   clear hm;go_wp2_with fail
   go_meet
   exact⟨rfl,rfl⟩
  obtain⟨x,r,rfl⟩:∃x r,l=x::r:=by
   cases l with
   |nil=>exact absurd HN.out (by simp;omega)
   |cons x r=>exact⟨x,r,rfl⟩
  have hat:=HX.out w1 HB1.out;rw[<-HN.out]at hat;obtain⟨b,off,_,_,rfl,y0,y1,y2,y3,-,-,-⟩:=hat.at_ 0 x rfl;simp only[zV,xh]at y0 y1 y2 y3;have z0:decide (N=0)=false:=nK (by omega);have z1:(N==0)=false:=by simp;omega
  have z2:((N:Int)==0)=false:=by simp;omega
  have z3:(0:Int)<(N:Int):=by omega
  unfold yf at hm;dsimp only at hm;clear hat h0;by_cases q0:x.k=1
  case neg=>
   obtain rfl:b0=false:=by rw[<-hm];simp[q0]
   have aF:(x.k==1)=false:=by simp[q0]
   have aG:(x.k !=1)=true:=by simp[q0]
   clear hm q0;go_wp2_with fail
   go_meet
   exact⟨rfl,rfl⟩
  have aF:(x.k==1)=true:=by simp[q0]
  have aG:(x.k !=1)=false:=by simp[q0]
  by_cases q1:x.f=0
  case neg=>
   obtain rfl:b0=false:=by rw[<-hm];simp[q1]
   have nq1:(x.f==0)=false:=by simp[q1]
   have aH:(x.f !=0)=true:=by simp[q1]
   clear hm q1 q0;go_wp2_with fail
   go_meet
   exact⟨rfl,rfl⟩
  have nq1:(x.f==0)=true:=by simp[q1]
  have aH:(x.f !=0)=false:=by simp[q1]
  by_cases q2:x.t=n
  case neg=>
   obtain rfl:b0=false:=by rw[<-hm];simp[q2]
   have aI:(x.t==n)=false:=by simp[q2]
   have aJ:(x.t !=n)=true:=by simp[q2]
   clear hm q2 q0 q1;go_wp2_with fail
   go_meet
   exact⟨rfl,rfl⟩
  have aI:(x.t==n)=true:=by simp[q2]
  have aJ:(x.t !=n)=false:=by simp[q2]
  by_cases q3:x.u=-1
  case neg=>
   obtain rfl:b0=false:=by rw[<-hm];simp[q3]
   have aK:(x.u==-1)=false:=by simp[q3]
   have aL:(x.u !=-1)=true:=by simp[q3]
   clear hm q3 q0 q1 q2;go_wp2_with fail
   go_meet
   exact⟨rfl,rfl⟩
  have aK:(x.u==-1)=true:=by simp[q3]
  have aL:(x.u !=-1)=false:=by simp[q3]
  by_cases q4:n<0
  ·obtain rfl:b0=false:=by rw[<-hm];simp[q4]
   clear hm q0 q1 q2 q3;go_wp2_with fail
   go_meet
   exact⟨rfl,rfl⟩
  obtain rfl:b0=true:=by rw[<-hm];simp[q0,q1,q2,q3,q4]
  have e4:decide (n<0)=false:=nK q4;clear hm q0 q1 q2 q3 q4;go_wp2_with fail
  go_meet
  exact⟨rfl,rfl⟩
 case rest=>
 obtain⟨rfl,rfl⟩:=hcut;have HB2:=HB1;have hq2:=HB2.out.size;cases b0 with
 |false=>
  have HD:=eu (HQ.out false w1 ⟨(HF.out HB0.out).symm,HB2.out⟩);go_wp2_with fail
  exact HD.out
 |true=>
  obtain⟨w3,hmk,hown,hg⟩:=EZ N w.heap.size w1 (by omega) hq2;have ax:=eu (show w3.ownsRow w.heap.size 3 encI.k (.slice (some ⟨w1.heap.size,0,none⟩) N N) (wW l 0).length (encI.all (wW l 0))from by unfold wW ze;rw[HN.out];exact hown);have HB3:=eu (HB2.out.grown hg hq2 (λk hk=>by cases hk));obtain⟨sg,hsg⟩:=my (w1.heap.size);rw[hsg]at hmk ax;have ay:=hmk (N:Int) rfl;clear hmk hown hg hsg;go_wp2_with fail
  clear ay
  go_loopw [7] (λiv wr=>∃(i:Nat),iv=.int .i64 i/\i<=N/\Hid (∀k,k<i->tT l k=true)/\Hid (wr.ownsRow w.heap.size 3 encI.k (.slice (some ⟨sg,0,none⟩) N N) (wW l i).length (encI.all (wW l i)))/\Hid (Below w.heap.size w wr)) (λiv _=>N-(intOf iv).toNat)
  case atStart=>exact⟨0,rfl,nO _,eu (λk hk=>absurd hk (BM k)),ax,HB3⟩
  case round=>
   obtain⟨i,rfl,hi,HA,HO,HB⟩:=hrel;by_cases hlt:i<N
   ·obtain⟨x,hx⟩:=pG l i (by rw[HN.out];exact hlt);have hat:=HX.out wr HB.out;rw[<-HN.out]at hat;obtain⟨b,off,_,_,rfl,-,-,-,y3,-,-,-⟩:=hat.at_ i x hx;have hii:(i:Int)<(N:Int):=by omega
    have ae:=eu (ai.out wr i x (wW l i) sg N HB.out hx (av.out x (sI hx)) (by rw[KY];exact HN.out) HO.out (VI av.out HL.out i (by rw[HN.out];exact hi)) HB.out.size);rw[<-QM hx]at ae;have hok:tT l i=(!(decide (0<i)&&(decide (x.u<0)||decide ((i:Int)<=x.u)))&&yC l i):=by unfold tT;rw[hx]
    obtain⟨ok,af⟩:=my (tT l i);rw[af]at hok;have aj:=eu af;clear hat hx af;go_upto_region 8 with fail
    go_cut [81] (λq wx=>q=.bool (!ok)/\Hid (Below w.heap.size w wx)/\Hid (ok=true->wx.ownsRow w.heap.size 3 encI.k (.slice (some ⟨sg,0,none⟩) N N) (wW l (i+1)).length (encI.all (wW l (i+1)))))
    case first=>
     rcases DK i with h0|h0
     ·subst h0;have hok:ok=yC l 0:=by rw[hok];simp
      clear y3 hii;go_wp2_with fail
      refine ae.out.mono ?_;rintro e w5 ⟨rfl,hb5,ag⟩;obtain⟨aa,ah⟩:=mR (HB.out.trans hb5) ag;clear hb5 ag;go_wp2_with fail
      go_meet
      exact⟨by rw[hok],aa,eu (λe=>ah.out (by rw[<-hok];exact e))⟩
     have p1:decide (0<i)=true:=oP h0;have p2:(0:Int)<(i:Int):=by omega
     by_cases q1:x.u<0
     ·obtain rfl:ok=false:=by rw[hok,p1];simp[q1]
      clear hok;go_wp2_with fail
      go_meet
      exact⟨rfl,HB,eu (λe=>absurd e (by decide))⟩
     by_cases q2:(i:Int)<=x.u
     ·obtain rfl:ok=false:=by rw[hok,p1];simp[q2]
      clear hok;go_wp2_with fail
      go_meet
      exact⟨rfl,HB,eu (λe=>absurd e (by decide))⟩
     have hok:ok=yC l i:=by rw[hok,nK q1,nK q2];simp
     go_wp2_with fail
     refine ae.out.mono ?_;rintro e w5 ⟨rfl,hb5,ag⟩;obtain⟨aa,ah⟩:=mR (HB.out.trans hb5) ag;clear hb5 ag;go_wp2_with fail
     go_meet
     exact⟨by rw[hok],aa,eu (λe=>ah.out (by rw[<-hok];exact e))⟩
    case rest=>
    obtain⟨rfl,aa,ah⟩:=hcut
    rename World=>w5
    clear y3 hok;cases ok with
    |false=>
     have HD:=eu (HQ.out false w5 ⟨(aA.out i (by rw[HN.out];exact hlt) aj.out).symm,aa.out⟩);go_wp2_with fail
     exact HD.out
    |true=>
     have HA2:=eu (show∀k,k<i+1->tT l k=true from λk hk=>by
      by_cases e:k=i
      ·rw[e];exact aj.out
      exact HA.out k (by omega))
     have az:=eu (ah.out rfl);go_wp2_with fail
     go_roundw
     case rel=>
      first
       |exact⟨i+1,by go_num,by omega,HA2,az,aa⟩
       |((repeat apply Exists.intro);exact⟨⟨i+1,by go_num,by omega,HA2,az,aa⟩,rfl⟩)
     case measure=>simp[intOf];omega
   obtain rfl:i=N:=by omega
   have hii:¬((i:Int)<(i:Int)):=by omega
   clear hlt;go_wp2_with fail
   have ak:=eu (λj (hj:j<l.length)=>TR i j hj HA.out (by rw[HN.out];exact mJ _));obtain⟨aM,aN⟩:=mR HB.out HN.out;have hlen:(wW l i).length=i:=by rw[KY];exact HN.out
   have HLen:=eu hlen;clear hlen
   go_loopw [8] (λjv ws=>∃(j:Nat),jv=.int .i64 j/\1<=j/\wr=ws/\Hid (∀k,0<k->k<j->k<i->yD l i k=1)) (λjv _=>i-(intOf jv).toNat)
   case atStart=>exact⟨1,rfl,mJ _,rfl,eu (λk h1 h2=>by omega)⟩
   case round=>
    obtain⟨j,rfl,hj,rfl,HJ⟩:=hrel;by_cases hlj:j<i
    ·have hs:=ak.out j (by rw[HN.out];exact hlj);obtain⟨c,hc⟩:=my (yD l i j);rw[hc]at hs;have cs:wr.cell? ⟨sg,j,none⟩=some (.int .i64 (c:Int)):=by
      have h5:=HO.out.cells (g:=sg) rfl _ _ ((qh encI (wW l i) j _ hs 0 (by decide)).trans rfl);rw[nX,qz]at h5;rw[show j*encI.k+0=j from by show j*1+0=j;omega]at h5;exact h5
     have hjj:(j:Int)<(i:Int):=by omega
     by_cases e:c=1
     ·subst e
      have HJ2:=eu (show∀k,0<k->k<j+1->k<i->yD l i k=1 from λk h1 h2 h3=>by
       by_cases e:k=j
       ·rw[e];exact hc
       exact HJ.out k h1 (by omega) h3)
      have cs1:wr.cell? ⟨sg,j,none⟩=some (.int .i64 1):=cs;clear hs hc cs;go_wp2_with fail
      go_roundw
      case rel=>
       exact⟨j+1,by go_num,by omega,by first|rfl|trivial,HJ2⟩
      case measure=>simp[intOf];omega
     have e1:(c==1)=false:=by simp[e]
     have e2:(c !=1)=true:=by simp[e]
     have e3:((c:Int)==1)=false:=by simp;omega
     have e4:((c:Int) !=1)=true:=by simp;omega
     have HD:=eu (HQ.out false wr ⟨(aB.out j (by omega) (by rw[HN.out];exact hlj) (by rw[HN.out,hc];exact e)).symm,HB.out⟩);clear hs hc e;go_wp2_with fail
     exact HD.out
    have hjj:¬((j:Int)<(i:Int)):=by omega
    have HD:=eu (HQ.out true wr ⟨(aC.out HB0.out (λk hk=>HA.out k (by rw[<-HN.out];exact hk)) (λk h1 h2=>by rw[HN.out]at h2⊢;exact HJ.out k h1 (by omega) h2)).symm,HB.out⟩);go_wp2_with fail
    exact HD.out
end
section
open Go.RowKit
open Sq
open Ar
open Fl (Tk)
theorem zO{w:World}{B g n cap:Nat}{L:List Int}(h:w.ownsRow B 3 encI.k (.slice (some ⟨g,0,none⟩) n cap) L.length (encI.all L)){j:Nat}{d:Int}(hd:L[j]?=some d):w.cell? ⟨g,j,none⟩=some (.int .i64 d):=by
 have h5:=h.cells (g:=g) rfl _ _ ((qh encI L j d hd 0 (by decide)).trans rfl);rw[nX,qz]at h5;rw[show j*encI.k+0=j from by show j*1+0=j;omega]at h5;exact h5
theorem Dv(v0:Value)(l0:List Int)(v1:Value)(s1:ByteArray)(w:World)(h0:xU .i64 w v0 l0)(h1:uG w v1 s1):
 Calls prog 3 #[v0,v1] w λe w'=>e=.returned (.bool true)/\Below w.heap.size w w':=by
 obtain⟨Q,hQ⟩:=my ((λe (w':World)=>e=Ending.returned (.bool true)/\Below w.heap.size w w'));have HQ:=eu (λw' (h:Below w.heap.size w w')=>show Q (.returned (.bool true)) w' from by rw[<-hQ];exact⟨rfl,h⟩);rw[hQ];have HK:=eu (λW=>BI W);have aI:=eu (λW (hW:Below w.heap.size w W)=>G8 v0 l0 v1 s1 W (h0.below hW) (h1.below hW));clear hQ h0 h1
 go_enter func3,ntmps3
 go_wp2_with fail
 refine(HK.out w).mono ?_;rintro e w1 ⟨rfl,hb1⟩;have HB1:=eu hb1;clear HK hb1;go_wp2_with fail
 refine(aI.out w1 HB1.out).mono ?_;rintro e w2 ⟨bv,b,rfl,hbs,hbz,hb2⟩;have HB2:=eu (lu HB1.out hb2);have h116:1<=20:=by decide
 have ag:20<=50:=by decide
 have ah:b.size<=16384:=by omega
 have HT:=Gh w2 bv b 20 hbs ah h116 ag;have htr:=Gg b 20 ah h116 ag;obtain⟨l,hl⟩:=my (Sc.tokens (Sc.ng b));obtain⟨T,hT⟩:=my ((Ps.tree (Sc.ng b) 20).2.1);rw[hl,hT]at HT htr;have hsz:=htr.sz;have hln:=htr.len;have hpos:=htr.ck.pos;have ai:=eu htr;obtain⟨NL,aA⟩:=my (l.length);obtain⟨NN,aB⟩:=my (T.length);obtain⟨aJ,aa⟩:=mR aA aB;rw[aA,aB]at HT;have bC:NL<=400:=by omega
 have bD:NN<=2001:=by omega
 have aK:0<NN:=by omega
 have HT1:=eu HT;clear hb2 aI HT htr hl hT aA aB hsz hln hpos hbs hbz ah h116 ag HB1;go_wp2_with fail
 refine HT1.out.mono ?_;rintro e w3 ⟨ta,tc,na,nc,dv,rfl,hR,hN,hb3⟩;obtain⟨bt,hbt⟩:=my (w3.heap.size);obtain⟨w4,hw4⟩:=my (w3.alloc (.cells #[.slice na NN nc] 28));have hb4:Below w3.heap.size w3 w4:=hw4▸mr w3 _;have c4:w4.cell? ⟨bt,0,none⟩=some (.slice na NN nc):=by rw[<-hw4,<-hbt];exact at_new rfl
 have aC:=eu (hN.below hb4);have aL:=eu (lu (lu HB2.out hb3) hb4);obtain⟨aM,aN,aW⟩:=nY c4 hw4 hbt;clear hR hN hb3 hb4 hw4 hbt HT1 HB2;go_upto_region 4 with fail
 rw[aW.out,aN.out];clear aN;go_wp2_with fail
 refine(Ad na NN nc w4).mono ?_;rintro e w5 ⟨rfl,hb5⟩;have aj:=eu hb5;have HOr:=eu (VF w5 (.slice na NN nc) T (l.length:Nat) (aC.out.below hb5) ai.out.ck (by rw[aa.out];omega));clear c4 hb5;go_wp2_with fail
 refine HOr.out.mono ?_;rintro e w6 ⟨ov,O,rfl,ak,hO,hb6⟩;have aD:O.length=NN:=(Wk.pK ak).trans aa.out;obtain⟨og,oc,hov,-,-,-,-⟩:=pP (E:=encI) hO (by omega);subst hov;rw[aD]at hO⊢;have aO:=eu hO;have aP:=eu (lu aL.out (lu aj.out hb6));have aF:=eu (ku hb6 (ku aj.out aM.out));have aX:=eu ((aC.out.below aj.out).below hb6);have hs5:w4.heap.size<=w5.heap.size:=aj.out.size;obtain⟨aG,aY⟩:=mR ak aD;have c6:=aF.out;have n1:(NN==NN)=true:=by simp
 have n2:((NN:Int)==(NN:Int))=true:=by simp
 have n3:((NN:Int) !=(NN:Int))=false:=by simp
 obtain⟨w7,hmk,hown,hg⟩:=EZ NN w6.heap.size w6 (by omega) (mJ _);obtain⟨sg,hsg⟩:=my (w6.heap.size);rw[hsg]at hmk hown;have aQ:=eu (show w7.ownsRow sg 3 encI.k (.slice (some ⟨sg,0,none⟩) NN NN) (Wk.A9 O NN 0).length (encI.all (Wk.A9 O NN 0))from by rw[Wk.QH];exact hown);have aR:=eu ((mF w6.heap.size w6).grown hg (mJ _) (λk hk=>by cases hk));have aS:=hmk (NN:Int) rfl;have aT:=eu hsg;clear hmk hown hg hsg hb6 HOr hO ak aD aj aC aM aL hs5;go_wp2_with fail
 clear aS c6
 go_loopw [10] (λiv wr=>∃(i:Nat),iv=.int .i64 i/\i<=NN/\Hid (wr.ownsRow sg 3 encI.k (.slice (some ⟨sg,0,none⟩) NN NN) (Wk.A9 O NN i).length (encI.all (Wk.A9 O NN i)))/\Hid (Below w6.heap.size w6 wr)) (λiv _=>NN-(intOf iv).toNat)
 case atStart=>exact⟨0,rfl,nO _,aQ,aR⟩
 case round=>
  obtain⟨i,rfl,hi,HS,HB⟩:=hrel;by_cases hlt:i<NN
  ·obtain⟨j,hj,hjl⟩:=Wk.VA aG.out (i:=i) (by rw[aa.out];exact hlt);rw[aa.out]at hjl;have hnd:=Wk.MZ aG.out;have ae:=mU aO.out HB.out;rw[<-aY.out]at ae;have co:=zO ae hj;have hget:=Wk.zy O NN i j hjl;rw[Wk.TI hnd hj]at hget;have cs:=zO HS.out hget;obtain⟨g',cp',hv',hBg,ax,-,-⟩:=pP (E:=encI) HS.out (by rw[Wk.BJ];omega);have ex:=(sK hv').1;injection ex with ex
   injection ex with ex
   subst ex;have fs:wr.frozen? ⟨sg,j,none⟩=false:=ax j;have hrow2:=uf HS.out j 0 0 ((i:Int)+1) (.int .i64 ((i:Int)+1)) hget rfl (by decide);rw[show j*encI.k+0=j from by show j*1+0=j;omega,Wk.QI hnd hj hjl]at hrow2;have HS2:=eu hrow2;have HB2:=eu (HB.out.setCell (p:=⟨sg,j,none⟩) (by rw[aT.out];exact mJ _) (.int .i64 ((i:Int)+1)));have g1:(i:Int)<(NN:Int):=by omega
   have g2:¬((j:Int)<0):=by omega
   have g3:(j:Int)<(NN:Int):=by omega
   have g4:decide (NN<=j)=false:=nK (by omega);have g5:decide ((NN:Int)<=(j:Int))=false:=nK (by omega);have g6:IntKind.i64.wrap ((i:Int)+1)=(i:Int)+1:=qA _ (by omega);clear hj hjl hnd ae hget hv' hBg ax hrow2;go_wp2_with fail
   go_roundw
   case rel=>exact⟨i+1,by go_num,by omega,HS2,HB2⟩
   case measure=>simp[intOf];omega
  obtain rfl:i=NN:=by omega
  have aH:=eu (λW (hW:Below wr.heap.size wr W)=>((aX.out.below HB.out).below (lu (mF _ _) hW)));obtain⟨aZ,aU⟩:=mR (ku HB.out aF.out) (lu aP.out HB.out);clear hlt aR aQ aO aF aP;go_wp2_with fail
  go_loopw [11] (λiv wx=>∃(k:Nat),iv=.int .i64 k/\1<=k/\k<=i/\Hid (Below wr.heap.size wr wx)) (λiv _=>i-(intOf iv).toNat)
  case atStart=>exact⟨1,rfl,mJ _,aK,eu (mF _ _)⟩
  case round=>
   rename World=>wx
   obtain⟨k,rfl,hk1,hk2,HX⟩:=hrel;have cx:=ku HX.out aZ.out;by_cases hlt:k<i
   ·obtain⟨x,hx⟩:=pG T k (by rw[aa.out];omega);obtain⟨u,p,hu,bE,-⟩:=Wk.Ef ai.out.ck (by omega) hx;have af:=aH.out wx HX.out;rw[<-aa.out]at af;obtain⟨nb,no,ka,kc,rfl,-,-,-,c3,-,-,-⟩:=af.at_ k x hx;rw[hu]at c3;have av:=Wk.VB aG.out (by omega) hx hu;rw[aa.out]at av;have hrow:=mU HS.out HX.out;have cu:=zO hrow (Wk.zy O i i u (by omega));have ck:=zO hrow (Wk.zy O i i k hlt);obtain⟨pu,ay⟩:=my (Wk.yM O i u);obtain⟨pk,az⟩:=my (Wk.yM O i k);rw[ay]at cu av;rw[az]at ck av;have g1:(k:Int)<(i:Int):=by omega
    have g2:(u:Int)<(i:Int):=by omega
    have g3:¬(pu>=pk):=by omega
    have g4:decide (pk<=pu)=false:=nK (by omega);have bf:=eu (λq=>nG HX.out q);clear hx hu af av hrow ay az;go_wp2_with fail
    go_big_quiet (fail)
    have bg:=eu (bf.out nq);go_wp2_with fail
    go_roundw
    case rel=>exact⟨k+1,by go_num,by omega,by omega,bg⟩
    case measure=>simp[intOf];omega
   obtain rfl:k=i:=by omega
   obtain⟨x,hx,hxt,-,-⟩:=ai.out.ck.zero;have af:=aH.out wx HX.out;rw[<-aa.out]at af;obtain⟨nb,no,ka,kc,rfl,-,-,c2,-,-,-,-⟩:=af.at_ 0 x hx;simp only[zV,xh]at c2;rw[hxt,aJ.out]at c2;have g0:(0:Int)<(k:Int):=by omega
   have bn:=eu (λW (hW:Below wr.heap.size wr W)=>(aH.out W hW).weak);have bq:=eu (λW (hW:Below wr.heap.size wr W)=>lu aU.out hW);have hck:=ai.out.ck.check;rw[aJ.out]at hck;have bz:=eu hck;have bA:=eu (show∀x∈T,x.ks.length<=20000 from λx hx=>qy (ai.out.kids x hx) (by rw[aa.out];omega));have aV:=eu (lu HX.out (mF wx.heap.size wx).drew);clear hx hxt af hck hlt aT;go_wp2_with fail
   refine rf 6 (by kernel_rfl) (by kernel_rfl) ?_;simp only[AR,AU,Ld,Dz]
   repeat (go_big_quiet_step (fail))
   refine UR ?_;have bB:=eu (VJ (.slice (some ⟨nb,no,none⟩) k nc) T (NL:Int) wx.drew (bn.out _ aV.out) (by rw[aa.out];omega) bA.out);go_wp2_with fail
   refine bB.out.mono ?_;rintro e wz ⟨rfl,hbz⟩;rw[bz.out];have HD:=eu (HQ.out wz (bq.out _ (lu aV.out hbz)));clear hbz;go_wp2_with fail
   first|exact HD.out|(go_ret;exact HD.out)
end
namespace walkOrderDone
open Go.ChangeShapes Go.WideShapes Go.ChangeAt Go.RowKit
open Go.ChangeMaps (open_string shut_string)
theorem contract(H:Type)(enc:TypeId×Value->H)(W:World)(base:Nat)(args:Array Value)(ds gs:List (DataW H))(before:List MemPlace)
 (hval:∀(j:Nat) t v,Try.f3.params[j]?=some t->args[j]?=some v->Value.okWide prog W .any base t v)
 (hW:DataW.Whole enc prog Try.f3.params.toList Rows.walkOrderSpec.vars false W args.toList ds gs before):
 Calls prog 3 args W λe W'=>∃v,e=.returned v/\Rows.walkOrderSpec.post enc prog Try.f3 false true false false W args v W':=by
 have ae:=hW;obtain⟨p,q,aa,hV,rfl,hfz,hnd⟩:=hW;have hA:DataW.TrodAll enc prog W 0 (λ_=>true) true Try.f3.params.toList args.toList ds p:=aa;rw[params3]at hA hval;obtain⟨v0,ah,d0,ds0,p0,q0,hargs,rfl,rfl,h0,r0⟩:=trodAll_cons hA;obtain⟨v1,vs1,d1,ds1,p1,q1,rfl,rfl,rfl,h1,r1⟩:=trodAll_cons r0;obtain⟨rfl,rfl,rfl⟩:=trodAll_nil r1;obtain rfl:args=#[v0,v1]:=by cases args;simp_all
 obtain⟨rfl,rfl⟩:=trodVars_none hV;have k0:=h0;have af:∀x∈p0,x.block<W.heap.size:=by obtain⟨m,hm⟩:=k0;exact DataW.trod_lt m _ _ _ hm
 obtain⟨s0,w0⟩:=vo underlying22 underlying3 (by kernel_rfl) (hval 0 22 v0 rfl rfl) h0;have k1:=h1;have ag:∀x∈p1,x.block<W.heap.size:=by obtain⟨m,hm⟩:=k1;exact DataW.trod_lt m _ _ _ hm
 obtain⟨s1,w1⟩:=Dk (hval 1 23 v1 rfl rfl) h1;clear aa hval;refine(Dv v0 s0 v1 s1 W w0 w1).mono λe W' ⟨he,qK⟩=>?_
 subst he;exact⟨_,rfl,_,_,_,[],_,[],ae,trodAll_mk1 (shut_bool underlying4 _),(trodAll_cons_mk (Below.trod laidOut (by kernel_rfl) (xS (by kernel_rfl)) k0 qK af) (trodAll_cons_mk (Below.trod laidOut (by kernel_rfl) (xS (by kernel_rfl)) k1 qK ag) trodAll_mk0)),rfl,qK.frame _,λh=>by cases h⟩
theorem lifted(os:Os)(started:os.Started)(H:Type)(enc:TypeId×Value->H):
 ReturnsInHanded {} Try.checked os 3 .any (Rows.walkOrderSpec.pre6 enc prog Try.f3 Rows.walkOrderRow.domain false) (Rows.walkOrderSpec.post enc prog Try.f3 false true false false):=by
 refine returnsInHanded_of_change (C:=Try.checked) own started (by kernel_rfl) func3
  (ChangeSpec.witness6 (enc:=enc) (C:=Try.checked) false ⟨#[],#[.slice none 0 0,.slice none 0 0],[]⟩ 8 (by kernel_rfl) (by kernel_rfl) (by kernel_rfl) (by kernel_rfl)) ?_
 intro W base args ds gs before hval hW _ _;exact contract H enc W base args ds gs before hval hW
theorem said:Rows.WalkOrderSaid:=
 OpenClaim.holds_of_wide 3 Try.f3 rfl rfl rfl rfl rfl rfl rfl ⟨rfl,rfl,rfl,rfl,rfl⟩ rfl rfl rfl rfl rfl (by kernel_rfl) func3 (by kernel_rfl)
  (xS (by kernel_rfl)) (by unfold Func.isWrapper;first|(rw[gu (by decide+kernel)];kernel_rfl)|(rw[fu (by decide+kernel)];exact⟨rfl,rfl⟩))
  (λos started H enc _=>lifted os started H enc)
#print axioms said
end walkOrderDone
end Go.Proofs.Ytfbiffdmhcjhbaa

import Derived.Test.YtmkkdjpebbdikaaGreatDoorZb45
import Derived.Laws.OwnMore
set_option linter.all false
set_option maxHeartbeats 16000000
set_option maxRecDepth 100000
namespace Go.Proofs.YtmkkdjpebbdikaaGreatDoor
open Go.RowKit Go.Proofs.Tryz
section
open Go.RowKit
open Sq
open Ar
def pR:mW Bool:=⟨λx=>[.bool x],1,dU,λ_=>rfl,λx u hu=>by
 cases hu with
 |head=>rfl
 |tail _ hu=>cases hu⟩
theorem tyB:Ty prog pR 82 4 1:=Ty.of (z:=.bool false) underlying82 dV dV rfl (λw=>dV)
theorem adT{w:World}{a:Option Addr}{cap:Nat}{l:List Bool}(h:Reads pR w (.slice a l.length cap) l)(j:Nat)(x:Bool)(hj:l[j]?=some x):
 ∃b off,a=some ⟨b,off,none⟩/\w.cell? ⟨b,off+j,none⟩=some (.bool x):=by
 obtain⟨b,off,h1,h2⟩:=h.at_ j x hj;have:=h2 0 _ rfl;exact⟨b,off,h1,by rw[show off+j=off+j*pR.k+0 by show off+j=off+j*1+0;omega];exact this⟩
def air(B:List Bool)(w:World)(e:Ending)(w':World):Prop:=∃r:Int,e=.returned (.int .i64 r)/\decide (0<=r)=B.contains false/\Below w.heap.size w w'
theorem adU(v:Value)(l:List Bool)(w:World)(h:Reads pR w v l)(hs:l.length<=20000):
 Calls prog 77 #[v,.bool false] w (air l w):=by
 obtain⟨a,cap,rfl⟩:=h.shape;obtain⟨R,hR⟩:=eu (l.contains false);have aa:∀(j:Nat),l[j]?=some false->R=true:=λj hj=>by rw[<-hR];exact U9.2 (gW hj)
 have hno:(∀(j:Nat) b,l[j]?=some b->b=true)->R=false:=λha=>by
  rw[<-hR];cases e:l.contains false with
  |false=>rfl
  |true=>
   obtain⟨j,hj⟩:=jy (U9.1 e);exact absurd (ha j _ hj) dU
 have HQ:=dY (fun(r:Int) w'=>show(decide (0<=r)=R/\Below w.heap.size w w')->air l w (.returned (.int .i64 r)) w' from λh=>⟨r,rfl,by rw[hR];exact h.1,h.2⟩);obtain⟨Q,hQ⟩:=eu (air l w);rw[hQ]at HQ⊢;have HX:=dY (λj x (hj:l[j]?=some x)=>adT h j x hj);obtain⟨N,hN⟩:=eu (l.length);rw[hN]at hs⊢;obtain⟨HN,ae,af⟩:=je hN aa hno;clear h hR hQ hN aa hno
 go_enter func77,ntmps77
 go_wp2_with fail
 go_loopw [8] (λiv wr=>∃(i:Nat),iv=.int .i64 i/\i<=N/\w=wr/\Hid (∀(j:Nat) b,j<i->l[j]?=some b->b=true)) (λiv _=>N-(intOf iv).toNat)
 case atStart=>exact⟨0,rfl,fP _,rfl,dY (λj b hj=>absurd hj (pK j))⟩
 case round=>
  obtain⟨i,rfl,hi,rfl,HA⟩:=hrel;by_cases hlt:i<N
  ·obtain⟨x,hx⟩:∃x,l[i]?=some x:=⟨_,fu sO⟩
   obtain⟨b,off,rfl,x0⟩:=HX.out i x hx;have hii:(i:Int)<(N:Int):=dS
   cases x with
   |true=>
    have HA2:=dY (show∀(j:Nat) b,j<i+1->l[j]?=some b->b=true from λj b hj hb=>by
     by_cases e:j=i
     ·rw[e,hx]at hb;exact(iG hb).symm
     ·exact HA.out j b dS hb)
    clear hx;go_wp2_with fail
    go_roundw
    case rel=>exact⟨i+1,fH,dS,Jw,HA2⟩
    case measure=>simp[intOf];omega
   |false=>
    have hr:=ae.out i hx;have HD:=dY (HQ.out (i:Int) w ⟨by rw[hr];exact kD dS,fD _ _⟩);clear hx hr;go_wp2_with fail
    exact HD.out
  ·obtain rfl:i=N:=by omega
   have hii:¬((i:Int)<(i:Int)):=dS
   have hr:=af.out (λj b hj=>HA.out j b (by rw[<-HN.out];exact(eY.1 hj).1) hj);have HD:=dY (HQ.out (-1) w ⟨by rw[hr];rfl,fD _ _⟩);clear hlt hr;go_wp2_with fail
   exact HD.out
theorem adV(v:Value)(l:List Bool)(w:World)(h:Reads pR w v l)(hs:l.length<=20000):
 Calls prog 51 #[v,.bool false] w (λe w'=>e=.returned (.bool (l.contains false))/\Below w.heap.size w w'):=by
 have HI:=dY (adU v l w h hs);obtain⟨a,cap,rfl⟩:=h.shape;obtain⟨R,hR⟩:=eu (l.contains false);have HR:=dY hR;rw[hR];clear h hs hR
 go_enter func51,ntmps51
 go_wp2_with fail
 refine HI.out.mono ?_;rintro e w' ⟨r,rfl,hr,hb⟩;rw[HR.out]at hr;obtain⟨HB,aa⟩:=fw hb hr;clear hb hr;go_wp2_with fail
 go_ret;refine⟨?_,HB.out⟩;rw[<-aa.out];rfl
theorem agH(v:Value)(l:List Nd)(n:Int)(w:World)(h:qi w v l)(hs:l.length<=20000):
 Calls prog 27 #[.agg #[v],.int .i64 n] w (λe w'=>e=.returned (.bool (sU l n))/\Below w.heap.size w w'):=by
 obtain⟨a,cap,rfl⟩:=h.shape;obtain⟨R,hR⟩:=eu (sU l n);rw[hR];obtain⟨N,hN⟩:=eu (l.length);have HX:=dY (λW (hb:Below w.heap.size w W)=>h.below hb);rw[hN]at hs HX⊢;obtain⟨w1,hw1⟩:=eu (w.alloc (.cells #[.slice a N cap] 31));obtain⟨Bt,pW⟩:=eu (w.heap.size);have hb1:Below w.heap.size w w1:=hw1▸dZ w _;have ct:w1.cell? ⟨Bt,0,none⟩=some (.slice a N cap):=D4
 obtain⟨HW1,rJ,HB1⟩:=je hw1 pW hb1;clear h hw1 pW hb1;cases l with
 |nil=>
  obtain rfl:N=0:=by rw[<-hN];rfl
  obtain rfl:R=false:=by rw[<-hR];rfl
  clear hN hR HX
  go_enter func27,ntmps27
  go_upto_region 1 with fail
  rw[HW1.out,rJ.out];clear HW1 rJ;go_wp2_with fail
  go_ret;exact⟨rfl,HB1.out⟩
 |cons x r=>
  have hx:=HX.out w1 HB1.out;rw[<-hN]at hx;obtain⟨b,off,ka,kc,rfl,x0,x1,x2,x3,x4,x5,-,-⟩:=hx.at_ 0 x rfl;simp only[O5,oW]at x0 x1 x2 x3 x4 x5;have hN0:(0:Int)<(N:Int):=by have:(x::r).length=r.length+1:=rfl;omega
  have z0:decide (N=0)=false:=ic dS;have z1:(N==0)=false:=eQ
  have z2:((N:Int)==0)=false:=eQ
  have hR:(decide (x.k=1)&&decide (x.f=0)&&decide (x.t=n)&&decide (x.u=-1))=R:=hR;have HB2:=dY (λo=>gD HB1.out o);obtain⟨m,hm⟩:=eu (x.ks.length);rw[hm]at x4;have HR:=dY hR;clear hx hN HX hR hm;by_cases q1:x.k=1
  case neg=>
   obtain rfl:R=false:=by rw[<-HR.out];simp[q1]
   have n1:(x.k==1)=false:=by simp[q1]
   clear HR q1
   exact Ee
  have n1:(x.k==1)=true:=by simp[q1]
  by_cases q2:x.f=0
  case neg=>
   obtain rfl:R=false:=by rw[<-HR.out];simp[q2]
   have n2:(x.f==0)=false:=by simp[q2]
   clear HR q1 q2
   exact Ee
  have n2:(x.f==0)=true:=by simp[q2]
  by_cases q3:x.t=n
  case neg=>
   obtain rfl:R=false:=by rw[<-HR.out];simp[q3]
   have n3:(x.t==n)=false:=by simp[q3]
   clear HR q1 q2 q3
   exact Ee
  have n3:(x.t==n)=true:=by simp[q3]
  by_cases q4:x.u=-1
  case neg=>
   obtain rfl:R=false:=by rw[<-HR.out];simp[q4]
   have n4:(x.u==-1)=false:=by simp[q4]
   clear HR q1 q2 q3 q4
   exact Ee
  have n4:(x.u==-1)=true:=by simp[q4]
  obtain rfl:R=true:=by rw[<-HR.out];simp[q1,q2,q3,q4]
  clear HR q1 q2 q3 q4
  exact Ee
end
section
open Go.RowKit
open Sq
open Ar
namespace Ar
def marks(N:Nat)(U:List Int):List Bool:=(List.range N).map (λz:Nat=>decide ((z:Int)∈U))
theorem nM(N:Nat)(U:List Int):(marks N U).length=N:=by simp[marks]
theorem uH{N:Nat}(U:List Int){z:Nat}(h:z<N):(marks N U)[z]?=some (decide ((z:Int)∈U)):=by simp[marks,h]
theorem Xt{N:Nat}(U:List Int)(z:Nat):(marks N U).set z true=marks N (U++[(z:Int)]):=by
 refine r9 (λj=>?_);rw[oI];by_cases hj:j<N
 ·rw[uH _ hj,uH _ hj];by_cases e:z=j
  ·subst e;rw[dX rfl,nM,dX hj];simp
  ·rw[dW e];congr 1;have:¬((j:Int)=(z:Int)):=by omega
   simp[this]
 ·rw[sZ (by rw[nM];omega),sZ (by rw[nM];omega)];split
  ·rw[dW (by rw[nM];omega)]
  ·rfl
theorem Xu(N:Nat):marks N []=List.replicate N false:=by
 unfold marks;apply r9;intro j;by_cases h:j<N
 ·simp[h]
 ·simp[h]
theorem IM(N:Nat)(U:List Int):((marks N U).drop 1).contains false=false↔∀z:Nat,0<z->z<N->(z:Int)∈U:=by
 constructor
 ·intro h z h0 hz;by_cases hm:(z:Int)∈U
  ·exact hm
  ·have h1:((marks N U).drop 1)[z-1]?=some false:=by
    rw[sW,show 1+(z-1)=z by omega,uH _ hz];simp[hm]
   have h2:=U9.2 (gW h1);rw[h]at h2;cases h2
 ·intro h;cases e:((marks N U).drop 1).contains false with
  |false=>rfl
  |true=>
   obtain⟨j,hj⟩:=jy (U9.1 e);rw[sW]at hj;have hl:=(eY.1 hj).1;rw[nM]at hl;rw[uH _ hl]at hj;have:=h (1+j) dS hl;simp at hj;exact absurd this (by simpa using hj)
noncomputable def DR (l:List Nd):Bool:=@decide (kM l) (Classical.propDecidable _)
theorem agI{l:List Nd}{i k:Nat}{x:Nd}{z:Int}(hx:l[i]?=some x)(hz:x.ks[k]?=some z)(h:¬Pp l i x k z):DR l=false:=by
 have:=Classical.propDecidable (kM l);exact @ic _ (Classical.propDecidable _) (λhh=>h (hh.1 i x (eY.1 hx).1 hx k z hz))
theorem adW{l:List Nd}(h:Ml l l.length):DR l=!((marks l.length (yu l l.length)).drop 1).contains false:=by
 cases e:((marks l.length (yu l l.length)).drop 1).contains false with
 |false=>exact @kD _ (Classical.propDecidable _) ⟨h,(IM _ _).1 e⟩
 |true=>exact @ic _ (Classical.propDecidable _) (λhh=>by rw[(IM _ _).2 hh.2]at e;cases e)
theorem Fb{l:List Nd}:DR l=true↔kM l:=@decide_eq_true_iff _ (Classical.propDecidable _)
end Ar
theorem Tn(n:Nat):(madeCells #[.bool false] (n*1)).toList=pR.all (marks n []):=by
 have e:pR.all (marks n [])=List.replicate n (.bool false):=by
  rw[Xu]
  induction n with
  |zero=>rfl
  |succ n ih=>
   show(pR.cells false++pR.all (List.replicate n false))=_;rw[ih];rfl
 rw[e];apply r9;intro j;rw[Nat.mul_one];simp only[madeCells,IP];by_cases h:j<n
 ·simp[h,Nat.mod_one]
 ·simp[h]
theorem Tp(n B:Nat)(w:World)(hn:n<=1000000)(hB:B<=w.heap.size):∃w',(∀m:Int,m=(n:Int)->(Instr.makeSlice 82 (.int .i64 m) (.int .i64 m)).run prog w=.ok (.slice (some ⟨w.heap.size,0,none⟩) n n) w')/\w'.ownsRow B 4 pR.k (.slice (some ⟨w.heap.size,0,none⟩) n n) (marks n []).length (pR.all (marks n []))/\w.grownBy w' none:=by
 obtain⟨i0,hi,hz0,hz1,hz2⟩:=Pe (show(prog.info? 4).map (λi=>(i.zero,i.size,i.bytes))=some (some (.bool false),1,1)by kernel_rfl);obtain⟨w',h1,h2,h3⟩:=run_make_full (P:=prog) w B 82 4 i0 (.bool false) 1 underlying82 hi hz0 hz1 .i64 .i64 n (by rw[hz2];omega) qV hB;refine⟨w',λm hm=>by rw[hm];exact h1,?_,h3⟩;have e:(madeCells (Value.bool false).cells (n*1)).toList=pR.all (marks n []):=Tn n;rw[e]at h2;rw[nM];exact h2
theorem alf(v:Value)(l:List Nd)(w:World)(h:qi w v l)(hs:l.length<=20000)(hpos:0<l.length)(hk:∀x∈l,x.ks.length<=20000):
 Calls prog 28 #[.agg #[v]] w (λe w'=>e=.returned (.bool (DR l))/\Below w.heap.size w w'):=by
 obtain⟨a,cap,rfl⟩:=h.shape;obtain⟨R,hR⟩:=eu (DR l);have hno:=λi k x z=>agI (l:=l) (i:=i) (k:=k) (x:=x) (z:=z)
 have ae:=adW (l:=l);rw[hR]at hno ae⊢;have HQ:=dY (λb w'=>show(b=R/\Below w.heap.size w w')->(λe (w':World)=>e=Ending.returned (.bool R)/\Below w.heap.size w w') (.returned (.bool b)) w' from λh=>⟨by rw[h.1],h.2⟩);obtain⟨Q,hQ⟩:=eu ((λe (w':World)=>e=Ending.returned (.bool R)/\Below w.heap.size w w'));rw[hQ]at HQ⊢;have HX:=dY (λW (hb:Below w.heap.size w W) j x (hj:l[j]?=some x)=>(h.below hb).at_ j x hj);have aO:=dY hk;have HPr:=dY (λi x k z=>show Pp l i x k z↔_ from Iff.rfl);obtain⟨N,hN⟩:=eu (l.length);rw[hN]at hs hpos ae⊢;obtain⟨HN,aP,aD⟩:=je hN hno ae;obtain⟨w1,hw1⟩:=eu (w.alloc (.cells #[.slice a N cap] 31));obtain⟨Bt,pW⟩:=eu (w.heap.size);have hb1:Below w.heap.size w w1:=hw1▸dZ w _;have ct:w1.cell? ⟨Bt,0,none⟩=some (.slice a N cap):=D4
 obtain⟨B,hB⟩:=eu (w1.heap.size);have hlt:Bt<B:=by rw[<-hB];exact lt_of_cell ct
 have aQ:w.heap.size<=B:=dS
 obtain⟨w2,hmk,hown,hg⟩:=Tp N B w1 dS dS;rw[hB]at hmk hown;have aF:=hmk (N:Int) rfl;have hb2:Below B w1 w2:=(fD _ _).grown hg dS (λq hq=>by cases hq);have ax:=dY (λW (hb:Below B w1 W)=>show W.cell? ⟨Bt,0,none⟩=some (.slice a N cap)from by rw[hb.cell (p:=⟨Bt,0,none⟩) hlt];exact ct);have aa:=dY (λW (hb:Below B w1 W)=>show Below w.heap.size w W from hb1.trans (hb.mono aQ));have aR:=ax.out w2 hb2;obtain⟨aG,HB2,HW1,rJ⟩:=oK hown hb2 hw1 pW;have HH:=dY (λz W=>KM a N cap z W dS);clear h hk hQ hN hR hno ae hw1 pW hb1 hmk hown hg hb2 hB
 go_enter func28,ntmps28
 go_upto_region 1 with fail
 rw[HW1.out,rJ.out];clear HW1 rJ;go_wp2_with fail
 clear aF
 go_loopw [15] (λiv wr=>∃(i:Nat),iv=.int .i64 i/\i<=N/\Hid (Ml l i)/\Hid (wr.ownsRow B 4 pR.k (.slice (some ⟨B,0,none⟩) N N) (marks N (yu l i)).length (pR.all (marks N (yu l i))))/\Hid (Below B w1 wr)) (λiv _=>N-(intOf iv).toNat)
 case atStart=>exact⟨0,rfl,fP _,dY (λj x hj=>absurd hj (pK j)),aG,HB2⟩
 case round=>
  clear aG HB2 ct aR;obtain⟨i,rfl,hi,HP,HO,ag⟩:=hrel;have ct:=ax.out wr ag.out;by_cases ai:i<N
  ·obtain⟨x,hx⟩:∃x,l[i]?=some x:=⟨_,fu (by rw[HN.out];exact ai)⟩
   obtain⟨b,off,ka,kc,rfl,x0,x1,x2,x3,x4,x5,hkr,-⟩:=HX.out w (fD _ _) i x hx;have hbw:=aa.out wr ag.out;have x0:=eB hbw x0;have x1:=eB hbw x1;have x2:=eB hbw x2;have x3:=eB hbw x3;have x4:=eB hbw x4;have x5:=eB hbw x5;have hii:(i:Int)<(N:Int):=dS
   have hkl:=aO.out x (gW hx);obtain⟨n,hn⟩:=eu (x.ks.length);rw[hn]at x4 hkl;obtain⟨w3,hw3⟩:=eu (wr.alloc (.cells #[.int .i64 x.k,.int .i64 x.f,.int .i64 x.t,.int .i64 x.u,.slice ka n kc,.bool x.y] 38));obtain⟨xb,hxb⟩:=eu (wr.heap.size);have hb3:Below wr.heap.size wr w3:=hw3▸dZ wr _;have blk:w3.heap[xb]?=some (.cells #[.int .i64 x.k,.int .i64 x.f,.int .i64 x.t,.int .i64 x.u,.slice ka n kc,.bool x.y] 38 (0,0)):=Qq
   have n4:=fq blk 4;have aS:B<=wr.heap.size:=by have:=(HO.out.lt B rfl).2;omega
   have HB3:=dY (ag.out.trans (hb3.mono aS));have Cw:=dY (show w3.ownsRow B 4 pR.k (.slice (some ⟨B,0,none⟩) N N) (marks N (yu l i++x.ks.take 0)).length (pR.all (marks N (yu l i++x.ks.take 0)))from by rw[vT,nJ];exact own_below HO.out hb3)
   have aT:=dY (λW (hb:Below B w1 W)=>show Kt W ka x.ks from λj z hz=>by
    obtain⟨kb,ko,e,hc⟩:=hkr j z hz
    exact⟨kb,ko,e,eB (aa.out W hb) hc⟩)
   obtain⟨ay,Hn,HW3,aH⟩:=oK hx hn hw3 hxb;clear hx hn hw3 hxb hb3 blk hkr hbw;go_upto_region 5 with fail
   rw[HW3.out,aH.out];clear HW3 aH x0 x1 x2 x3 x4 x5 ct;go_wp2_with fail
   clear n4;obtain⟨wo,hwo⟩:∃wo:World,wo=wr:=⟨_,rfl⟩
   go_loopw [23] (λkv wx=>∃(k:Nat),kv=.int .i64 k/\k<=n/\Hid (∀(j:Nat) z,j<k->x.ks[j]?=some z->Pp l i x j z)/\Hid (wx.ownsRow B 4 pR.k (.slice (some ⟨B,0,none⟩) N N) (marks N (yu l i++x.ks.take k)).length (pR.all (marks N (yu l i++x.ks.take k))))/\Hid (Below B w1 wx)) (λkv _=>n-(intOf kv).toNat)
   case atStart=>exact⟨0,rfl,fP _,dY (λj z hj=>absurd hj (pK j)),Cw,HB3⟩
   case round=>
    clear Cw HB3;obtain⟨k,rfl,hkn,aI,az,af⟩:=hrel
    rename World=>w4
    have ct:=ax.out w4 af.out;by_cases aj:k<n
    ·obtain⟨z,hz⟩:∃z,x.ks[k]?=some z:=⟨_,fu (by rw[Hn.out];exact aj)⟩
     obtain⟨kb,ko,rfl,z0⟩:=aT.out w4 af.out k z hz;have hkk:(k:Int)<(n:Int):=dS
     have aJ:B<=w4.heap.size:=by have:=(az.out.lt B rfl).2;omega
     have HZ:=dY hz;have ah:=dY (fun(h:¬Pp l i x k z)=>aP.out i k x z ay.out hz h);clear hz;by_cases q1:z<=(i:Int)
     ·have hr:=ah.out (λh=>by have:=h.1;omega);have d1:decide (z<=(i:Int))=true:=kD q1;have HD:=dY (HQ.out false w4 ⟨hr.symm,aa.out w4 af.out⟩);clear hr;go_wp2_with fail
      exact HD.out
     have d1:decide (z<=(i:Int))=false:=ic q1;have aU:=dY (HH.out z w4);go_wp2_with fail
     refine aU.out.mono ?_;rintro e w5 ⟨rfl,hb5⟩;have aX:=eB hb5 ct;have tY:=dY (af.out.trans (hb5.mono aJ));have aA:=dY (own_below az.out hb5);clear hb5 z0 ct;cases hh:Dt N z with
     |false=>
      have hr:=ah.out (λh=>by
       have h1:=h.1;have h2:=h.2.1;rw[HN.out]at h2;unfold Dt at hh;have e1:(0:Int)<=z:=dS
       simp[e1,h2]at hh)
      have HD:=dY (HQ.out false w5 ⟨hr.symm,aa.out w5 tY.out⟩);clear hr hh;go_wp2_with fail
      exact HD.out
     |true=>
      obtain⟨zn,rfl⟩:∃zn:Nat,z=(zn:Int):=⟨z.toNat,Jq⟩
      have aK:zn<N:=Jq
      obtain⟨c,hc⟩:∃c,l[zn]?=some c:=⟨_,fu (by rw[HN.out];exact aK)⟩
      obtain⟨b9,ah4,_,_,he,-,-,-,c3,-,-,-,-⟩:=HX.out w5 (aa.out w5 tY.out) zn c hc;injection he with he
      injection he with e3 e4
      subst e3 e4;have hzi:(zn:Int)<(N:Int):=dS
      clear hh;by_cases q2:c.u=(i:Int)
      case neg=>
       have hr:=ah.out (λh=>q2 (h.2.2.1 c (by rw[jd];exact hc)));have n2:(c.u==(i:Int))=false:=by simp[q2]
       have m2:(c.u !=(i:Int))=true:=by simp[q2]
       have HD:=dY (HQ.out false w5 ⟨hr.symm,aa.out w5 tY.out⟩);clear hr hc q2;go_wp2_with fail
       exact HD.out
      have n2:(c.u==(i:Int))=true:=by simp[q2]
      have m2:(c.u !=(i:Int))=false:=by simp[q2]
      obtain⟨sb,hsb⟩:=eu (decide ((zn:Int)∈yu l i++x.ks.take k));have hm:=uH (N:=N) (yu l i++x.ks.take k) aK;rw[hsb]at hm;have s0:w5.cell? ⟨B,zn,none⟩=some (.bool sb):=by
       have h5:=aA.out.cells (g:=B) rfl _ _ ((iJ pR (marks N (yu l i++x.ks.take k)) zn _ hm 0 dU).trans rfl);rw[fT,jY]at h5;rw[show zn*pR.k+0=zn from by show zn*1+0=zn;omega]at h5;exact h5
      cases sb with
      |true=>
       have hmem:=pM hsb
       have hr:=ah.out (λh=>by
        rcases kC.1 hmem with h1|h1
        ·obtain⟨j,y,hj,hy,aV⟩:=zT i h1;obtain⟨k',hk'⟩:=jy aV;have hp:=HP.out j y hj hy k' _ hk';have:=hp.2.2.1 c (by rw[jd];exact hc);omega
        ·exact h.2.2.2 h1)
       have HD:=dY (HQ.out false w5 ⟨hr.symm,aa.out w5 tY.out⟩);clear hr hc q2 hsb hm hmem;go_wp2_with fail
       exact HD.out
      |false=>
       have hnm:=ahW hsb
       have hpr:Pp l i x k (zn:Int):=⟨dS,mP,λd hd=>by
        rw[jd,hc]at hd
        rw[<-iG hd];exact q2,λh=>hnm (kC.2 (.inr h))⟩
       have ak:=dY (show∀(j:Nat) z,j<k+1->x.ks[j]?=some z->Pp l i x j z from λj z hj hz=>by
        by_cases e:j=k
        ·subst e;rw[HZ.out]at hz;rw[<-iG hz];exact hpr
        ·exact aI.out j z dS hz)
       obtain⟨gx,aY,aL,-,hfx,-,-⟩:=jf (E:=pR) aA.out (by rw[nM];exact hpos);have ex:=(lX aL).1;injection ex with ex
       injection ex with ex
       have f0:w5.frozen? ⟨B,zn,none⟩=false:=Jl
       have hst:=ou aA.out zn 0 false true (.bool true) hm rfl dU;rw[Xt,show yu l i++x.ks.take k++[(zn:Int)]=yu l i++x.ks.take (k+1)from by rw[Dq,HZ.out,pI];rfl,show zn*pR.k+0=zn from by show zn*1+0=zn;omega]at hst;have aM:=dY hst;have tN:=dY (tY.out.setCell (p:=⟨B,zn,none⟩) (eO B) (.bool true));clear hc q2 hsb hm hnm hpr aL hfx ex hst;go_wp2_with fail
       go_roundw
       case rel=>
        first
         |exact⟨k+1,fH,dS,ak,aM,tN⟩
         |((repeat apply Exists.intro);exact⟨⟨k+1,fH,dS,ak,aM,tN⟩,rfl⟩)
       case measure=>simp[intOf];omega
    ·obtain rfl:k=n:=by omega
     have hkk:¬((k:Int)<(k:Int)):=dS
     have o9:=dY (show Ml l (i+1)from λj y hj hy k' z hz=>by
      by_cases e:j=i
      ·subst e;rw[ay.out]at hy;obtain rfl:=iG hy;exact aI.out k' z (by rw[<-Hn.out];exact(eY.1 hz).1) hz
      ·exact HP.out j y dS hy k' z hz)
     have aN:=dY (show w4.ownsRow B 4 pR.k (.slice (some ⟨B,0,none⟩) N N) (marks N (yu l (i+1))).length (pR.all (marks N (yu l (i+1))))from by
      rw[Am ay.out];have h5:=az.out;rw[zw (by rw[Hn.out];exact eO _)]at h5
      exact h5)
     clear aj ct;go_wp2_with fail
     go_roundw
     case rel=>
      first
       |exact⟨i+1,fH,dS,o9,aN,af⟩
       |((repeat apply Exists.intro);exact⟨⟨i+1,fH,dS,o9,aN,af⟩,rfl⟩)
     case measure=>simp[intOf];omega
  ·obtain rfl:i=N:=by omega
   have hii:¬((i:Int)<(i:Int)):=dS
   have hr:=aD.out HP.out;have hrd:=Reads.fo (E:=pR) HO.out;obtain⟨Mk,aB⟩:=eu (marks i (yu l i));have aC:Mk.length=i:=by rw[<-aB,nM]
   rw[aB]at hr hrd;have av:Reads pR wr (.slice (some ⟨B,0,none⟩) Mk.length i) Mk:=by rw[aC];exact hrd
   obtain⟨v,hsl,hv⟩:=ag6 tyB av (n:=1) dS;rw[aC]at hsl;have hsl1:=λW=>show(Instr.slice 82 (.slice (some ⟨B,0,none⟩) i i) (some (.int .i64 1)) none none).run prog W=.ok v W from hsl W
   have uO:=dY (adV v (Mk.drop 1) wr hv jc);obtain⟨cf,hcf⟩:=eu ((Mk.drop 1).contains false);rw[hcf]at uO hr;obtain⟨HR,aW⟩:=fw hr (aa.out wr ag.out);clear ai hr hrd aB aC av hsl hv hcf;go_wp2_with fail
   refine uO.out.mono ?_;rintro e w9 ⟨rfl,GJ⟩;have HD:=dY (HQ.out (!cf) w9 ⟨HR.out.symm,eD aW.out GJ⟩);clear GJ;go_wp2_with fail
   exact HD.out
end
section
open Go.RowKit
open Sq
open Ar
namespace Ar
def yD(l:List Nd):Bool:=l.all (nG l)
theorem agJ{l:List Nd}{i:Nat}{x:Nd}(hx:l[i]?=some x)(h:nG l x=false):yD l=false:=by
 unfold yD;rw[List.all_eq_false];exact⟨x,gW hx,by rw[h];decide⟩
theorem NY{l:List Nd}(h:∀(i:Nat) x,l[i]?=some x->nG l x=true):yD l=true:=by
 unfold yD;rw[IQ];intro x hx;obtain⟨i,hi⟩:=jy hx;exact h i x hi
theorem NZ{l:List Nd}:yD l=true↔ae0 l:=by
 constructor
 ·intro h i x hx;unfold yD at h;exact IQ.1 h x (gW hx)
 ·intro h;exact NY h
theorem adX(l:List Nd)(n:Int):checkN l n=(sU l n&&DR l&&yD l):=by
 rw[qb];simp only[rO];constructor
 ·intro h;obtain⟨h1,h2,h3⟩:=Tm h;exact⟨⟨h1,Fb.2 h2⟩,NZ.2 h3⟩
 ·rintro⟨⟨h1,h2⟩,h3⟩;exact adS h1 (Fb.1 h2) (NZ.1 h3)
end Ar
theorem adY(v:Value)(l:List Nd)(w:World)(h:qi w v l)(hs:l.length<=20000)(hk:∀x∈l,x.ks.length<=20000)(hin:∀x∈l,∀z∈x.ks,0<=z/\z<l.length):
 Calls prog 29 #[.agg #[v]] w (λe w'=>e=.returned (.bool (yD l))/\Below w.heap.size w w'):=by
 obtain⟨a,cap,rfl⟩:=h.shape;obtain⟨R,hR⟩:=eu (yD l);have hno:=λi x=>agJ (l:=l) (i:=i) (x:=x)
 have ae:=NY (l:=l);rw[hR]at hno ae⊢;have HQ:=dY (λb w'=>show(b=R/\Below w.heap.size w w')->(λe (w':World)=>e=Ending.returned (.bool R)/\Below w.heap.size w w') (.returned (.bool b)) w' from λh=>⟨by rw[h.1],h.2⟩);obtain⟨Q,hQ⟩:=eu ((λe (w':World)=>e=Ending.returned (.bool R)/\Below w.heap.size w w'));rw[hQ]at HQ⊢;have HX:=dY (λW (hb:Below w.heap.size w W) j x (hj:l[j]?=some x)=>(h.below hb).at_ j x hj);obtain⟨ay,rM⟩:=fw hk hin;obtain⟨N,hN⟩:=eu (l.length);rw[hN]at hs⊢;obtain⟨HN,az,aj⟩:=je hN hno ae;obtain⟨w1,hw1⟩:=eu (w.alloc (.cells #[.slice a N cap] 31));obtain⟨Bt,pW⟩:=eu (w.heap.size);have hb1:Below w.heap.size w w1:=hw1▸dZ w _;have ct:w1.cell? ⟨Bt,0,none⟩=some (.slice a N cap):=D4
 have aA:=dY (λW (hb:Below w1.heap.size w1 W)=>eB hb ct);have aa:=dY (λW (hb:Below w1.heap.size w1 W)=>eD hb1 hb);obtain⟨HW1,rJ⟩:=fw hw1 pW;clear h hk hQ hN hR hno ae hw1 pW hb1 hin
 go_enter func29,ntmps29
 go_upto_region 1 with fail
 rw[HW1.out,rJ.out];clear HW1 rJ;go_wp2_with fail
 go_loopw [11] (λiv wr=>∃(i:Nat),iv=.int .i64 i/\i<=N/\Hid (∀(j:Nat) x,j<i->l[j]?=some x->nG l x=true)/\Hid (Below w1.heap.size w1 wr)) (λiv _=>N-(intOf iv).toNat)
 case atStart=>exact⟨0,rfl,fP _,dY (λj x hj=>absurd hj (pK j)),dY (fD _ _)⟩
 case round=>
  clear ct;obtain⟨i,rfl,hi,HA,af⟩:=hrel;by_cases ag:i<N
  ·obtain⟨x,hx⟩:∃x,l[i]?=some x:=⟨_,fu (by rw[HN.out];exact ag)⟩
   obtain⟨b,off,ka,kc,rfl,x0,x1,x2,x3,x4,x5,hkr,-⟩:=HX.out wr (aa.out wr af.out) i x hx;have hii:(i:Int)<(N:Int):=dS
   have hkl:=ay.out x (gW hx);obtain⟨n,hn⟩:=eu (x.ks.length);rw[hn]at x4 hkl;obtain⟨w3,hw3⟩:=eu (wr.alloc (.cells #[.int .i64 x.k,.int .i64 x.f,.int .i64 x.t,.int .i64 x.u,.slice ka n kc,.bool x.y] 38));obtain⟨xb,hxb⟩:=eu (wr.heap.size);have hb3:Below wr.heap.size wr w3:=hw3▸dZ wr _;have blk:w3.heap[xb]?=some (.cells #[.int .i64 x.k,.int .i64 x.f,.int .i64 x.t,.int .i64 x.u,.slice ka n kc,.bool x.y] 38 (0,0)):=Qq
   have n1:=fq blk 1;have n2:=fq blk 2;have n4:=fq blk 4;have HB3:=dY (af.out.trans (hb3.mono af.out.size));have aD:=aA.out w3 HB3.out
   have aB:=dY (show Kt w3 ka x.ks from λj z hz=>by
    obtain⟨kb,ko,e,hc⟩:=hkr j z hz
    exact⟨kb,ko,e,eB hb3 hc⟩)
   obtain⟨ak,Hn,HW3,av⟩:=oK hx hn hw3 hxb;obtain⟨O,hO⟩:=eu (yK l x.f x.ks);obtain⟨HO,ax⟩:=fw hO (az.out i x hx);clear hx hn hw3 hxb hb3 blk hkr hO;go_upto_region 4 with fail
   rw[HW3.out,av.out];clear HW3 av x0 x1 x2 x3 x4 x5;go_wp2_with fail
   clear n1 n4
   go_loopw [5,20] (λpv kv wx=>∃(k:Nat)(p:Int),pv=.int .i64 p/\kv=.int .i64 k/\k<=n/\Hid (yK l p (x.ks.drop k)=O)/\w3=wx) (λ_ kv _=>n-(intOf kv).toNat)
   case atStart=>exact⟨0,x.f,rfl,rfl,fP _,HO,rfl⟩
   case round=>
    obtain⟨k,p,rfl,rfl,hkn,HF,rfl⟩:=hrel;by_cases ah:k<n
    ·obtain⟨z,hz⟩:∃z,x.ks[k]?=some z:=⟨_,fu (by rw[Hn.out];exact ah)⟩
     have hdr:x.ks.drop k=z::x.ks.drop (k+1):=by
      have h1:=(eY.1 hz)
      rw[xz h1.1,h1.2]
     obtain⟨kb,ko,rfl,z0⟩:=aB.out k z hz;have hkk:(k:Int)<(n:Int):=dS
     have ai:=rM.out x (gW ak.out) z (gW hz);rw[HN.out]at ai;obtain⟨zn,rfl⟩:∃zn:Nat,z=(zn:Int):=⟨z.toNat,dS⟩
     obtain⟨c,hc⟩:∃c,l[zn]?=some c:=⟨_,fu mP⟩
     obtain⟨b9,ah4,_,_,he,-,c1,c2,-,-,-,-,-⟩:=HX.out w3 (aa.out w3 HB3.out) zn c hc;injection he with he
     injection he with e3 e4
     subst e3 e4;have hzi:(zn:Int)<(N:Int):=dS
     have hf:=HF.out;rw[hdr,yK,jd,hc]at hf;dsimp only at hf;clear hdr hc hz ai;by_cases q:c.f<p
     ·rw[dX q]at hf;have hr:=ax.out (by unfold nG;rw[HO.out,<-hf]);have d1:decide (c.f<p)=true:=kD q;have HD:=dY (HQ.out false w3 ⟨hr.symm,aa.out w3 HB3.out⟩);clear hr hf;go_wp2_with fail
      exact HD.out
     ·rw[dW q]at hf;have d1:decide (c.f<p)=false:=ic q;have aC:=dY hf;clear hf;go_wp2_with fail
      go_roundw
      case rel=>exact⟨k+1,c.t,Jw,fH,dS,aC,Jw⟩
      case measure=>simp[intOf];omega
    ·obtain rfl:k=n:=by omega
     have hkk:¬((k:Int)<(k:Int)):=dS
     have hf:=HF.out;rw[OY (by rw[Hn.out];exact eO _),yK]at hf;have hnd:nG l x=decide (p<=x.t):=by unfold nG;rw[HO.out,<-hf]
     clear ah hf;by_cases q:x.t<p
     ·have hr:=ax.out (by rw[hnd];exact ic dS);have d1:decide (x.t<p)=true:=kD q;have HD:=dY (HQ.out false w3 ⟨hr.symm,aa.out w3 HB3.out⟩);clear hr hnd;go_wp2_with fail
      exact HD.out
     ·have d1:decide (x.t<p)=false:=ic q
      have HA2:=dY (show∀(j:Nat) y,j<i+1->l[j]?=some y->nG l y=true from λj y hj hy=>by
       by_cases e:j=i
       ·rw[e,ak.out]at hy;rw[<-iG hy,hnd];exact kD dS
       ·exact HA.out j y dS hy)
      clear hnd;go_wp2_with fail
      go_roundw
      case rel=>
       first
        |exact⟨i+1,fH,dS,HA2,HB3⟩
        |((repeat apply Exists.intro);exact⟨⟨i+1,fH,dS,HA2,HB3⟩,rfl⟩)
      case measure=>simp[intOf];omega
  ·obtain rfl:i=N:=by omega
   have hii:¬((i:Int)<(i:Int)):=dS
   have hr:=aj.out (λj x hx=>HA.out j x (by rw[<-HN.out];exact(eY.1 hx).1) hx);have HD:=dY (HQ.out true wr ⟨hr.symm,aa.out wr af.out⟩);clear ag hr;go_wp2_with fail
   exact HD.out
theorem agK:∀(v:Value)(l:List Nd)(n:Int)(w:World),qi w v l->l.length<=20000->(∀x∈l,x.ks.length<=20000)->
 Calls prog 14 #[.agg #[v],.int .i64 n] w (λe w'=>e=.returned (.bool (checkN l n))/\Below w.heap.size w w'):=by
 intro v l n w h hs hk;obtain⟨a,cap,rfl⟩:=h.shape;have af:=Fb (l:=l);have hce:=adX l n;obtain⟨R,hR⟩:=eu (checkN l n);rw[hR]at hce⊢;have hpos:sU l n=true->0<l.length:=λe=>by
  cases l with
  |nil=>cases e
  |cons _ _=>simp
 have aa:=dY (λW (hb:Below w.heap.size w W)=>agH _ l n W (h.below hb) dS);have ae:=dY (λW (hb:Below w.heap.size w W)(hp:0<l.length)=>alf _ l W (h.below hb) dS hp (λx hx=>iU (hk x hx) dS))
 have HOr:=dY (λW (hb:Below w.heap.size w W)(hp:kM l)=>adY _ l W (h.below hb) dS (λx hx=>iU (hk x hx) dS) (λx hx z hz=>by
  obtain⟨i,hi⟩:=jy hx;obtain⟨k,hkk⟩:=jy hz;have:=hp.1 i x (eY.1 hi).1 hi k z hkk
  exact⟨by have:=this.1;omega,this.2.1⟩))
 obtain⟨bg,hbg⟩:=eu (sU l n);obtain⟨he,ag⟩:=eu (DR l);obtain⟨od,hod⟩:=eu (yD l);rw[hbg,ag,hod]at hce;rw[hbg]at aa hpos;rw[ag]at ae af;rw[hod]at HOr;obtain⟨N,hN⟩:=eu (l.length);rw[hN]at hs aa ae HOr hpos⊢;obtain⟨w1,hw1⟩:=eu (w.alloc (.cells #[.slice a N cap] 31));obtain⟨Bt,pW⟩:=eu (w.heap.size);have hb1:Below w.heap.size w w1:=hw1▸dZ w _;have ct:w1.cell? ⟨Bt,0,none⟩=some (.slice a N cap):=D4
 obtain⟨HB1,HW1,rJ,ah,ax,ai⟩:=kG hb1 hw1 pW hpos af (aa.out w1 hb1);clear h hk hN hR hw1 pW hb1 hbg ag hod hpos af aa
 go_enter func14,ntmps14
 go_upto_region 1 with fail
 rw[HW1.out,rJ.out];clear HW1 rJ;go_wp2_with fail
 refine ai.out.mono ?_;rintro e w2 ⟨rfl,hb2⟩;have aj:=eB hb2 ct;have HB2:=dY (eD HB1.out hb2);clear hb2 ct;cases bg with
 |false=>
  obtain rfl:R=false:=by rw[hce];rfl
  clear hce;go_wp2_with fail
  go_ret;exact⟨rfl,HB2.out⟩
 |true=>
  have ak:=dY (ae.out w2 HB2.out (ah.out rfl));clear ae;go_wp2_with fail
  refine ak.out.mono ?_;rintro e w3 ⟨rfl,hb3⟩;have ay:=eB hb3 aj;have HB3:=dY (eD HB2.out hb3);clear hb3 aj;cases he with
  |false=>
   obtain rfl:R=false:=by rw[hce];rfl
   clear hce;go_wp2_with fail
   go_ret;exact⟨rfl,HB3.out⟩
  |true=>
   obtain rfl:R=od:=by rw[hce];rfl
   have av:=dY (HOr.out w3 HB3.out (ax.out.1 rfl));clear hce HOr;go_wp2_with fail
   refine av.out.mono ?_;rintro e w4 ⟨rfl,hb4⟩;have qQ:=dY (eD HB3.out hb4);clear hb4;go_wp2_with fail
   go_ret;exact⟨rfl,qQ.out⟩
end
section
open Go.RowKit
open Sg
open Sq
open Ar
theorem Tq(b:List Nat)(d:Nat)(hb:b.length<=600)(h1:1<=d)(h2:d<=50):(Ps.tree b d).2.1.length<=20000/\∀x∈(Ps.tree b d).2.1,x.ks.length<=20000:=by
 have htl:=mq b;have hti:=Rw.iZ b;obtain⟨l,hl⟩:=eu (Sc.tokens b);have e:Ps.tree b d=(l,(Ps.read l d).t,Ps.qP ((Ps.read l d).d++Ps.jA b l)):=by unfold Ps.tree;rw[dW dS,hl]
 rw[hl]at htl hti;have hk:=Ft.adM (Ps.xN l d hti dS).1;have h3:=Ps.rA (depth:=d) hti (Rw.eF l) (Ps.start l) (λr hr=>⟨Ps.rows_ok l r hr,fP _⟩) (Ps.oF l dS) (fP _);have h4:=Ps.zo (depth:=d) hti (Rw.eF l) (Ps.start l) (λr hr=>⟨Ps.rows_ok l r hr,fP _⟩) (Ps.oF l dS) (by show(fU (l.length:Int)).length<=1+5*0;unfold fU;rw[dW dS];exact eO _);have h5:(Ps.read l d).t.length<=20000:=by
  unfold Ps.read;omega
 rw[e];exact⟨h5,λx hx=>iU (hk x hx) h5⟩
def zB(t:List Nd)(i:Nat):Nat:=(t.take i).countP (λx=>x.k==11)
theorem Tt{t:List Nd}{i:Nat}{x:Nd}(h:t[i]?=some x):zB t (i+1)=zB t i+(if x.k=11 then 1 else 0):=by
 have hi:=(eY.1 h).1;have he:=(eY.1 h).2;unfold zB;rw[Ve hi,rZ,he,XN];by_cases hk:x.k=11
 ·simp[hk]
 ·simp[hk]
theorem adZ(t:List Nd)(i:Nat):zB t i<=i:=by
 unfold zB;have:=XL (p:=λx:Nd=>x.k==11) (l:=t.take i);rw[mX]at this;omega
theorem Xv(t:List Nd):zB t t.length=t.countP (λx=>x.k==11):=by unfold zB;rw[LJ]
def vZ(D:List Fl.Dg)(i:Nat):Nat:=(D.take i).countP Ps.iX
theorem Tu{D:List Fl.Dg}{i:Nat}{x:Fl.Dg}(h:D[i]?=some x):vZ D (i+1)=vZ D i+(if Ps.iX x=true then 1 else 0):=by
 have hi:=(eY.1 h).1;have he:=(eY.1 h).2;unfold vZ;rw[Ve hi,rZ,he,XN]
theorem ad1(D:List Fl.Dg)(i:Nat):vZ D i<=i:=by
 unfold vZ;have:=XL (p:=Ps.iX) (l:=D.take i);rw[mX]at this;omega
theorem Xw(D:List Fl.Dg):vZ D D.length=D.countP Ps.iX:=by unfold vZ;rw[LJ]
theorem U5:∀(l:List Nat)(a M:Nat),(∀x∈l,a<=x/\x<M)->l.Pairwise (·<·)->l.length<=M-a
 |[],_,_,_,_=>fP _
 |x::r,a,M,h,hp=>by
  obtain⟨h1,h2⟩:=vI.1 hp;have hx:=h x aew;have ih:=U5 r (x+1) M (λy hy=>⟨h1 y hy,(h y (LD _ hy)).2⟩) h2;rw[iR];omega
theorem Tv(b:List Nat)(d:Nat)(hb:b.length<=600)(h1:1<=d)(h2:d<=50):∀x∈(Ps.tree b d).2.2,x.code<=10:=by
 have htl:=mq b;have hti:=Rw.iZ b;have e:Ps.tree b d=(Sc.tokens b,(Ps.read (Sc.tokens b) d).t,Ps.qP ((Ps.read (Sc.tokens b) d).d++Ps.jA b (Sc.tokens b))):=Qw
 rw[e];intro x hx;rcases kC.1 ((Ps.ry _ x).1 hx)with hx|hx
 ·obtain⟨f,t,_,_,_,_,_,g1,g2⟩:=(Ps.xN (Sc.tokens b) d hti dS).2.2.2 x hx;exact g2
 ·have:=(Ps.zQ b x hx).2.2;omega
def Vm(x:Fl.Dg):Nat:=(x.f*1000+x.t)*16+x.code
theorem ad2{x y:Fl.Dg}(hx:x.t<=600/\x.code<=10)(hy:y.t<=600/\y.code<=10)(h:Ps.less x y=true):Vm x<Vm y:=by
 unfold Ps.less at h;unfold Vm;by_cases e1:x.f=y.f
 ·rw[dX e1]at h;by_cases e2:x.t=y.t
  ·rw[dX e2]at h;have:=pM h;omega
  ·rw[dW e2]at h;have:=pM h;omega
 ·rw[dW e1]at h;have:=pM h;omega
theorem ad3{D:List Fl.Dg}(hs:Ps.By D)(hb:∀x∈D,x.f<=600/\x.t<=600/\x.code<=10):D.length<=1000000000:=by
 have h1:(D.map Vm).Pairwise (·<·):=by
  rw[aey];exact XJ (fun{x y} hx hy h=>ad2 (hb x hx).2 (hb y hy).2 h) hs
 have h2:=U5 (D.map Vm) 0 1000000000 (λk hk=>by
  obtain⟨x,hx,rfl⟩:=tC.1 hk;have:=hb x hx;unfold Vm
  omega) h1
 rw[jl]at h2;exact h2
theorem Gf(v0:Value)(l0:List Int)(v1:Value)(l1:List Int)(v2:Value)(s2:ByteArray)(dp:Int)(w:World)(h0:tK .i64 w v0 l0)(h1:tK .i64 w v1 l1)(h2:qR w v2 s2)(_:(Lit.int .i64 dp).wf=true)(hT:oZ w):
 Calls prog 3 #[v0,v1,v2,.int .i64 dp] w λe w'=>e=.returned (.bool true)/\Below w.heap.size w w':=by
 have HQ:=dY (λw'=>show Below w.heap.size w w'->(λe (w':World)=>e=Ending.returned (.bool true)/\Below w.heap.size w w') (.returned (.bool true)) w' from λh=>⟨rfl,h⟩);obtain⟨Q,hQ⟩:=eu ((λe (w':World)=>e=Ending.returned (.bool true)/\Below w.heap.size w w'));rw[hQ]at HQ⊢;have HK:=dY (Bl w hT);have HT:=dY (λW (hW:Below w.heap.size w W)=>hT.below hW);have Ja:=dY (λW (hW:Below w.heap.size w W)=>Ny v0 l0 v2 s2 W (h0.below hW) (h2.below hW));have F9:=dY (λW (hW:Below w.heap.size w W)=>uG v1 l1 W (h1.below hW));obtain⟨m,hm,hw1⟩:=sJ dp 20 20 rfl dU dU;have HW1:=dY hw1;obtain⟨d,hd⟩:=eu (m+1);have e1:IntKind.i64.wrap ((1:Int)+(m:Int))=(d:Int):=Ea
 have HE:=dY e1;have hd1:1<=d:=dS
 have hd2:d<=20:=dS
 clear hQ hT h0 h1 h2 hw1 e1
 go_enter func3,ntmps3
 go_wp2_with fail
 refine HK.out.mono ?_;rintro e w1 ⟨rfl,hb1⟩;have HB1:=dY hb1;clear hb1 HK;go_wp2_with fail
 refine(Ja.out w1 HB1.out).mono ?_;rintro e w2 ⟨va,Sa,rfl,hBa,aI,hb2⟩;have HB2:=dY (eD HB1.out hb2);obtain⟨aa,ca,rfl⟩:=hBa.shape;have yn:=dY hBa;clear hb2 Ja hBa;go_wp2_with fail
 refine(F9.out w2 HB2.out).mono ?_;rintro e w3 ⟨vb,Sb,rfl,hBb,hSb,-,hb3⟩;obtain⟨HB3,ag⟩:=fw (eD HB2.out hb3) (yn.out.below hb3);obtain⟨ab,cb,rfl⟩:=hBb.shape;have ak:=dY hBb;clear hb3 F9 hBb yn;obtain⟨ib,hib⟩:∃b,w3.heap.size=b:=⟨_,rfl⟩
 obtain⟨w4,hw4⟩:=eu (w3.alloc (.cells #[.slice aa Sa.size ca,.slice ab Sb.size cb] 23));have hrow:w4.heap[ib]?=some (.cells #[.slice aa Sa.size ca,.slice ab Sb.size cb] 23 (0,0)):=by rw[<-hw4,<-hib];exact lz _ _
 have hb4:Below w3.heap.size w3 w4:=hw4▸dZ w3 _
 have av:=dY (show∀k,k<2->∃v S,ahs ib w4 k v S from λk hk=>by
  have key:∀W,Below w4.heap.size w4 W->W.heap[ib]?=some (.cells #[.slice aa Sa.size ca,.slice ab Sb.size cb] 23 (0,0)):=λW hW=>(hW.block ib (gK hrow)).trans hrow
  match k,hk with
  |0,_=>exact⟨_,Sa,dS,λW hW=>⟨fq (key W hW) 0,(ag.out.below hb4).below hW⟩⟩
  |1,_=>exact⟨_,Sb,dS,λW hW=>⟨fq (key W hW) 1,(ak.out.below hb4).below hW⟩⟩)
 obtain⟨qQ,aJ,aK⟩:=je (eD HB3.out hb4) hw4 hib;clear hrow hb4 hw4 hib aI hSb ag ak;go_upto_region 4 with fail
 rw[aJ.out,aK.out];go_wp2_with fail
 go_loopw [10] (λiv wr=>∃k:Nat,iv=.int .i64 (k:Int)/\k<=2/\Hid (Below w4.heap.size w4 wr)) (λiv _=>2-(intOf iv).toNat)
 case atStart=>exact⟨0,rfl,dS,dY (fD _ _)⟩
 case round=>
  obtain⟨k,rfl,hk,HR⟩:=hrel;by_cases hlt:k<2
  ·obtain⟨tv0,S,hL2⟩:=av.out k hlt;have g1:(k:Int)<2:=by omega
   have hc1:=(hL2.2 wr HR.out).1;have hsz:=hL2.1;have hbw:Below w.heap.size w wr:=eD qQ.out HR.out;have Pv:=dY (λW (hW:Below wr.heap.size wr W)=>DJ W tv0 S d (hL2.2 W (eD HR.out hW)).2 (HT.out W (eD hbw hW)) dS hd1 dS);have hls:=Iu (Sc.eH S) d JE hd1 dS;have hcs:=Tv (Sc.eH S) d JE hd1 dS;obtain⟨X,hX⟩:=eu (Ps.tree (Sc.eH S) d);have hsm:=Tq (Sc.eH S) d JE hd1 dS;rw[hX]at Pv hls hsm hcs;have aL:=dY (ad3 hls.2.2.2.2.1 (λx hx=>by have h8:=hls.2.2.2.1 x hx;rw[Sc.fM]at h8;exact⟨dS,dS,hcs x hx⟩));obtain⟨NT,ax⟩:∃TK,X.1.length=TK:=⟨_,rfl⟩
   obtain⟨NN,ay⟩:∃TL,X.2.1.length=TL:=⟨_,rfl⟩
   obtain⟨ND,az⟩:∃DL,X.2.2.length=DL:=⟨_,rfl⟩
   have HLen:=dY (show X.1.length=NT/\X.2.1.length=NN/\X.2.2.length=ND from⟨ax,ay,az⟩);obtain⟨yo,HL2,aA,aM⟩:=oK hls hL2 hsm hbw;clear hls hsm hcs hX ax ay az hbw hsz hL2;go_upto_region 7 with fail
   go_cut [11,12,13] (λa b c wx=>∃bt ta tc na nc da dc,a=.slice ta NT tc/\b=.pointer (some ⟨bt,0,none⟩)/\c=.slice da ND dc/\Hid (yw X wr wx (.slice ta NT tc) (.slice na NN nc) (.slice da ND dc) bt))
   case first=>
    exact ZH
   case rest=>
    obtain⟨bt,ta,tc,na,nc,da,dc,rfl,rfl,rfl,hend⟩:=hcut
    rename World=>w5
    obtain⟨aN,GM,af⟩:=hend.out.1.reads;have hb5:=hend.out.2.2;have hbx:=jh hend.out.2.1;have ah:=GM.size_le;have ai:=af.size_le;rw[HLen.out.2.1]at ah;rw[HLen.out.2.2]at ai;have hNb:NN<=9223372036854775807:=iU ah dU;have aV:ND<=9223372036854775807:=iU ai dU;have tO:=dY (λW (hW:Below w5.heap.size w5 W)=>eB hW hbx);have aO:=dY (λW (hW:Below w5.heap.size w5 W)(i:Nat)(x:Nd)(hx:X.2.1[i]?=some x)=>iC.at_ (w:=W) (l:=X.2.1) (a:=na) (cap:=nc) (by rw[HLen.out.2.1];exact GM.below hW) i x hx);have aP:=dY (λW (hW:Below w5.heap.size w5 W)(j:Nat)(x:Fl.Dg)(hx:X.2.2[j]?=some x)=>lH (w:=W) (D:=X.2.2) (a:=da) (cap:=dc) (by rw[HLen.out.2.2];exact af.below hW) j x hx);have aQ:=dY (λW (hW:Below w5.heap.size w5 W)=>af.below hW);have aB:=dY (eD HR.out hb5);have hck:=agK (.slice na NN nc) X.2.1 (NT:Int) w5 GM.weak aA.out.1 aA.out.2;rw[<-HLen.out.1,yo.out.1,HLen.out.1]at hck;have aC:=dY hck;obtain⟨pa,pc,rfl⟩:=(HL2.out.2 wr HR.out).2.shape;obtain⟨SZ,hSZ⟩:=eu (S.size);have aR:=dY hSZ;have aD:=dY (λW (hW:Below w5.heap.size w5 W)=>(HL2.out.2 W (eD aB.out hW)).1);rw[hSZ]at aD;clear HL2 hSZ;clear hend hb5 aN GM af ah ai hc1 Pv aM hck;go_wp2_with fail
    refine aC.out.mono ?_;rintro e w6 ⟨rfl,hb6⟩;have tN:=dY hb6;have b0:=tO.out w6 hb6;clear hb6 hbx aC;go_upto_region 12 with fail
    go_loopw [14,16] (λcv iv wx=>∃i:Nat,iv=.int .i64 (i:Int)/\i<=NN/\cv=.int .i64 (zB X.2.1 i:Int)/\wx=w6) (λ_ iv _=>NN-(intOf iv).toNat)
    case atStart=>exact⟨0,rfl,dS,rfl,rfl⟩
    case round=>
     obtain⟨i,rfl,hi,rfl,rfl⟩:=hrel
     rename World=>wx
     have hC:=adZ X.2.1 i;by_cases hlt2:i<NN
     ·have g2:(i:Int)<(NN:Int):=by omega
      obtain⟨x,hx⟩:∃x,X.2.1[i]?=some x:=⟨_,fu (by rw[HLen.out.2.1];exact hlt2)⟩
      obtain⟨nb,off,ka,kc,rfl,c0,-,-,-,-,-,-⟩:=aO.out _ tN.out i x hx;have hs:=Tt hx;obtain⟨C,ae⟩:=eu (zB X.2.1 i);rw[ae]at hs hC⊢;have HS:=dY hs;clear hs hx ae;by_cases e:x.k=11
      ·have g3:(x.k==11)=true:=by simp[e]
       go_wp2_with fail
       go_roundw
       case rel=>exact⟨i+1,fH,dS,ZE,trivial⟩
       case measure=>simp[intOf];omega
      ·have g3:(x.k==11)=false:=by simp[e]
       go_wp2_with fail
       go_roundw
       case rel=>exact⟨i+1,fH,dS,ZF,trivial⟩
       case measure=>simp[intOf];omega
     ·obtain rfl:i=NN:=by omega
      have g2:¬((i:Int)<(i:Int)):=dS
      have hall:=Xv X.2.1;rw[HLen.out.2.1,yo.out.2.2.1]at hall;rw[hall];clear hall hC;go_upto_region 17 with fail
      go_loopw [15,17] (λcv iv wz=>∃j:Nat,iv=.int .i64 (j:Int)/\j<=ND/\cv=.int .i64 (vZ X.2.2 j:Int)/\Hid (Below w5.heap.size w5 wz)) (λ_ iv _=>ND-(intOf iv).toNat)
      case atStart=>exact⟨0,rfl,dS,rfl,tN⟩
      case round=>
       obtain⟨j,rfl,hj,rfl,HZ⟩:=hrel
       rename World=>wz
       have hC:=ad1 X.2.2 j;by_cases hlt3:j<ND
       ·have g6:(j:Int)<(ND:Int):=by omega
        obtain⟨g,hg⟩:∃g,X.2.2[j]?=some g:=⟨_,fu (by rw[HLen.out.2.2];exact hlt3)⟩
        obtain⟨db,aU,rfl,d0,d1,d2⟩:=aP.out wz HZ.out j g hg;have hs:=Tu hg;have hbd:=yo.out.2.2.2.1 g (gW hg);rw[Sc.fM,aR.out]at hbd;obtain⟨C,ae⟩:=eu (vZ X.2.2 j);rw[ae]at hs hC⊢;obtain⟨gc,hgc⟩:∃c,g.code=c:=⟨_,rfl⟩
        obtain⟨gf,hgf⟩:∃c,g.f=c:=⟨_,rfl⟩
        obtain⟨gt,hgt⟩:∃c,g.t=c:=⟨_,rfl⟩
        have hbe:Ps.iX g=((decide (5<=gc)&&decide (gc<=8))||gc==10):=by unfold Ps.iX;rw[hgc]
        have Vn:=dY hs;rw[hgc]at d0;rw[hgf]at d1 hbd;rw[hgt]at d2 hbd;have t1:decide ((gf:Int)<0)=false:=ic dS;have t2:decide ((gt:Int)<(gf:Int))=false:=ic dS;have t3:decide ((SZ:Int)<(gt:Int))=false:=ic dS;have t4:decide (gt<gf)=false:=ic dS;have t5:decide (SZ<gt)=false:=ic dS;have ci:=aD.out wz HZ.out;clear hs ae hgc hgf hgt hg hbd;by_cases q3:5<=gc
        ·have r3:(5:Int)<=(gc:Int):=by omega
         by_cases q4:gc<=8
         ·have r4:(gc:Int)<=8:=by omega
          exact Z5
         ·have r4:¬((gc:Int)<=8):=by omega
          by_cases q5:gc=10
          ·have r5:((gc:Int)==10)=true:=by simp[q5]
           exact Z5
          ·have r5:((gc:Int)==10)=false:=by simp;omega
           exact aaE
        ·have r3:¬((5:Int)<=(gc:Int)):=by omega
         have r5:((gc:Int)==10)=false:=eQ
         exact aaE
       ·obtain rfl:j=ND:=by omega
        have g6:¬((j:Int)<(j:Int)):=dS
        have hall:=Xw X.2.2;rw[HLen.out.2.2]at hall;rw[hall];clear hall hC;obtain⟨C,hC⟩:=eu (X.2.2.countP Ps.iX);rw[hC];have hrz:=aQ.out wz HZ.out;have aF:=dY (ale _ X.2.2 wz hrz yo.out.2.2.2.2.1 aL.out);have aG:=dY hrz;clear hC hrz;go_wp2_with fail
        refine aF.out.mono ?_;rintro e w8 ⟨sv,rfl,hsv,aj⟩;have aH:=dY (abG sv _ X.2.2 w8 hsv (aG.out.below aj));have aS:=dY (eD HZ.out aj);clear hsv aj aF aG;go_wp2_with fail
        refine aH.out.mono ?_;rintro e w9 ⟨rfl,GJ⟩;have aT:=dY (eD aB.out (eD aS.out GJ));clear GJ aH;go_wp2_with fail
        go_roundw
        case rel=>exact⟨k+1,fH,dS,aT⟩
        case measure=>simp[intOf];omega
  ·exact aat
end
end Go.Proofs.YtmkkdjpebbdikaaGreatDoor

import Derived.Test.YtfbiffdmhcjhbaaZa42
set_option linter.all false
set_option maxHeartbeats 16000000
set_option maxRecDepth 100000
set_option synthInstance.maxSize 4000
set_option synthInstance.maxHeartbeats 0
namespace Go.Proofs.Ytfbiffdmhcjhbaa
open Go.RowKit Try
section
open Go.RowKit
open Sg
open Sq
open Ar
open Fl (Tk)
theorem oM{w:World}{b:Nat}{x y:Value}{t:TypeId}(h:w.heap[b]?=some (.cells #[x,y] t (0,0)))(A B:Value):
 ((w.setCell ⟨b,0,none⟩ A).setCell ⟨b,1,none⟩ B).heap[b]?=some (.cells #[A,B] t (0,0)):=
 (uq (uq h A) B).trans rfl
theorem mX{w:World}{b c:Nat}{o:Obj}(h:w.heap[c]?=some o)(hne:b≠c)(A B:Value):
 ((w.setCell ⟨b,0,none⟩ A).setCell ⟨b,1,none⟩ B).heap[c]?=some o:=by
 show((w.setCell ⟨b,0,none⟩ A).setCell ⟨b,1,none⟩ B).heap[c]?=some o;exact(yK _ _ _ _ hne.symm).trans ((yK _ _ _ _ hne.symm).trans h)
theorem mY{w0 w:World}{b:Nat}(h:Below w0.heap.size w0 w)(hb:w0.heap.size<=b)(A B:Value):
 Below w0.heap.size w0 ((w.setCell ⟨b,0,none⟩ A).setCell ⟨b,1,none⟩ B):=
 (h.setCell (p:=⟨b,0,none⟩) hb A).setCell (p:=⟨b,1,none⟩) hb B
def uF(w0 w:World)(b c:Nat)(x y z u:Nat):Prop:=w.cell? ⟨b,0,none⟩=some (.int .i64 x)/\w.cell? ⟨b,1,none⟩=some (.int .i64 y)/\w.cell? ⟨c,0,none⟩=some (.int .i64 z)/\w.cell? ⟨c,1,none⟩=some (.int .i64 u)/\Below w0.heap.size w0 w
theorem uF.mk'{w0 w:World}{b c:Nat}{x y z u:Nat}{t:TypeId}(h1:w.heap[b]?=some (.cells #[.int .i64 x,.int .i64 y] t (0,0)))(h2:w.heap[c]?=some (.cells #[.int .i64 z,.int .i64 u] t (0,0)))(h:Below w0.heap.size w0 w):uF w0 w b c x y z u:=
 ⟨(nz h1 0).trans rfl,(nz h1 1).trans rfl,(nz h2 0).trans rfl,(nz h2 1).trans rfl,h⟩
theorem T4{l:List Tk}{T:List Nd}(ht:Rw.pI 0 l)(hc:Ck T l.length){i:Nat}{x:Nd}(hi:0<i)(hx:T[i]?=some x):
 ∃(u f t f' t':Nat)(p:Nd),x.u=(u:Int)/\u<T.length/\T[u]?=some p/\x.f=(f:Int)/\x.t=(t:Int)/\p.f=(f':Int)/\p.t=(t':Int)/\f<=t/\t<=l.length/\f'<=t'/\t'<=l.length/\
  (f<t->(Wk.oF l f' t').1<=(Wk.oF l f t).1/\(Wk.oF l f t).2<=(Wk.oF l f' t').2/\(Wk.oF l f t).1<(Wk.oF l f t).2)/\(f=t->(Wk.oF l f t).1=(Wk.oF l f t).2):=by
 obtain⟨u,p,e1,e2,e3,e4,e5,e6,e7⟩:=Wk.Ef hc hi hx;have h1:=Wk.all_in hc i x hx;have h2:=Wk.all_in hc u p e3;obtain⟨f,hf⟩:∃f:Nat,x.f=(f:Int):=⟨x.f.toNat,by omega⟩
 obtain⟨t,ht2⟩:∃t:Nat,x.t=(t:Int):=⟨x.t.toNat,by omega⟩
 obtain⟨f',hf'⟩:∃f:Nat,p.f=(f:Int):=⟨p.f.toNat,by omega⟩
 obtain⟨t',ht'⟩:∃t:Nat,p.t=(t:Int):=⟨p.t.toNat,by omega⟩
 have:=(nC.1 hx).1;refine⟨u,f,t,f',t',p,e1,by omega,e3,hf,ht2,hf',ht',by omega,by omega,by omega,by omega,λh=>TW ht (by omega) h (by omega) (by omega),λh=>?_⟩;subst h;exact Nb l f
theorem Dw(v0:Value)(l0:List Int)(n0:Int)(w:World)(h0:xU .i64 w v0 l0)(_:(Lit.int .i64 n0).wf=true):
 Calls prog 6 #[v0,.int .i64 n0] w λe w'=>e=.returned (.bool true)/\Below w.heap.size w w':=by
 obtain⟨Q,hQ⟩:=my ((λe (w':World)=>e=Ending.returned (.bool true)/\Below w.heap.size w w'));have HQ:=eu (λw' (h:Below w.heap.size w w')=>show Q (.returned (.bool true)) w' from by rw[<-hQ];exact⟨rfl,h⟩);rw[hQ];have HK:=eu (λW=>BI W);have kE:=eu (λW (hW:Below w.heap.size w W)=>TZ v0 l0 W (h0.below hW));obtain⟨m,hm,-,kF⟩:=vW n0 20 20 rfl (by decide) (by decide);have kG:=eu kF;obtain⟨d,hd⟩:=my (m+1);have e1:IntKind.i64.wrap ((1:Int)+(m:Int))=(d:Int):=by rw[qA _ (by omega)];omega
 have HE:=eu e1;have hd1:1<=d:=by omega
 have hd2:d<=50:=by omega
 clear hQ h0 kF e1 hd hm
 go_enter func6,ntmps6
 go_wp2_with fail
 refine(HK.out w).mono ?_;rintro e w1 ⟨rfl,hb1⟩;have HB1:=eu hb1;clear HK hb1;go_wp2_with fail
 refine(kE.out w1 HB1.out).mono ?_;rintro e w2 ⟨bv,b,rfl,hbs,hbz,hb2⟩;have HB2:=eu (lu HB1.out hb2);have eH:b.size<=16384:=by omega
 have HT:=Gh w2 bv b d hbs eH hd1 hd2;have htr:=Gg b d eH hd1 hd2;obtain⟨l,hl⟩:=my (Sc.tokens (Sc.ng b));obtain⟨T,hT⟩:=my ((Ps.tree (Sc.ng b) d).2.1);rw[hl,hT]at HT htr;have hsz:=htr.sz;have hln:=htr.len;have hpos:=htr.ck.pos;have kH:=eu htr;obtain⟨NL,jB⟩:=my (l.length);obtain⟨NN,jC⟩:=my (T.length);obtain⟨jD,iP⟩:=mR jB jC;rw[jB,jC]at HT;have l7:NL<=400:=by omega
 have l8:NN<=2001:=by omega
 have kI:1<=NN:=by omega
 have HT1:=eu HT;have e1:=HE.out;clear hb2 kE HT htr hl hT jB jC hsz hln hpos hbs hbz eH HB1 hd1 hd2;go_wp2_with fail
 refine(kG.out w2).mono ?_;rintro e mh ⟨rfl,rfl⟩;go_wp2_with fail
 refine HT1.out.mono ?_;rintro e w3 ⟨ta,tc,na,nc,dv,rfl,hR,hN,hb3⟩;obtain⟨bt,hbt⟩:=my (w3.heap.size);obtain⟨w4,hw4⟩:=my (w3.alloc (.cells #[.slice na NN nc] 28));have hb4:Below w3.heap.size w3 w4:=hw4▸mr w3 _;have c4:w4.cell? ⟨bt,0,none⟩=some (.slice na NN nc):=by rw[<-hw4,<-hbt];exact at_new rfl
 have lK:=eu (lu (lu HB2.out hb3) hb4);have kJ:=eu (λW (hW:Below w4.heap.size w4 W)=>(hN.below hb4).below hW);have lL:=eu (λW (hW:Below w4.heap.size w4 W)=>ku hW c4);have kK:=eu (λW kv k u y (f t:Nat)(hW:Below w4.heap.size w4 W)(h1:f<=t)(h2:t<=NL)=>OI W (.slice ta NL tc) kv l k u f t y ((hR.below hb4).below hW) (by rw[jD.out];omega) h1 (by rw[jD.out];exact h2))
 have kL:=eu (λW (hW:Below w4.heap.size w4 W) i x (hi:T[i]?=some x)=>by
  have h:=kJ.out W hW;rw[<-iP.out]at h
  exact h.at_ i x hi)
 obtain⟨kM,lM⟩:=mR hw4 hbt;clear hR hN hb3 hb4 hw4 hbt HT1 HB2 kG HE e1 c4;go_upto_region 4 with fail
 rw[lM.out,kM.out];clear kM;go_wp2_with fail
 go_loopw [8] (λiv wr=>∃(i:Nat),iv=.int .i64 i/\1<=i/\i<=NN/\Hid (Below w4.heap.size w4 wr)) (λiv _=>NN-(intOf iv).toNat)
 case atStart=>exact⟨1,rfl,mJ _,kI,eu (mF _ _)⟩
 case round=>
  obtain⟨i,rfl,hi1,hi2,HB⟩:=hrel;have cr:=lL.out wr HB.out;by_cases hlt:i<NN
  ·obtain⟨x,hx⟩:=pG T i (by rw[iP.out];exact hlt);obtain⟨u,f,t,f',t',p,hu,kN,hp,kP,hxt,kQ,hpt,hft,htl,kR,iQ,hS1,hS2⟩:=T4 kH.out.NK kH.out.ck (by omega) hx;rw[iP.out]at kN;rw[jD.out]at htl iQ;obtain⟨nb,no,ka,kc,rfl,x0,x1,x2,x3,x4,x5,-⟩:=kL.out wr HB.out i x hx;obtain⟨mi,mo,ja,jc,he,p0,p1,p2,p3,p4,p5,-⟩:=kL.out wr HB.out u p hp;injection he with he
   injection he with e1 e2
   subst e1 e2;rw[kP]at x1;rw[hxt]at x2;rw[hu]at x3;rw[kQ]at p1;rw[hpt]at p2;obtain⟨bn,hbn⟩:=my (wr.heap.size);obtain⟨w5,bP⟩:=my (wr.alloc (.cells #[.int .i64 x.k,.int .i64 f,.int .i64 t,.int .i64 u,.slice ka x.ks.length kc,.bool x.y] 37));have hb5:Below wr.heap.size wr w5:=bP▸mr wr _;have k0:w5.cell? ⟨bt,0,none⟩=some (.slice (some ⟨nb,no,none⟩) NN nc):=ku hb5 cr;have k1:w5.cell? ⟨bn,0,none⟩=some (.int .i64 x.k):=by rw[<-bP,<-hbn];exact at_new rfl
   have k2:w5.cell? ⟨bn,1,none⟩=some (.int .i64 f):=by rw[<-bP,<-hbn];exact at_new rfl
   have k3:w5.cell? ⟨bn,2,none⟩=some (.int .i64 t):=by rw[<-bP,<-hbn];exact at_new rfl
   have k4:w5.cell? ⟨bn,3,none⟩=some (.int .i64 u):=by rw[<-bP,<-hbn];exact at_new rfl
   have k5:w5.cell? ⟨bn,4,none⟩=some (.slice ka x.ks.length kc):=by rw[<-bP,<-hbn];exact at_new rfl
   have k6:w5.cell? ⟨bn,5,none⟩=some (.bool x.y):=by rw[<-bP,<-hbn];exact at_new rfl
   have q0:=ku hb5 p0;have q1:=ku hb5 p1;have q2:=ku hb5 p2;have q3:=ku hb5 p3;have q4:=ku hb5 p4;have q5:=ku hb5 p5;have jE:=eu (lu HB.out hb5);obtain⟨a1,ha1⟩:∃a,(Wk.oF l f t).1=a:=⟨_,rfl⟩
   obtain⟨a2,ha2⟩:∃a,(Wk.oF l f t).2=a:=⟨_,rfl⟩
   obtain⟨z1,hz1⟩:∃a,(Wk.oF l f' t').1=a:=⟨_,rfl⟩
   obtain⟨z2,hz2⟩:∃a,(Wk.oF l f' t').2=a:=⟨_,rfl⟩
   rw[ha1,ha2,hz1,hz2]at hS1;rw[ha1,ha2]at hS2
   have ed:=eu (show∀W,Below w5.heap.size w5 W->Calls prog 15 #[.slice ta NL tc,.agg #[.int .i64 x.k,.int .i64 f,.int .i64 t,.int .i64 u,.slice ka x.ks.length kc,.bool x.y]] W (λe w'=>e=.returned (.agg #[.int .i64 (a1:Nat),.int .i64 (a2:Nat)])/\Below W.heap.size W w')from λW hW=>by
    have h:=kK.out W (.slice ka x.ks.length kc) x.k u x.y f t (lu jE.out hW) hft htl
    rw[ha1,ha2]at h;exact h)
   obtain⟨pk,hpk⟩:∃k,p.k=k:=⟨_,rfl⟩
   obtain⟨pu,kS⟩:∃k,p.u=k:=⟨_,rfl⟩
   obtain⟨py,hpy⟩:∃k,p.y=k:=⟨_,rfl⟩
   obtain⟨pn,hpn⟩:∃k,p.ks.length=k:=⟨_,rfl⟩
   rw[hpk]at q0;rw[kS]at q3;rw[hpn]at q4;rw[hpy]at q5
   have aJ:=eu (show∀W,Below w5.heap.size w5 W->Calls prog 15 #[.slice ta NL tc,.agg #[.int .i64 pk,.int .i64 f',.int .i64 t',.int .i64 pu,.slice ja pn jc,.bool py]] W (λe w'=>e=.returned (.agg #[.int .i64 (z1:Nat),.int .i64 (z2:Nat)])/\Below W.heap.size W w')from λW hW=>by
    have h:=kK.out W (.slice ja pn jc) pk pu py f' t' (lu jE.out hW) kR iQ
    rw[hz1,hz2]at h;exact h)
   obtain⟨kT,lN⟩:=mR bP hbn;have g1:(i:Int)<(NN:Int):=by omega
   have g2:(u:Int)<(NN:Int):=by omega
   have g3:u<NN:=kN
   clear hx hp hu kP hxt kQ hpt bP hbn hb5 p0 p1 p2 p3 p4 p5 ha1 ha2 hz1 hz2 hpk kS hpy hpn;go_upto_region 8 with fail
   rw[lN.out,kT.out];clear kT cr x0 x1 x2 x3 x4 x5
   go_cut [10,11] (λa b wx=>∃b1 b2,a=.pointer (some ⟨b1,0,none⟩)/\b=.pointer (some ⟨b2,0,none⟩)/\Hid (uF w5 wx b1 b2 a1 a2 z1 z2))
   case first=>
    refine mK (λwx=>∀p v,w5.cell? p=some v->wx.cell? p=some v) 14 (by kernel_rfl) ?_;have hH:(λwx:World=>∀p v,w5.cell? p=some v->wx.cell? p=some v) w5.drew:=λp v h=>h
    refine mI 0 (.slice ta NL tc) rfl (by kernel_rfl) rfl mD (λW hW=>by go_simp) hH ?_;refine mI 1 (.agg #[.int .i64 x.k,.int .i64 f,.int .i64 t,.int .i64 u,.slice ka x.ks.length kc,.bool x.y]) rfl (by kernel_rfl) rfl mD (λW hW=>?_) hH ?_
    ·have z0:=hW _ _ k0;have y1:=hW _ _ k1;have y2:=hW _ _ k2;have y3:=hW _ _ k3;have y4:=hW _ _ k4;have y5:=hW _ _ k5;have y6:=hW _ _ k6;have r0:=hW _ _ q0;have r1:=hW _ _ q1;have r2:=hW _ _ q2;have r3:=hW _ _ q3;have r4:=hW _ _ q4;have r5:=hW _ _ q5;clear hW;go_simp
    refine mI 3 (.slice ta NL tc) rfl (by kernel_rfl) rfl mD (λW hW=>by go_simp) hH ?_;refine mI 4 (.pointer (some ⟨bt,0,none⟩)) rfl (by kernel_rfl) rfl mD (λW hW=>by go_simp) hH ?_;refine mI 5 (.slice (some ⟨nb,no,none⟩) NN nc) rfl (by kernel_rfl) rfl mD (λW hW=>?_) hH ?_
    ·have z0:=hW _ _ k0;have y1:=hW _ _ k1;have y2:=hW _ _ k2;have y3:=hW _ _ k3;have y4:=hW _ _ k4;have y5:=hW _ _ k5;have y6:=hW _ _ k6;have r0:=hW _ _ q0;have r1:=hW _ _ q1;have r2:=hW _ _ q2;have r3:=hW _ _ q3;have r4:=hW _ _ q4;have r5:=hW _ _ q5;clear hW;go_simp
    refine mI 6 (.pointer (some ⟨bn,3,none⟩)) rfl (by kernel_rfl) rfl mD (λW hW=>by go_simp) hH ?_;refine mI 7 (.int .i64 (u:Nat)) rfl (by kernel_rfl) rfl mD (λW hW=>?_) hH ?_
    ·have z0:=hW _ _ k0;have y1:=hW _ _ k1;have y2:=hW _ _ k2;have y3:=hW _ _ k3;have y4:=hW _ _ k4;have y5:=hW _ _ k5;have y6:=hW _ _ k6;have r0:=hW _ _ q0;have r1:=hW _ _ q1;have r2:=hW _ _ q2;have r3:=hW _ _ q3;have r4:=hW _ _ q4;have r5:=hW _ _ q5;clear hW;go_simp
    refine mI 8 (.pointer (some ⟨nb,no+u*6,none⟩)) rfl (by kernel_rfl) rfl mD (λW hW=>by go_simp) hH ?_;refine mI 9 (.agg #[.int .i64 pk,.int .i64 f',.int .i64 t',.int .i64 pu,.slice ja pn jc,.bool py]) rfl (by kernel_rfl) rfl mD (λW hW=>?_) hH ?_
    ·have z0:=hW _ _ k0;have y1:=hW _ _ k1;have y2:=hW _ _ k2;have y3:=hW _ _ k3;have y4:=hW _ _ k4;have y5:=hW _ _ k5;have y6:=hW _ _ k6;have r0:=hW _ _ q0;have r1:=hW _ _ q1;have r2:=hW _ _ q2;have r3:=hW _ _ q3;have r4:=hW _ _ q4;have r5:=hW _ _ q5;clear hW;go_simp
    refine pF (rs:=[2,11,12]) (by kernel_rfl) (by simp) ?_;refine mZ.cons (o:=⟨_,_,_,_,_,_⟩) rfl (λK hK=>?_) (mZ.cons (o:=⟨_,_,_,_,_,_⟩) rfl (λK hK=>?_) (mZ.cons (o:=⟨_,_,_,_,_,_⟩) rfl (λK hK=>?_) (mZ.nil)))
    ·go_simp;refine(ed.out w5.drew (mF w5.heap.size w5).drew).mono ?_;rintro e aK ⟨rfl,hc2⟩;have bY:=lu (mF w5.heap.size w5).drew hc2;refine hK.out _ _ (λ_=>λp v h=>ku bY h) (λhH2=>?_);clear hK K;replace hH:=hH2 (by kernel_rfl);clear hH2;try simp only[Act.put,mM,mP,mO]
     refine pF (rs:=[10,11,12]) (by kernel_rfl) (by simp) ?_;refine mZ.cons (o:=⟨_,_,_,_,_,_⟩) rfl (λK hK=>?_) (mZ.cons (o:=⟨_,_,_,_,_,_⟩) rfl (λK hK=>?_) (mZ.cons (o:=⟨_,_,_,_,_,_⟩) rfl (λK hK=>?_) (mZ.nil)))
     ·go_simp;refine(aJ.out aK bY).mono ?_;rintro e bA ⟨rfl,lQ⟩;have eO:=lu bY lQ;refine hK.out _ _ (λ_=>λp v h=>ku eO h) (λhH2=>?_);clear hK K;replace hH:=hH2 (by kernel_rfl);clear hH2;try simp only[Act.put,mM,mP,mO]
      refine pF (rs:=[11,12]) (by kernel_rfl) (by simp) ?_;refine mZ.cons (o:=⟨_,_,_,_,_,_⟩) rfl (λK hK=>?_) (mZ.cons (o:=⟨_,_,_,_,_,_⟩) rfl (λK hK=>?_) (mZ.nil))
      ·obtain⟨b7,hbb⟩:∃b,bA.heap.size=b:=⟨_,rfl⟩
       obtain⟨bZ,aa⟩:∃w,bA.alloc (.cells #[.int .i64 0,.int .i64 0] 43)=w:=⟨_,rfl⟩
       have kU:Below bA.heap.size bA bZ:=aa▸mr bA _;have jF:bZ.heap[b7]?=some (.cells #[.int .i64 0,.int .i64 0] 43 (0,0)):=by rw[<-aa,<-hbb];exact rA _ _
       have eP:=lu eO kU;have kV:w5.heap.size<=b7:=by rw[<-hbb];exact eO.size
       go_simp;try rw[aa]
       try rw[hbb]
       clear aa hbb;refine hK.out _ _ (λ_=>λp v h=>ku eP h) (λhH2=>?_);clear hK K;replace hH:=hH2 (by kernel_rfl);clear hH2;try simp only[Act.put,mM,mP,mO]
       refine oD 12 (by kernel_rfl) rfl λK hK=>?_
       obtain⟨b13,hbb⟩:∃b,bZ.heap.size=b:=⟨_,rfl⟩
       obtain⟨eQ,aa⟩:∃w,bZ.alloc (.cells #[.int .i64 0,.int .i64 0] 43)=w:=⟨_,rfl⟩
       have iR:Below bZ.heap.size bZ eQ:=aa▸mr bZ _;have kW:eQ.heap[b13]?=some (.cells #[.int .i64 0,.int .i64 0] 43 (0,0)):=by rw[<-aa,<-hbb];exact rA _ _
       have iT:=lu eP iR;have kX:w5.heap.size<=b13:=by rw[<-hbb];exact eP.size
       have bQ:=(iR.block _ (nQ jF)).trans jF;have hne:b7≠b13:=by have h9:=nQ jF;omega
       go_simp;try rw[aa]
       try rw[hbb]
       clear aa hbb;refine hK.out _ _ (λ_=>λp v h=>ku iT h) (λhH2=>?_);clear hK K;replace hH:=hH2 (by kernel_rfl);clear hH2;try simp only[Act.put,mM,mP,mO]
       refine oD 13 (by kernel_rfl) rfl λK hK=>?_
       have iU:=oM bQ (.int .i64 (a1:Nat)) (.int .i64 (a2:Nat));have eT:=mY iT kV (.int .i64 (a1:Nat)) (.int .i64 (a2:Nat));have bD:=mX kW (by first|exact hne|exact hne.symm) (.int .i64 (a1:Nat)) (.int .i64 (a2:Nat));have ae:=(nz bQ 0).trans rfl;have af:=(nz bQ 1).trans rfl;have ag:=oI bQ 0;have ah:=oI bQ 1;obtain⟨kY,aa⟩:∃w,(eQ.setCell ⟨b7,0,none⟩ (.int .i64 (a1:Nat))).setCell ⟨b7,1,none⟩ (.int .i64 (a2:Nat))=w:=⟨_,rfl⟩
       rw[aa]at eT;rw[aa]at bD;rw[aa]at iU;go_simp;try rw[aa]
       clear aa ae af ag ah;refine hK.out _ _ (λ_=>λp v h=>ku eT h) (λhH2=>?_);clear hK K;replace hH:=hH2 (by kernel_rfl);clear hH2;try simp only[Act.put,mM,mP,mO]
       refine oD 14 (by kernel_rfl) rfl λK hK=>?_
       have hx25:=oM bD (.int .i64 (z1:Nat)) (.int .i64 (z2:Nat));have iV:=mY eT kX (.int .i64 (z1:Nat)) (.int .i64 (z2:Nat));have hx27:=mX iU (by first|exact hne|exact hne.symm) (.int .i64 (z1:Nat)) (.int .i64 (z2:Nat));have ae:=(nz bD 0).trans rfl;have af:=(nz bD 1).trans rfl;have ag:=oI bD 0;have ah:=oI bD 1;obtain⟨l9,aa⟩:∃w,(kY.setCell ⟨b13,0,none⟩ (.int .i64 (z1:Nat))).setCell ⟨b13,1,none⟩ (.int .i64 (z2:Nat))=w:=⟨_,rfl⟩
       rw[aa]at iV;rw[aa]at hx27;rw[aa]at hx25;go_simp;try rw[aa]
       clear aa ae af ag ah;refine hK.out _ _ (pV (by kernel_rfl)) (λ_=>?_);clear hK K;try simp only[Act.put,mM,mP,mO]
       refine mH (by kernel_rfl) ?_ _;have hend:=eu (uF.mk' hx27 hx25 iV);go_wp2_with fail
       go_meet
       exact⟨b7,b13,rfl,rfl,hend⟩
      obtain⟨eB,hbb⟩:∃b,bA.heap.size=b:=⟨_,rfl⟩
      obtain⟨aL,aa⟩:∃w,bA.alloc (.cells #[.int .i64 0,.int .i64 0] 43)=w:=⟨_,rfl⟩
      have ha32:Below bA.heap.size bA aL:=aa▸mr bA _;have eU:aL.heap[eB]?=some (.cells #[.int .i64 0,.int .i64 0] 43 (0,0)):=by rw[<-aa,<-hbb];exact rA _ _
      have eX:=lu eO ha32;have kZ:w5.heap.size<=eB:=by rw[<-hbb];exact eO.size
      go_simp;try rw[aa]
      try rw[hbb]
      clear aa hbb;refine hK.out _ _ (λ_=>λp v h=>ku eX h) (λhH2=>?_);clear hK K;replace hH:=hH2 (by kernel_rfl);clear hH2;try simp only[Act.put,mM,mP,mO]
      refine oD 11 (by kernel_rfl) rfl λK hK=>?_
      obtain⟨eD,hbb⟩:∃b,aL.heap.size=b:=⟨_,rfl⟩
      obtain⟨eY,aa⟩:∃w,aL.alloc (.cells #[.int .i64 0,.int .i64 0] 43)=w:=⟨_,rfl⟩
      have iW:Below aL.heap.size aL eY:=aa▸mr aL _;have bR:eY.heap[eD]?=some (.cells #[.int .i64 0,.int .i64 0] 43 (0,0)):=by rw[<-aa,<-hbb];exact rA _ _
      have iX:=lu eX iW;have lg:w5.heap.size<=eD:=by rw[<-hbb];exact eX.size
      have lh:=(iW.block _ (nQ eU)).trans eU;have hne:eB≠eD:=by have h9:=nQ eU;omega
      go_simp;try rw[aa]
      try rw[hbb]
      clear aa hbb;refine hK.out _ _ (λ_=>λp v h=>ku iX h) (λhH2=>?_);clear hK K;replace hH:=hH2 (by kernel_rfl);clear hH2;try simp only[Act.put,mM,mP,mO]
      refine oD 13 (by kernel_rfl) rfl λK hK=>?_
      have iY:=oM bR (.int .i64 (a1:Nat)) (.int .i64 (a2:Nat));have eZ:=mY iX lg (.int .i64 (a1:Nat)) (.int .i64 (a2:Nat));have bE:=mX lh (by first|exact hne|exact hne.symm) (.int .i64 (a1:Nat)) (.int .i64 (a2:Nat));have ae:=(nz bR 0).trans rfl;have af:=(nz bR 1).trans rfl;have ag:=oI bR 0;have ah:=oI bR 1;obtain⟨ll,aa⟩:∃w,(eY.setCell ⟨eD,0,none⟩ (.int .i64 (a1:Nat))).setCell ⟨eD,1,none⟩ (.int .i64 (a2:Nat))=w:=⟨_,rfl⟩
      rw[aa]at eZ;rw[aa]at bE;rw[aa]at iY;go_simp;try rw[aa]
      clear aa ae af ag ah;refine hK.out _ _ (λ_=>λp v h=>ku eZ h) (λhH2=>?_);clear hK K;replace hH:=hH2 (by kernel_rfl);clear hH2;try simp only[Act.put,mM,mP,mO]
      refine oD 14 (by kernel_rfl) rfl λK hK=>?_
      have iZ:=oM bE (.int .i64 (z1:Nat)) (.int .i64 (z2:Nat));have jb:=mY eZ kZ (.int .i64 (z1:Nat)) (.int .i64 (z2:Nat));have jd:=mX iY (by first|exact hne|exact hne.symm) (.int .i64 (z1:Nat)) (.int .i64 (z2:Nat));have ae:=(nz bE 0).trans rfl;have af:=(nz bE 1).trans rfl;have ag:=oI bE 0;have ah:=oI bE 1;obtain⟨ma,aa⟩:∃w,(ll.setCell ⟨eB,0,none⟩ (.int .i64 (z1:Nat))).setCell ⟨eB,1,none⟩ (.int .i64 (z2:Nat))=w:=⟨_,rfl⟩
      rw[aa]at jb;rw[aa]at jd;rw[aa]at iZ;go_simp;try rw[aa]
      clear aa ae af ag ah;refine hK.out _ _ (pV (by kernel_rfl)) (λ_=>?_);clear hK K;try simp only[Act.put,mM,mP,mO]
      refine mH (by kernel_rfl) ?_ _;have hend:=eu (uF.mk' jd iZ jb);go_wp2_with fail
      go_meet
      exact⟨eD,eB,rfl,rfl,hend⟩
     ·obtain⟨bB,hbb⟩:∃b,aK.heap.size=b:=⟨_,rfl⟩
      obtain⟨aH,aa⟩:∃w,aK.alloc (.cells #[.int .i64 0,.int .i64 0] 43)=w:=⟨_,rfl⟩
      have lq:Below aK.heap.size aK aH:=aa▸mr aK _;have bS:aH.heap[bB]?=some (.cells #[.int .i64 0,.int .i64 0] 43 (0,0)):=by rw[<-aa,<-hbb];exact rA _ _
      have bT:=lu bY lq;have je:w5.heap.size<=bB:=by rw[<-hbb];exact bY.size
      go_simp;try rw[aa]
      try rw[hbb]
      clear aa hbb;refine hK.out _ _ (λ_=>λp v h=>ku bT h) (λhH2=>?_);clear hK K;replace hH:=hH2 (by kernel_rfl);clear hH2;try simp only[Act.put,mM,mP,mO]
      refine pF (rs:=[10,12]) (by kernel_rfl) (by simp) ?_;refine mZ.cons (o:=⟨_,_,_,_,_,_⟩) rfl (λK hK=>?_) (mZ.cons (o:=⟨_,_,_,_,_,_⟩) rfl (λK hK=>?_) (mZ.nil))
      ·go_simp;refine(aJ.out aH bT).mono ?_;rintro e bU ⟨rfl,jf⟩;have fe:=lu bT jf;have fo:=(jf.block _ (nQ bS)).trans bS;refine hK.out _ _ (λ_=>λp v h=>ku fe h) (λhH2=>?_);clear hK K;replace hH:=hH2 (by kernel_rfl);clear hH2;try simp only[Act.put,mM,mP,mO]
       refine oD 12 (by kernel_rfl) rfl λK hK=>?_
       obtain⟨eF,hbb⟩:∃b,bU.heap.size=b:=⟨_,rfl⟩
       obtain⟨fq,aa⟩:∃w,bU.alloc (.cells #[.int .i64 0,.int .i64 0] 43)=w:=⟨_,rfl⟩
       have jg:Below bU.heap.size bU fq:=aa▸mr bU _;have lv:fq.heap[eF]?=some (.cells #[.int .i64 0,.int .i64 0] 43 (0,0)):=by rw[<-aa,<-hbb];exact rA _ _
       have jh:=lu fe jg;have lz:w5.heap.size<=eF:=by rw[<-hbb];exact fe.size
       have bV:=(jg.block _ (nQ fo)).trans fo;have hne:bB≠eF:=by have h9:=nQ fo;omega
       go_simp;try rw[aa]
       try rw[hbb]
       clear aa hbb;refine hK.out _ _ (λ_=>λp v h=>ku jh h) (λhH2=>?_);clear hK K;replace hH:=hH2 (by kernel_rfl);clear hH2;try simp only[Act.put,mM,mP,mO]
       refine oD 13 (by kernel_rfl) rfl λK hK=>?_
       have ji:=oM bV (.int .i64 (a1:Nat)) (.int .i64 (a2:Nat));have fw:=mY jh je (.int .i64 (a1:Nat)) (.int .i64 (a2:Nat));have bF:=mX lv (by first|exact hne|exact hne.symm) (.int .i64 (a1:Nat)) (.int .i64 (a2:Nat));have ae:=(nz bV 0).trans rfl;have af:=(nz bV 1).trans rfl;have ag:=oI bV 0;have ah:=oI bV 1;obtain⟨lC,aa⟩:∃w,(fq.setCell ⟨bB,0,none⟩ (.int .i64 (a1:Nat))).setCell ⟨bB,1,none⟩ (.int .i64 (a2:Nat))=w:=⟨_,rfl⟩
       rw[aa]at fw;rw[aa]at bF;rw[aa]at ji;go_simp;try rw[aa]
       clear aa ae af ag ah;refine hK.out _ _ (λ_=>λp v h=>ku fw h) (λhH2=>?_);clear hK K;replace hH:=hH2 (by kernel_rfl);clear hH2;try simp only[Act.put,mM,mP,mO]
       refine oD 14 (by kernel_rfl) rfl λK hK=>?_
       have jk:=oM bF (.int .i64 (z1:Nat)) (.int .i64 (z2:Nat));have jl:=mY fw lz (.int .i64 (z1:Nat)) (.int .i64 (z2:Nat));have jm:=mX ji (by first|exact hne|exact hne.symm) (.int .i64 (z1:Nat)) (.int .i64 (z2:Nat));have ae:=(nz bF 0).trans rfl;have af:=(nz bF 1).trans rfl;have ag:=oI bF 0;have ah:=oI bF 1;obtain⟨mf,aa⟩:∃w,(lC.setCell ⟨eF,0,none⟩ (.int .i64 (z1:Nat))).setCell ⟨eF,1,none⟩ (.int .i64 (z2:Nat))=w:=⟨_,rfl⟩
       rw[aa]at jl;rw[aa]at jm;rw[aa]at jk;go_simp;try rw[aa]
       clear aa ae af ag ah;refine hK.out _ _ (pV (by kernel_rfl)) (λ_=>?_);clear hK K;try simp only[Act.put,mM,mP,mO]
       refine mH (by kernel_rfl) ?_ _;have hend:=eu (uF.mk' jm jk jl);go_wp2_with fail
       go_meet
       exact⟨bB,eF,rfl,rfl,hend⟩
      obtain⟨eG,hbb⟩:∃b,aH.heap.size=b:=⟨_,rfl⟩
      obtain⟨fA,aa⟩:∃w,aH.alloc (.cells #[.int .i64 0,.int .i64 0] 43)=w:=⟨_,rfl⟩
      have jo:Below aH.heap.size aH fA:=aa▸mr aH _;have jq:fA.heap[eG]?=some (.cells #[.int .i64 0,.int .i64 0] 43 (0,0)):=by rw[<-aa,<-hbb];exact rA _ _
      have fB:=lu bT jo;have lD:w5.heap.size<=eG:=by rw[<-hbb];exact bT.size
      have jr:=(jo.block _ (nQ bS)).trans bS;have hne:bB≠eG:=by have h9:=nQ bS;omega
      go_simp;try rw[aa]
      try rw[hbb]
      clear aa hbb;refine hK.out _ _ (λ_=>λp v h=>ku fB h) (λhH2=>?_);clear hK K;replace hH:=hH2 (by kernel_rfl);clear hH2;try simp only[Act.put,mM,mP,mO]
      refine oD 10 (by kernel_rfl) rfl λK hK=>?_
      go_simp;refine(aJ.out fA fB).mono ?_;rintro e lF ⟨rfl,fC⟩;have jv:=lu fB fC;have bW:=(fC.block _ (nQ jr)).trans jr;have lG:=(fC.block _ (nQ jq)).trans jq;refine hK.out _ _ (λ_=>λp v h=>ku jv h) (λhH2=>?_);clear hK K;replace hH:=hH2 (by kernel_rfl);clear hH2;try simp only[Act.put,mM,mP,mO]
      refine oD 13 (by kernel_rfl) rfl λK hK=>?_
      have jw:=oM bW (.int .i64 (a1:Nat)) (.int .i64 (a2:Nat));have fD:=mY jv je (.int .i64 (a1:Nat)) (.int .i64 (a2:Nat));have bG:=mX lG (by first|exact hne|exact hne.symm) (.int .i64 (a1:Nat)) (.int .i64 (a2:Nat));have ae:=(nz bW 0).trans rfl;have af:=(nz bW 1).trans rfl;have ag:=oI bW 0;have ah:=oI bW 1;obtain⟨lH,aa⟩:∃w,(lF.setCell ⟨bB,0,none⟩ (.int .i64 (a1:Nat))).setCell ⟨bB,1,none⟩ (.int .i64 (a2:Nat))=w:=⟨_,rfl⟩
      rw[aa]at fD;rw[aa]at bG;rw[aa]at jw;go_simp;try rw[aa]
      clear aa ae af ag ah;refine hK.out _ _ (λ_=>λp v h=>ku fD h) (λhH2=>?_);clear hK K;replace hH:=hH2 (by kernel_rfl);clear hH2;try simp only[Act.put,mM,mP,mO]
      refine oD 14 (by kernel_rfl) rfl λK hK=>?_
      have hx91:=oM bG (.int .i64 (z1:Nat)) (.int .i64 (z2:Nat));have jy:=mY fD lD (.int .i64 (z1:Nat)) (.int .i64 (z2:Nat));have hx93:=mX jw (by first|exact hne|exact hne.symm) (.int .i64 (z1:Nat)) (.int .i64 (z2:Nat));have ae:=(nz bG 0).trans rfl;have af:=(nz bG 1).trans rfl;have ag:=oI bG 0;have ah:=oI bG 1;obtain⟨mg,aa⟩:∃w,(lH.setCell ⟨eG,0,none⟩ (.int .i64 (z1:Nat))).setCell ⟨eG,1,none⟩ (.int .i64 (z2:Nat))=w:=⟨_,rfl⟩
      rw[aa]at jy;rw[aa]at hx93;rw[aa]at hx91;go_simp;try rw[aa]
      clear aa ae af ag ah;refine hK.out _ _ (pV (by kernel_rfl)) (λ_=>?_);clear hK K;try simp only[Act.put,mM,mP,mO]
      refine mH (by kernel_rfl) ?_ _;have hend:=eu (uF.mk' hx93 hx91 jy);go_wp2_with fail
      go_meet
      exact⟨bB,eG,rfl,rfl,hend⟩
     obtain⟨bC,hbb⟩:∃b,aK.heap.size=b:=⟨_,rfl⟩
     obtain⟨aI,aa⟩:∃w,aK.alloc (.cells #[.int .i64 0,.int .i64 0] 43)=w:=⟨_,rfl⟩
     have lI:Below aK.heap.size aK aI:=aa▸mr aK _;have hx96:aI.heap[bC]?=some (.cells #[.int .i64 0,.int .i64 0] 43 (0,0)):=by rw[<-aa,<-hbb];exact rA _ _
     have bX:=lu bY lI;have jA:w5.heap.size<=bC:=by rw[<-hbb];exact bY.size
     go_simp;try rw[aa]
     try rw[hbb]
     clear aa hbb;refine hK.out _ _ (λ_=>λp v h=>ku bX h) (λhH2=>?_);clear hK K;replace hH:=hH2 (by kernel_rfl);clear hH2;try simp only[Act.put,mM,mP,mO]
     refine pF (rs:=[10,11]) (by kernel_rfl) (by simp) ?_;refine mZ.cons (o:=⟨_,_,_,_,_,_⟩) rfl (λK hK=>?_) (mZ.cons (o:=⟨_,_,_,_,_,_⟩) rfl (λK hK=>?_) (mZ.nil))
     ·go_simp;refine(aJ.out aI bX).mono ?_;rintro e aM ⟨rfl,hc101⟩;have cz:=lu bX hc101;have cB:=(hc101.block _ (nQ hx96)).trans hx96;refine hK.out _ _ (λ_=>λp v h=>ku cz h) (λhH2=>?_);clear hK K;replace hH:=hH2 (by kernel_rfl);clear hH2;try simp only[Act.put,mM,mP,mO]
      refine oD 11 (by kernel_rfl) rfl λK hK=>?_
      obtain⟨bH,hbb⟩:∃b,aM.heap.size=b:=⟨_,rfl⟩
      obtain⟨cK,aa⟩:∃w,aM.alloc (.cells #[.int .i64 0,.int .i64 0] 43)=w:=⟨_,rfl⟩
      have fE:Below aM.heap.size aM cK:=aa▸mr aM _;have aN:cK.heap[bH]?=some (.cells #[.int .i64 0,.int .i64 0] 43 (0,0)):=by rw[<-aa,<-hbb];exact rA _ _
      have fF:=lu cz fE;have jG:w5.heap.size<=bH:=by rw[<-hbb];exact cz.size
      have jH:=(fE.block _ (nQ cB)).trans cB;have hne:bC≠bH:=by have h9:=nQ cB;omega
      go_simp;try rw[aa]
      try rw[hbb]
      clear aa hbb;refine hK.out _ _ (λ_=>λp v h=>ku fF h) (λhH2=>?_);clear hK K;replace hH:=hH2 (by kernel_rfl);clear hH2;try simp only[Act.put,mM,mP,mO]
      refine oD 13 (by kernel_rfl) rfl λK hK=>?_
      have hx112:=oM aN (.int .i64 (a1:Nat)) (.int .i64 (a2:Nat));have cO:=mY fF jG (.int .i64 (a1:Nat)) (.int .i64 (a2:Nat));have hx114:=mX jH (by first|exact hne|exact hne.symm) (.int .i64 (a1:Nat)) (.int .i64 (a2:Nat));have ae:=(nz aN 0).trans rfl;have af:=(nz aN 1).trans rfl;have ag:=oI aN 0;have ah:=oI aN 1;obtain⟨jI,aa⟩:∃w,(cK.setCell ⟨bH,0,none⟩ (.int .i64 (a1:Nat))).setCell ⟨bH,1,none⟩ (.int .i64 (a2:Nat))=w:=⟨_,rfl⟩
      rw[aa]at cO;rw[aa]at hx114;rw[aa]at hx112;go_simp;try rw[aa]
      clear aa ae af ag ah;refine hK.out _ _ (λ_=>λp v h=>ku cO h) (λhH2=>?_);clear hK K;replace hH:=hH2 (by kernel_rfl);clear hH2;try simp only[Act.put,mM,mP,mO]
      refine oD 14 (by kernel_rfl) rfl λK hK=>?_
      have fG:=oM hx114 (.int .i64 (z1:Nat)) (.int .i64 (z2:Nat));have fH:=mY cO jA (.int .i64 (z1:Nat)) (.int .i64 (z2:Nat));have fI:=mX hx112 (by first|exact hne|exact hne.symm) (.int .i64 (z1:Nat)) (.int .i64 (z2:Nat));have ae:=(nz hx114 0).trans rfl;have af:=(nz hx114 1).trans rfl;have ag:=oI hx114 0;have ah:=oI hx114 1;obtain⟨lS,aa⟩:∃w,(jI.setCell ⟨bC,0,none⟩ (.int .i64 (z1:Nat))).setCell ⟨bC,1,none⟩ (.int .i64 (z2:Nat))=w:=⟨_,rfl⟩
      rw[aa]at fH;rw[aa]at fI;rw[aa]at fG;go_simp;try rw[aa]
      clear aa ae af ag ah;refine hK.out _ _ (pV (by kernel_rfl)) (λ_=>?_);clear hK K;try simp only[Act.put,mM,mP,mO]
      refine mH (by kernel_rfl) ?_ _;have hend:=eu (uF.mk' fI fG fH);go_wp2_with fail
      go_meet
      exact⟨bH,bC,rfl,rfl,hend⟩
     obtain⟨bI,hbb⟩:∃b,aI.heap.size=b:=⟨_,rfl⟩
     obtain⟨cZ,aa⟩:∃w,aI.alloc (.cells #[.int .i64 0,.int .i64 0] 43)=w:=⟨_,rfl⟩
     have fJ:Below aI.heap.size aI cZ:=aa▸mr aI _;have fK:cZ.heap[bI]?=some (.cells #[.int .i64 0,.int .i64 0] 43 (0,0)):=by rw[<-aa,<-hbb];exact rA _ _
     have df:=lu bX fJ;have jJ:w5.heap.size<=bI:=by rw[<-hbb];exact bX.size
     have fM:=(fJ.block _ (nQ hx96)).trans hx96;have hne:bC≠bI:=by have h9:=nQ hx96;omega
     go_simp;try rw[aa]
     try rw[hbb]
     clear aa hbb;refine hK.out _ _ (λ_=>λp v h=>ku df h) (λhH2=>?_);clear hK K;replace hH:=hH2 (by kernel_rfl);clear hH2;try simp only[Act.put,mM,mP,mO]
     refine oD 10 (by kernel_rfl) rfl λK hK=>?_
     go_simp;refine(aJ.out cZ df).mono ?_;rintro e jK ⟨rfl,dh⟩;have fO:=lu df dh;have jL:=(dh.block _ (nQ fM)).trans fM;have aO:=(dh.block _ (nQ fK)).trans fK;refine hK.out _ _ (λ_=>λp v h=>ku fO h) (λhH2=>?_);clear hK K;replace hH:=hH2 (by kernel_rfl);clear hH2;try simp only[Act.put,mM,mP,mO]
     refine oD 13 (by kernel_rfl) rfl λK hK=>?_
     have fP:=oM aO (.int .i64 (a1:Nat)) (.int .i64 (a2:Nat));have di:=mY fO jJ (.int .i64 (a1:Nat)) (.int .i64 (a2:Nat));have ax:=mX jL (by first|exact hne|exact hne.symm) (.int .i64 (a1:Nat)) (.int .i64 (a2:Nat));have ae:=(nz aO 0).trans rfl;have af:=(nz aO 1).trans rfl;have ag:=oI aO 0;have ah:=oI aO 1;obtain⟨jM,aa⟩:∃w,(jK.setCell ⟨bI,0,none⟩ (.int .i64 (a1:Nat))).setCell ⟨bI,1,none⟩ (.int .i64 (a2:Nat))=w:=⟨_,rfl⟩
     rw[aa]at di;rw[aa]at ax;rw[aa]at fP;go_simp;try rw[aa]
     clear aa ae af ag ah;refine hK.out _ _ (λ_=>λp v h=>ku di h) (λhH2=>?_);clear hK K;replace hH:=hH2 (by kernel_rfl);clear hH2;try simp only[Act.put,mM,mP,mO]
     refine oD 14 (by kernel_rfl) rfl λK hK=>?_
     have fQ:=oM ax (.int .i64 (z1:Nat)) (.int .i64 (z2:Nat));have fT:=mY di jA (.int .i64 (z1:Nat)) (.int .i64 (z2:Nat));have fU:=mX fP (by first|exact hne|exact hne.symm) (.int .i64 (z1:Nat)) (.int .i64 (z2:Nat));have ae:=(nz ax 0).trans rfl;have af:=(nz ax 1).trans rfl;have ag:=oI ax 0;have ah:=oI ax 1;obtain⟨lT,aa⟩:∃w,(jM.setCell ⟨bC,0,none⟩ (.int .i64 (z1:Nat))).setCell ⟨bC,1,none⟩ (.int .i64 (z2:Nat))=w:=⟨_,rfl⟩
     rw[aa]at fT;rw[aa]at fU;rw[aa]at fQ;go_simp;try rw[aa]
     clear aa ae af ag ah;refine hK.out _ _ (pV (by kernel_rfl)) (λ_=>?_);clear hK K;try simp only[Act.put,mM,mP,mO]
     refine mH (by kernel_rfl) ?_ _;have hend:=eu (uF.mk' fU fQ fT);go_wp2_with fail
     go_meet
     exact⟨bI,bC,rfl,rfl,hend⟩
    ·obtain⟨ai,hbb⟩:∃b,w5.heap.size=b:=⟨_,rfl⟩
     obtain⟨ak,aa⟩:∃w,(w5.alloc (.cells #[.int .i64 0,.int .i64 0] 43)).drew=w:=⟨_,rfl⟩
     have aP:Below w5.heap.size w5 ak:=aa▸(mr w5 _).drew;have aQ:ak.heap[ai]?=some (.cells #[.int .i64 0,.int .i64 0] 43 (0,0)):=by rw[<-aa,<-hbb];exact rA w5 _
     have dm:w5.heap.size<=ai:=by rw[<-hbb];exact mJ _
     go_simp;try rw[aa]
     try rw[hbb]
     clear aa hbb;refine hK.out _ _ (λ_=>λp v h=>ku aP h) (λhH2=>?_);clear hK K;replace hH:=hH2 (by kernel_rfl);clear hH2;try simp only[Act.put,mM,mP,mO]
     refine pF (rs:=[2,12]) (by kernel_rfl) (by simp) ?_;refine mZ.cons (o:=⟨_,_,_,_,_,_⟩) rfl (λK hK=>?_) (mZ.cons (o:=⟨_,_,_,_,_,_⟩) rfl (λK hK=>?_) (mZ.nil))
     ·go_simp;refine(ed.out ak aP).mono ?_;rintro e ay ⟨rfl,fV⟩;have aR:=lu aP fV;have aS:=(fV.block _ (nQ aQ)).trans aQ;refine hK.out _ _ (λ_=>λp v h=>ku aR h) (λhH2=>?_);clear hK K;replace hH:=hH2 (by kernel_rfl);clear hH2;try simp only[Act.put,mM,mP,mO]
      refine pF (rs:=[10,12]) (by kernel_rfl) (by simp) ?_;refine mZ.cons (o:=⟨_,_,_,_,_,_⟩) rfl (λK hK=>?_) (mZ.cons (o:=⟨_,_,_,_,_,_⟩) rfl (λK hK=>?_) (mZ.nil))
      ·go_simp;refine(aJ.out ay aR).mono ?_;rintro e aT ⟨rfl,hc150⟩;have dn:=lu aR hc150;have hx152:=(hc150.block _ (nQ aS)).trans aS;refine hK.out _ _ (λ_=>λp v h=>ku dn h) (λhH2=>?_);clear hK K;replace hH:=hH2 (by kernel_rfl);clear hH2;try simp only[Act.put,mM,mP,mO]
       refine oD 12 (by kernel_rfl) rfl λK hK=>?_
       obtain⟨bJ,hbb⟩:∃b,aT.heap.size=b:=⟨_,rfl⟩
       obtain⟨dw,aa⟩:∃w,aT.alloc (.cells #[.int .i64 0,.int .i64 0] 43)=w:=⟨_,rfl⟩
       have fZ:Below aT.heap.size aT dw:=aa▸mr aT _;have jN:dw.heap[bJ]?=some (.cells #[.int .i64 0,.int .i64 0] 43 (0,0)):=by rw[<-aa,<-hbb];exact rA _ _
       have gm:=lu dn fZ;have jO:w5.heap.size<=bJ:=by rw[<-hbb];exact dn.size
       have hx159:=(fZ.block _ (nQ hx152)).trans hx152;have hne:ai≠bJ:=by have h9:=nQ hx152;omega
       go_simp;try rw[aa]
       try rw[hbb]
       clear aa hbb;refine hK.out _ _ (λ_=>λp v h=>ku gm h) (λhH2=>?_);clear hK K;replace hH:=hH2 (by kernel_rfl);clear hH2;try simp only[Act.put,mM,mP,mO]
       refine oD 13 (by kernel_rfl) rfl λK hK=>?_
       have gp:=oM hx159 (.int .i64 (a1:Nat)) (.int .i64 (a2:Nat));have dx:=mY gm dm (.int .i64 (a1:Nat)) (.int .i64 (a2:Nat));have az:=mX jN (by first|exact hne|exact hne.symm) (.int .i64 (a1:Nat)) (.int .i64 (a2:Nat));have ae:=(nz hx159 0).trans rfl;have af:=(nz hx159 1).trans rfl;have ag:=oI hx159 0;have ah:=oI hx159 1;obtain⟨jP,aa⟩:∃w,(dw.setCell ⟨ai,0,none⟩ (.int .i64 (a1:Nat))).setCell ⟨ai,1,none⟩ (.int .i64 (a2:Nat))=w:=⟨_,rfl⟩
       rw[aa]at dx;rw[aa]at az;rw[aa]at gp;go_simp;try rw[aa]
       clear aa ae af ag ah;refine hK.out _ _ (λ_=>λp v h=>ku dx h) (λhH2=>?_);clear hK K;replace hH:=hH2 (by kernel_rfl);clear hH2;try simp only[Act.put,mM,mP,mO]
       refine oD 14 (by kernel_rfl) rfl λK hK=>?_
       have gq:=oM az (.int .i64 (z1:Nat)) (.int .i64 (z2:Nat));have gy:=mY dx jO (.int .i64 (z1:Nat)) (.int .i64 (z2:Nat));have hx167:=mX gp (by first|exact hne|exact hne.symm) (.int .i64 (z1:Nat)) (.int .i64 (z2:Nat));have ae:=(nz az 0).trans rfl;have af:=(nz az 1).trans rfl;have ag:=oI az 0;have ah:=oI az 1;obtain⟨lU,aa⟩:∃w,(jP.setCell ⟨bJ,0,none⟩ (.int .i64 (z1:Nat))).setCell ⟨bJ,1,none⟩ (.int .i64 (z2:Nat))=w:=⟨_,rfl⟩
       rw[aa]at gy;rw[aa]at hx167;rw[aa]at gq;go_simp;try rw[aa]
       clear aa ae af ag ah;refine hK.out _ _ (pV (by kernel_rfl)) (λ_=>?_);clear hK K;try simp only[Act.put,mM,mP,mO]
       refine mH (by kernel_rfl) ?_ _;have hend:=eu (uF.mk' hx167 gq gy);go_wp2_with fail
       go_meet
       exact⟨ai,bJ,rfl,rfl,hend⟩
      obtain⟨bK,hbb⟩:∃b,ay.heap.size=b:=⟨_,rfl⟩
      obtain⟨dA,aa⟩:∃w,ay.alloc (.cells #[.int .i64 0,.int .i64 0] 43)=w:=⟨_,rfl⟩
      have gz:Below ay.heap.size ay dA:=aa▸mr ay _;have gB:dA.heap[bK]?=some (.cells #[.int .i64 0,.int .i64 0] 43 (0,0)):=by rw[<-aa,<-hbb];exact rA _ _
      have dB:=lu aR gz;have jQ:w5.heap.size<=bK:=by rw[<-hbb];exact aR.size
      have gD:=(gz.block _ (nQ aS)).trans aS;have hne:ai≠bK:=by have h9:=nQ aS;omega
      go_simp;try rw[aa]
      try rw[hbb]
      clear aa hbb;refine hK.out _ _ (λ_=>λp v h=>ku dB h) (λhH2=>?_);clear hK K;replace hH:=hH2 (by kernel_rfl);clear hH2;try simp only[Act.put,mM,mP,mO]
      refine oD 10 (by kernel_rfl) rfl λK hK=>?_
      go_simp;refine(aJ.out dA dB).mono ?_;rintro e jR ⟨rfl,dC⟩;have gF:=lu dB dC;have aU:=(dC.block _ (nQ gD)).trans gD;have jS:=(dC.block _ (nQ gB)).trans gB;refine hK.out _ _ (λ_=>λp v h=>ku gF h) (λhH2=>?_);clear hK K;replace hH:=hH2 (by kernel_rfl);clear hH2;try simp only[Act.put,mM,mP,mO]
      refine oD 13 (by kernel_rfl) rfl λK hK=>?_
      have gG:=oM aU (.int .i64 (a1:Nat)) (.int .i64 (a2:Nat));have dD:=mY gF dm (.int .i64 (a1:Nat)) (.int .i64 (a2:Nat));have aA:=mX jS (by first|exact hne|exact hne.symm) (.int .i64 (a1:Nat)) (.int .i64 (a2:Nat));have ae:=(nz aU 0).trans rfl;have af:=(nz aU 1).trans rfl;have ag:=oI aU 0;have ah:=oI aU 1;obtain⟨jT,aa⟩:∃w,(jR.setCell ⟨ai,0,none⟩ (.int .i64 (a1:Nat))).setCell ⟨ai,1,none⟩ (.int .i64 (a2:Nat))=w:=⟨_,rfl⟩
      rw[aa]at dD;rw[aa]at aA;rw[aa]at gG;go_simp;try rw[aa]
      clear aa ae af ag ah;refine hK.out _ _ (λ_=>λp v h=>ku dD h) (λhH2=>?_);clear hK K;replace hH:=hH2 (by kernel_rfl);clear hH2;try simp only[Act.put,mM,mP,mO]
      refine oD 14 (by kernel_rfl) rfl λK hK=>?_
      have gH:=oM aA (.int .i64 (z1:Nat)) (.int .i64 (z2:Nat));have gI:=mY dD jQ (.int .i64 (z1:Nat)) (.int .i64 (z2:Nat));have gJ:=mX gG (by first|exact hne|exact hne.symm) (.int .i64 (z1:Nat)) (.int .i64 (z2:Nat));have ae:=(nz aA 0).trans rfl;have af:=(nz aA 1).trans rfl;have ag:=oI aA 0;have ah:=oI aA 1;obtain⟨lV,aa⟩:∃w,(jT.setCell ⟨bK,0,none⟩ (.int .i64 (z1:Nat))).setCell ⟨bK,1,none⟩ (.int .i64 (z2:Nat))=w:=⟨_,rfl⟩
      rw[aa]at gI;rw[aa]at gJ;rw[aa]at gH;go_simp;try rw[aa]
      clear aa ae af ag ah;refine hK.out _ _ (pV (by kernel_rfl)) (λ_=>?_);clear hK K;try simp only[Act.put,mM,mP,mO]
      refine mH (by kernel_rfl) ?_ _;have hend:=eu (uF.mk' gJ gH gI);go_wp2_with fail
      go_meet
      exact⟨ai,bK,rfl,rfl,hend⟩
     obtain⟨bL,hbb⟩:∃b,ak.heap.size=b:=⟨_,rfl⟩
     obtain⟨dE,aa⟩:∃w,ak.alloc (.cells #[.int .i64 0,.int .i64 0] 43)=w:=⟨_,rfl⟩
     have gK:Below ak.heap.size ak dE:=aa▸mr ak _;have gL:dE.heap[bL]?=some (.cells #[.int .i64 0,.int .i64 0] 43 (0,0)):=by rw[<-aa,<-hbb];exact rA _ _
     have dF:=lu aP gK;have jU:w5.heap.size<=bL:=by rw[<-hbb];exact aP.size
     have gM:=(gK.block _ (nQ aQ)).trans aQ;have hne:ai≠bL:=by have h9:=nQ aQ;omega
     go_simp;try rw[aa]
     try rw[hbb]
     clear aa hbb;refine hK.out _ _ (λ_=>λp v h=>ku dF h) (λhH2=>?_);clear hK K;replace hH:=hH2 (by kernel_rfl);clear hH2;try simp only[Act.put,mM,mP,mO]
     refine oD 2 (by kernel_rfl) rfl λK hK=>?_
     go_simp;refine(ed.out dE dF).mono ?_;rintro e jV ⟨rfl,dG⟩;have dH:=lu dF dG;have gN:=(dG.block _ (nQ gM)).trans gM;have gP:=(dG.block _ (nQ gL)).trans gL;refine hK.out _ _ (λ_=>λp v h=>ku dH h) (λhH2=>?_);clear hK K;replace hH:=hH2 (by kernel_rfl);clear hH2;try simp only[Act.put,mM,mP,mO]
     refine oD 10 (by kernel_rfl) rfl λK hK=>?_
     go_simp;refine(aJ.out jV dH).mono ?_;rintro e jW ⟨rfl,dI⟩;have gQ:=lu dH dI;have aV:=(dI.block _ (nQ gN)).trans gN;have jX:=(dI.block _ (nQ gP)).trans gP;refine hK.out _ _ (λ_=>λp v h=>ku gQ h) (λhH2=>?_);clear hK K;replace hH:=hH2 (by kernel_rfl);clear hH2;try simp only[Act.put,mM,mP,mO]
     refine oD 13 (by kernel_rfl) rfl λK hK=>?_
     have gT:=oM aV (.int .i64 (a1:Nat)) (.int .i64 (a2:Nat));have dJ:=mY gQ dm (.int .i64 (a1:Nat)) (.int .i64 (a2:Nat));have aB:=mX jX (by first|exact hne|exact hne.symm) (.int .i64 (a1:Nat)) (.int .i64 (a2:Nat));have ae:=(nz aV 0).trans rfl;have af:=(nz aV 1).trans rfl;have ag:=oI aV 0;have ah:=oI aV 1;obtain⟨jY,aa⟩:∃w,(jW.setCell ⟨ai,0,none⟩ (.int .i64 (a1:Nat))).setCell ⟨ai,1,none⟩ (.int .i64 (a2:Nat))=w:=⟨_,rfl⟩
     rw[aa]at dJ;rw[aa]at aB;rw[aa]at gT;go_simp;try rw[aa]
     clear aa ae af ag ah;refine hK.out _ _ (λ_=>λp v h=>ku dJ h) (λhH2=>?_);clear hK K;replace hH:=hH2 (by kernel_rfl);clear hH2;try simp only[Act.put,mM,mP,mO]
     refine oD 14 (by kernel_rfl) rfl λK hK=>?_
     have gU:=oM aB (.int .i64 (z1:Nat)) (.int .i64 (z2:Nat));have gV:=mY dJ jU (.int .i64 (z1:Nat)) (.int .i64 (z2:Nat));have gW:=mX gT (by first|exact hne|exact hne.symm) (.int .i64 (z1:Nat)) (.int .i64 (z2:Nat));have ae:=(nz aB 0).trans rfl;have af:=(nz aB 1).trans rfl;have ag:=oI aB 0;have ah:=oI aB 1;obtain⟨lW,aa⟩:∃w,(jY.setCell ⟨bL,0,none⟩ (.int .i64 (z1:Nat))).setCell ⟨bL,1,none⟩ (.int .i64 (z2:Nat))=w:=⟨_,rfl⟩
     rw[aa]at gV;rw[aa]at gW;rw[aa]at gU;go_simp;try rw[aa]
     clear aa ae af ag ah;refine hK.out _ _ (pV (by kernel_rfl)) (λ_=>?_);clear hK K;try simp only[Act.put,mM,mP,mO]
     refine mH (by kernel_rfl) ?_ _;have hend:=eu (uF.mk' gW gU gV);go_wp2_with fail
     go_meet
     exact⟨ai,bL,rfl,rfl,hend⟩
    obtain⟨aj,hbb⟩:∃b,w5.heap.size=b:=⟨_,rfl⟩
    obtain⟨av,aa⟩:∃w,(w5.alloc (.cells #[.int .i64 0,.int .i64 0] 43)).drew=w:=⟨_,rfl⟩
    have aW:Below w5.heap.size w5 av:=aa▸(mr w5 _).drew;have aX:av.heap[aj]?=some (.cells #[.int .i64 0,.int .i64 0] 43 (0,0)):=by rw[<-aa,<-hbb];exact rA w5 _
    have dK:w5.heap.size<=aj:=by rw[<-hbb];exact mJ _
    go_simp;try rw[aa]
    try rw[hbb]
    clear aa hbb;refine hK.out _ _ (λ_=>λp v h=>ku aW h) (λhH2=>?_);clear hK K;replace hH:=hH2 (by kernel_rfl);clear hH2;try simp only[Act.put,mM,mP,mO]
    refine pF (rs:=[2,11]) (by kernel_rfl) (by simp) ?_;refine mZ.cons (o:=⟨_,_,_,_,_,_⟩) rfl (λK hK=>?_) (mZ.cons (o:=⟨_,_,_,_,_,_⟩) rfl (λK hK=>?_) (mZ.nil))
    ·go_simp;refine(ed.out av aW).mono ?_;rintro e aC ⟨rfl,gX⟩;have aY:=lu aW gX;have aZ:=(gX.block _ (nQ aX)).trans aX;refine hK.out _ _ (λ_=>λp v h=>ku aY h) (λhH2=>?_);clear hK K;replace hH:=hH2 (by kernel_rfl);clear hH2;try simp only[Act.put,mM,mP,mO]
     refine pF (rs:=[10,11]) (by kernel_rfl) (by simp) ?_;refine mZ.cons (o:=⟨_,_,_,_,_,_⟩) rfl (λK hK=>?_) (mZ.cons (o:=⟨_,_,_,_,_,_⟩) rfl (λK hK=>?_) (mZ.nil))
     ·go_simp;refine(aJ.out aC aY).mono ?_;rintro e bf ⟨rfl,gY⟩;have dL:=lu aY gY;have dM:=(gY.block _ (nQ aZ)).trans aZ;refine hK.out _ _ (λ_=>λp v h=>ku dL h) (λhH2=>?_);clear hK K;replace hH:=hH2 (by kernel_rfl);clear hH2;try simp only[Act.put,mM,mP,mO]
      refine oD 11 (by kernel_rfl) rfl λK hK=>?_
      obtain⟨bM,hbb⟩:∃b,bf.heap.size=b:=⟨_,rfl⟩
      obtain⟨dN,aa⟩:∃w,bf.alloc (.cells #[.int .i64 0,.int .i64 0] 43)=w:=⟨_,rfl⟩
      have gZ:Below bf.heap.size bf dN:=aa▸mr bf _;have bg:dN.heap[bM]?=some (.cells #[.int .i64 0,.int .i64 0] 43 (0,0)):=by rw[<-aa,<-hbb];exact rA _ _
      have ib:=lu dL gZ;have jZ:w5.heap.size<=bM:=by rw[<-hbb];exact dL.size
      have j3:=(gZ.block _ (nQ dM)).trans dM;have hne:aj≠bM:=by have h9:=nQ dM;omega
      go_simp;try rw[aa]
      try rw[hbb]
      clear aa hbb;refine hK.out _ _ (λ_=>λp v h=>ku ib h) (λhH2=>?_);clear hK K;replace hH:=hH2 (by kernel_rfl);clear hH2;try simp only[Act.put,mM,mP,mO]
      refine oD 13 (by kernel_rfl) rfl λK hK=>?_
      have ic:=oM bg (.int .i64 (a1:Nat)) (.int .i64 (a2:Nat));have dO:=mY ib jZ (.int .i64 (a1:Nat)) (.int .i64 (a2:Nat));have aD:=mX j3 (by first|exact hne|exact hne.symm) (.int .i64 (a1:Nat)) (.int .i64 (a2:Nat));have ae:=(nz bg 0).trans rfl;have af:=(nz bg 1).trans rfl;have ag:=oI bg 0;have ah:=oI bg 1;obtain⟨j4,aa⟩:∃w,(dN.setCell ⟨bM,0,none⟩ (.int .i64 (a1:Nat))).setCell ⟨bM,1,none⟩ (.int .i64 (a2:Nat))=w:=⟨_,rfl⟩
      rw[aa]at dO;rw[aa]at aD;rw[aa]at ic;go_simp;try rw[aa]
      clear aa ae af ag ah;refine hK.out _ _ (λ_=>λp v h=>ku dO h) (λhH2=>?_);clear hK K;replace hH:=hH2 (by kernel_rfl);clear hH2;try simp only[Act.put,mM,mP,mO]
      refine oD 14 (by kernel_rfl) rfl λK hK=>?_
      have ig:=oM aD (.int .i64 (z1:Nat)) (.int .i64 (z2:Nat));have ik:=mY dO dK (.int .i64 (z1:Nat)) (.int .i64 (z2:Nat));have il:=mX ic (by first|exact hne|exact hne.symm) (.int .i64 (z1:Nat)) (.int .i64 (z2:Nat));have ae:=(nz aD 0).trans rfl;have af:=(nz aD 1).trans rfl;have ag:=oI aD 0;have ah:=oI aD 1;obtain⟨lX,aa⟩:∃w,(j4.setCell ⟨aj,0,none⟩ (.int .i64 (z1:Nat))).setCell ⟨aj,1,none⟩ (.int .i64 (z2:Nat))=w:=⟨_,rfl⟩
      rw[aa]at ik;rw[aa]at il;rw[aa]at ig;go_simp;try rw[aa]
      clear aa ae af ag ah;refine hK.out _ _ (pV (by kernel_rfl)) (λ_=>?_);clear hK K;try simp only[Act.put,mM,mP,mO]
      refine mH (by kernel_rfl) ?_ _;have hend:=eu (uF.mk' il ig ik);go_wp2_with fail
      go_meet
      exact⟨bM,aj,rfl,rfl,hend⟩
     obtain⟨bN,hbb⟩:∃b,aC.heap.size=b:=⟨_,rfl⟩
     obtain⟨dP,aa⟩:∃w,aC.alloc (.cells #[.int .i64 0,.int .i64 0] 43)=w:=⟨_,rfl⟩
     have iq:Below aC.heap.size aC dP:=aa▸mr aC _;have iw:dP.heap[bN]?=some (.cells #[.int .i64 0,.int .i64 0] 43 (0,0)):=by rw[<-aa,<-hbb];exact rA _ _
     have dQ:=lu aY iq;have j5:w5.heap.size<=bN:=by rw[<-hbb];exact aY.size
     have iy:=(iq.block _ (nQ aZ)).trans aZ;have hne:aj≠bN:=by have h9:=nQ aZ;omega
     go_simp;try rw[aa]
     try rw[hbb]
     clear aa hbb;refine hK.out _ _ (λ_=>λp v h=>ku dQ h) (λhH2=>?_);clear hK K;replace hH:=hH2 (by kernel_rfl);clear hH2;try simp only[Act.put,mM,mP,mO]
     refine oD 10 (by kernel_rfl) rfl λK hK=>?_
     go_simp;refine(aJ.out dP dQ).mono ?_;rintro e j6 ⟨rfl,dR⟩;have iA:=lu dQ dR;have kg:=(dR.block _ (nQ iy)).trans iy;have bq:=(dR.block _ (nQ iw)).trans iw;refine hK.out _ _ (λ_=>λp v h=>ku iA h) (λhH2=>?_);clear hK K;replace hH:=hH2 (by kernel_rfl);clear hH2;try simp only[Act.put,mM,mP,mO]
     refine oD 13 (by kernel_rfl) rfl λK hK=>?_
     have hx255:=oM bq (.int .i64 (a1:Nat)) (.int .i64 (a2:Nat));have dS:=mY iA j5 (.int .i64 (a1:Nat)) (.int .i64 (a2:Nat));have aF:=mX kg (by first|exact hne|exact hne.symm) (.int .i64 (a1:Nat)) (.int .i64 (a2:Nat));have ae:=(nz bq 0).trans rfl;have af:=(nz bq 1).trans rfl;have ag:=oI bq 0;have ah:=oI bq 1;obtain⟨ko,aa⟩:∃w,(j6.setCell ⟨bN,0,none⟩ (.int .i64 (a1:Nat))).setCell ⟨bN,1,none⟩ (.int .i64 (a2:Nat))=w:=⟨_,rfl⟩
     rw[aa]at dS;rw[aa]at aF;rw[aa]at hx255;go_simp;try rw[aa]
     clear aa ae af ag ah;refine hK.out _ _ (λ_=>λp v h=>ku dS h) (λhH2=>?_);clear hK K;replace hH:=hH2 (by kernel_rfl);clear hH2;try simp only[Act.put,mM,mP,mO]
     refine oD 14 (by kernel_rfl) rfl λK hK=>?_
     have iB:=oM aF (.int .i64 (z1:Nat)) (.int .i64 (z2:Nat));have iC:=mY dS dK (.int .i64 (z1:Nat)) (.int .i64 (z2:Nat));have iD:=mX hx255 (by first|exact hne|exact hne.symm) (.int .i64 (z1:Nat)) (.int .i64 (z2:Nat));have ae:=(nz aF 0).trans rfl;have af:=(nz aF 1).trans rfl;have ag:=oI aF 0;have ah:=oI aF 1;obtain⟨lY,aa⟩:∃w,(ko.setCell ⟨aj,0,none⟩ (.int .i64 (z1:Nat))).setCell ⟨aj,1,none⟩ (.int .i64 (z2:Nat))=w:=⟨_,rfl⟩
     rw[aa]at iC;rw[aa]at iD;rw[aa]at iB;go_simp;try rw[aa]
     clear aa ae af ag ah;refine hK.out _ _ (pV (by kernel_rfl)) (λ_=>?_);clear hK K;try simp only[Act.put,mM,mP,mO]
     refine mH (by kernel_rfl) ?_ _;have hend:=eu (uF.mk' iD iB iC);go_wp2_with fail
     go_meet
     exact⟨bN,aj,rfl,rfl,hend⟩
    obtain⟨bO,hbb⟩:∃b,av.heap.size=b:=⟨_,rfl⟩
    obtain⟨dU,aa⟩:∃w,av.alloc (.cells #[.int .i64 0,.int .i64 0] 43)=w:=⟨_,rfl⟩
    have iE:Below av.heap.size av dU:=aa▸mr av _;have iF:dU.heap[bO]?=some (.cells #[.int .i64 0,.int .i64 0] 43 (0,0)):=by rw[<-aa,<-hbb];exact rA _ _
    have dV:=lu aW iE;have kr:w5.heap.size<=bO:=by rw[<-hbb];exact aW.size
    have iG:=(iE.block _ (nQ aX)).trans aX;have hne:aj≠bO:=by have h9:=nQ aX;omega
    go_simp;try rw[aa]
    try rw[hbb]
    clear aa hbb;refine hK.out _ _ (λ_=>λp v h=>ku dV h) (λhH2=>?_);clear hK K;replace hH:=hH2 (by kernel_rfl);clear hH2;try simp only[Act.put,mM,mP,mO]
    refine oD 2 (by kernel_rfl) rfl λK hK=>?_
    go_simp;refine(ed.out dU dV).mono ?_;rintro e ky ⟨rfl,dW⟩;have dX:=lu dV dW;have iH:=(dW.block _ (nQ iG)).trans iG;have iI:=(dW.block _ (nQ iF)).trans iF;refine hK.out _ _ (λ_=>λp v h=>ku dX h) (λhH2=>?_);clear hK K;replace hH:=hH2 (by kernel_rfl);clear hH2;try simp only[Act.put,mM,mP,mO]
    refine oD 10 (by kernel_rfl) rfl λK hK=>?_
    go_simp;refine(aJ.out ky dX).mono ?_;rintro e kz ⟨rfl,dY⟩;have iJ:=lu dX dY;have kC:=(dY.block _ (nQ iH)).trans iH;have bz:=(dY.block _ (nQ iI)).trans iI;refine hK.out _ _ (λ_=>λp v h=>ku iJ h) (λhH2=>?_);clear hK K;replace hH:=hH2 (by kernel_rfl);clear hH2;try simp only[Act.put,mM,mP,mO]
    refine oD 13 (by kernel_rfl) rfl λK hK=>?_
    have iK:=oM bz (.int .i64 (a1:Nat)) (.int .i64 (a2:Nat));have dZ:=mY iJ kr (.int .i64 (a1:Nat)) (.int .i64 (a2:Nat));have aG:=mX kC (by first|exact hne|exact hne.symm) (.int .i64 (a1:Nat)) (.int .i64 (a2:Nat));have ae:=(nz bz 0).trans rfl;have af:=(nz bz 1).trans rfl;have ag:=oI bz 0;have ah:=oI bz 1;obtain⟨kD,aa⟩:∃w,(kz.setCell ⟨bO,0,none⟩ (.int .i64 (a1:Nat))).setCell ⟨bO,1,none⟩ (.int .i64 (a2:Nat))=w:=⟨_,rfl⟩
    rw[aa]at dZ;rw[aa]at aG;rw[aa]at iK;go_simp;try rw[aa]
    clear aa ae af ag ah;refine hK.out _ _ (λ_=>λp v h=>ku dZ h) (λhH2=>?_);clear hK K;replace hH:=hH2 (by kernel_rfl);clear hH2;try simp only[Act.put,mM,mP,mO]
    refine oD 14 (by kernel_rfl) rfl λK hK=>?_
    have iL:=oM aG (.int .i64 (z1:Nat)) (.int .i64 (z2:Nat));have iM:=mY dZ dK (.int .i64 (z1:Nat)) (.int .i64 (z2:Nat));have iN:=mX iK (by first|exact hne|exact hne.symm) (.int .i64 (z1:Nat)) (.int .i64 (z2:Nat));have ae:=(nz aG 0).trans rfl;have af:=(nz aG 1).trans rfl;have ag:=oI aG 0;have ah:=oI aG 1;obtain⟨lZ,aa⟩:∃w,(kD.setCell ⟨aj,0,none⟩ (.int .i64 (z1:Nat))).setCell ⟨aj,1,none⟩ (.int .i64 (z2:Nat))=w:=⟨_,rfl⟩
    rw[aa]at iM;rw[aa]at iN;rw[aa]at iL;go_simp;try rw[aa]
    clear aa ae af ag ah;refine hK.out _ _ (pV (by kernel_rfl)) (λ_=>?_);clear hK K;try simp only[Act.put,mM,mP,mO]
    refine mH (by kernel_rfl) ?_ _;have hend:=eu (uF.mk' iN iL iM);go_wp2_with fail
    go_meet
    exact⟨bO,aj,rfl,rfl,hend⟩
   case rest=>
    obtain⟨b1,b2,rfl,rfl,hend⟩:=hcut
    rename World=>w6
    obtain⟨s1,s2,s3,s4,hb6⟩:=hend.out;have iO:=eu (lu jE.out hb6);have c2:=ku hb6 k2;have c3:=ku hb6 k3;clear hend hb6 k0 k1 k2 k3 k4 k5 k6 q0 q1 q2 q3 q4 q5 ed aJ;by_cases hcs:f<t
    ·obtain⟨y1,y2,y3⟩:=hS1 hcs;have d1:(f:Int)<(t:Int):=by omega
     have l5:decide (f<t)=true:=oP hcs;have d2:decide (a1<z1)=false:=nK (by omega);have d3:decide (z2<a2)=false:=nK (by omega);have d4:decide (a2<=a1)=false:=nK (by omega);have d5:((f:Int)==(t:Int))=false:=by simp;omega
     have d6:(f==t)=false:=by simp;omega
     clear hS1 hS2 hcs y1 y2 y3;go_wp2_with fail
     go_roundw
     case rel=>exact⟨i+1,by go_num,by omega,by omega,iO⟩
     case measure=>simp[intOf];omega
    obtain rfl:f=t:=by omega
    obtain rfl:a1=a2:=hS2 rfl;have d1:¬((f:Int)<(f:Int)):=by omega
    have l5:decide (f<f)=false:=nK (by omega);clear hS1 hS2 hcs;go_wp2_with fail
    go_roundw
    case rel=>exact⟨i+1,by go_num,by omega,by omega,iO⟩
    case measure=>simp[intOf];omega
  obtain rfl:i=NN:=by omega
  clear hlt;go_wp2_with fail
  refine(Ad na i nc wr).mono ?_;rintro e w6 ⟨rfl,hb6⟩;have iO:=eu (lu HB.out hb6);have l6:=eu (T3 w6 (.slice na i nc) T (kJ.out w6 iO.out) (by rw[iP.out];omega));clear hb6 cr;go_wp2_with fail
  refine l6.out.mono ?_;rintro e w7 ⟨rfl,lJ⟩;obtain⟨E,hE⟩:=my (Wk.vJ T T.length);rw[hE];have g0:(E:Int)>=0:=by omega
  have mq:(0:Int)<=(E:Int):=by omega
  have HD:=eu (HQ.out w7 (lu (lu lK.out iO.out) lJ));clear lJ hE;go_wp2_with fail
  first|exact HD.out|(go_ret;exact HD.out)
end
end Go.Proofs.Ytfbiffdmhcjhbaa

import Derived.Test.YtfbiffdmhcjhbaaGreatZa24
import Derived.BigRegion
set_option linter.all false
set_option maxHeartbeats 16000000
set_option maxRecDepth 100000
set_option synthInstance.maxSize 4000
set_option synthInstance.maxHeartbeats 0
namespace Go.Proofs.YtfbiffdmhcjhbaaGreat
open Go.RowKit Tryz
section
open Go.RowKit
open Sq
open Ar
open Fl (Tk raw jh cnt back)
theorem PV(w0 w:World)(c:Cx)(e:Nat)(p:Ps.PS)(sv:Value)(R:Nat->Prop)(i:Nat)(h:PG w0 w c e p sv R)(hi:i<=c.l.length):
 Calls prog 80 #[RG c.pb,.int .i64 i] w λen w'=>en=.returned (.int .i64 (Ps.limit c.l i:Nat))/\w=w':=by
 obtain⟨c0,r0,hr,hs⟩:=h.toks;obtain⟨tv,af⟩:=eX (c.tv);obtain⟨l,hl⟩:=eX (c.l);obtain⟨rb,hrb⟩:=eX (c.rb);obtain⟨pb,hpb⟩:=eX (c.pb);rw[af]at r0 hr;rw[hl]at hr hs hi⊢;rw[hrb]at c0 r0;rw[hpb]at c0⊢;clear h af hl hrb hpb;obtain⟨a,cap,rfl⟩:=hr.shape;obtain⟨P,hP⟩:∃P:Nat->Bool,(λj=>raw l j !=20&&raw l j !=21)=P:=⟨_,rfl⟩
 have HX:=eu (λi (x:Tk)(hi:l[i]?=some x)=>show(x.1 !=20&&x.1 !=21)=P i by rw[<-hP];show _=(raw l i !=20&&raw l i !=21);rw[Fl.kR hi]);have H:=eu (λj x (hj:l[j]?=some x)=>iG hr j x hj);obtain⟨T,hT⟩:=eX (Ps.limit l i);rw[hT];unfold Ps.limit at hT;rw[hP]at hT;obtain⟨N,hN⟩:=eX (l.length);have HN:=eu hN;rw[hN]at hs r0 hT hi;have HT:=eu hT;clear hr hN hT hP
 go_enter func80,ntmps80
 go_wp2_with fail
 go_loopw [5] (λiv wr=>∃k:Nat,iv=.int .i64 k/\k<=N/\Hid (jh P (N-k) k=T)/\w=wr) (λiv _=>N-(intOf iv).toNat)
 case atStart=>exact⟨i,rfl,hi,HT,rfl⟩
 case round=>
  obtain⟨k,rfl,hk,aa,rfl⟩:=hrel;by_cases hlt:k<N
  ·obtain⟨x,hx⟩:=iT l k (by rw[HN.out];omega);have ae:=HX.out k x hx;obtain⟨b,off,rfl,t0,-,-⟩:=H.out k x hx;have hst:=Fl.lq P N k hlt;obtain⟨K,hK⟩:=eX (x.1);rw[hK]at t0 ae;have gp:(k:Int)<(N:Int):=by omega
   by_cases q:K=20\/K=21
   ·have q0:P k=false:=by rw[<-ae];rcases q with q|q<;>rw[q]<;>rfl
    rw[eQ (by rw[q0];decide)]at hst;obtain rfl:T=k:=by rw[<-aa.out];exact hst
    rcases q with q|q
    ·have g1:((K:Int) !=20)=false:=by simp;omega
     clear hst hx hK q q0 H HX aa HT ae HN;go_wp2_with fail
     go_ret;exact⟨rfl,rfl⟩
    have g1:((K:Int) !=20)=true:=by simp;omega
    have g2:((K:Int) !=21)=false:=by simp;omega
    clear hst hx hK q q0 H HX aa HT ae HN;go_wp2_with fail
    go_ret;exact⟨rfl,rfl⟩
   have q0:P k=true:=by rw[<-ae];simp;omega
   rw[eT q0]at hst;have ag:=eu (show jh P (N-(k+1)) (k+1)=T by rw[<-aa.out];exact hst.symm);have g1:((K:Int) !=20)=true:=by simp;omega
   have g2:((K:Int) !=21)=true:=by simp;omega
   clear hst hx hK q q0 H HX aa HT ae HN;go_wp2_with fail
   go_roundw
   case rel=>exact⟨k+1,by go_num,by omega,ag,trivial⟩
   case measure=>simp[intOf];omega
  obtain rfl:k=N:=by omega
  have hst:=Fl.mi P k k (fC _);obtain rfl:T=k:=by rw[<-aa.out];exact hst
  have gp:¬(T:Int)<(T:Int):=by omega
  clear H HX aa HT hlt hst HN;go_wp2_with fail
  go_ret;exact⟨rfl,rfl⟩
theorem kD(w0 w:World)(c:Cx)(e:Nat)(p:Ps.PS)(sv:Value)(R:Nat->Prop)(f t:Nat)(h:PG w0 w c e p sv R)(hf:f<=200000)(ht:t<=c.l.length):
 Calls prog 45 #[RG c.pb,.int .i64 f,.int .i64 t] w λen w'=>en=.returned (.tuple #[.int .i64 (Ps.lo c.l f t:Nat),.int .i64 (back c.l t (Ps.lo c.l f t):Nat)])/\w=w':=by
 obtain⟨c0,r0,hr,hs⟩:=h.toks;obtain⟨tv,ay⟩:=eX (c.tv);obtain⟨l,hl⟩:=eX (c.l);obtain⟨rb,hrb⟩:=eX (c.rb);obtain⟨pb,hpb⟩:=eX (c.pb);rw[ay]at r0 hr;rw[hl]at hr hs ht⊢;rw[hrb]at c0 r0;rw[hpb]at c0⊢;clear h ay hl hrb hpb;obtain⟨a,cap,rfl⟩:=hr.shape;obtain⟨P,hP⟩:∃P:Nat->Bool,(λj=>!cnt (raw l j))=P:=⟨_,rfl⟩
 have HX:=eu (λi (x:Tk)(hi:l[i]?=some x)=>show(!cnt x.1)=P i by rw[<-hP];show _=(!cnt (raw l i));rw[Fl.kR hi]);have ae:=eu (λi (x:Tk)(hi:l[i]?=some x)=>Fl.kR hi);have H:=eu (λj x (hj:l[j]?=some x)=>iG hr j x hj);have HC:=eu (λk=>L5 k w);obtain⟨A,hA⟩:=eX (Ps.lo l f t);rw[hA];unfold Ps.lo at hA;rw[hP]at hA;have HB:=eu (λi=>Fl.yN l i A);have HB0:=eu (show back l 0 A=0 from rfl);obtain⟨B,hB⟩:=eX (back l t A);rw[hB];have ak:=eu hB;obtain⟨N,hN⟩:=eX (l.length);have HN:=eu hN;rw[hN]at hs r0 ht;have HA:=eu hA;have HQ:=eu (show(fun(en:Ending)(w':World)=>en=.returned (.tuple #[.int .i64 (A:Int),.int .i64 (B:Int)])/\w=w') (.returned (.tuple #[.int .i64 (A:Int),.int .i64 (B:Int)])) w from⟨rfl,rfl⟩);obtain⟨Q,hQ⟩:=eX ((fun(en:Ending)(w':World)=>en=.returned (.tuple #[.int .i64 (A:Int),.int .i64 (B:Int)])/\w=w'));rw[hQ]at HQ⊢;clear hr hN hA hP hB hQ
 go_enter func45,ntmps45
 go_wp2_with fail
 go_loopw [8] (λiv wr=>∃k:Nat,iv=.int .i64 k/\k<=200000/\Hid (jh P (t-k) k=A)/\w=wr) (λiv _=>t-(intOf iv).toNat)
 case atStart=>exact⟨f,rfl,hf,HA,rfl⟩
 case round=>
  obtain⟨k,rfl,hk,ai,rfl⟩:=hrel;by_cases hlt:k<t
  ·obtain⟨x,hx⟩:=iT l k (by rw[HN.out];omega);have ag:=HX.out k x hx;obtain⟨b,off,az,t0,-,-⟩:=H.out k x hx;have hst:=Fl.lq P t k hlt;obtain⟨K,hK⟩:=eX (x.1);rw[hK]at t0 ag;have hcl:=HC.out K;have gp:(k:Int)<(t:Int):=by omega
   have gi:(k:Int)<(N:Int):=by omega
   cases q:cnt K with
   |false=>
    rw[q]at hcl ag;rw[eT (show P k=true from ag.symm)]at hst;have aj:=eu (show jh P (t-(k+1)) (k+1)=A by rw[<-ai.out];exact hst.symm);have av:=eu hcl;subst az;clear hst hx hK q H HX ae ai HA ag hcl HC HB HB0 ak HQ;go_wp2_with (refine av.out.mono ?_;rintro e w1 ⟨rfl,rfl⟩)
    go_roundw
    case rel=>exact⟨k+1,by go_num,by omega,aj,trivial⟩
    case measure=>simp[intOf];omega
   |true=>
    rw[q]at hcl ag;rw[eQ (by rw[<-ag];decide)]at hst;obtain rfl:A=k:=by rw[<-ai.out];exact hst
    have av:=eu hcl;subst az;clear hst hx hK q HX ai HA ag hcl;go_wp2_with (refine av.out.mono ?_;rintro e w1 ⟨rfl,rfl⟩)
    go_loopw [9] (λiv wr=>∃k:Nat,iv=.int .i64 k/\k<=N/\Hid (back l k A=B)/\w=wr) (λiv _=>(intOf iv).toNat)
    case atStart=>exact⟨t,rfl,ht,ak,rfl⟩
    case round=>
     obtain⟨m,rfl,hm,HM,rfl⟩:=hrel;by_cases hlt2:A<m
     ·obtain⟨j,rfl⟩:∃j,m=j+1:=⟨m-1,by omega⟩
      obtain⟨x,hx⟩:=iT l j (by rw[HN.out];omega);have af:=ae.out j x hx;obtain⟨b2,aA,aa,s0,-,-⟩:=H.out j x hx;have hst:=HB.out j;obtain⟨K2,hK⟩:=eX (x.1);rw[hK]at s0 af;rw[af]at hst;have hcl:=HC.out K2;have ax:(A:Int)<((j+1:Nat):Int):=by omega
      have aB:(j:Int)<(N:Int):=by omega
      have gw:IntKind.i64.wrap (((j+1:Nat):Int)-1)=(j:Int):=by
       rw[show((j+1:Nat):Int)-1=(j:Int)by omega];exact jC _ (by omega)
      cases q2:cnt K2 with
      |false=>
       rw[q2]at hcl hst;rw[eT ⟨hlt2,rfl⟩]at hst;have aj:=eu (show back l j A=B by rw[<-HM.out];exact hst.symm);have ah:=eu hcl;injection aa with aa
       injection aa with e1 e2
       subst e1 e2;clear hst hx hK q2 H HM af hcl HC HB HB0 HQ ae;go_wp2_with (refine ah.out.mono ?_;rintro e w1 ⟨rfl,rfl⟩)
       go_roundw
       case rel=>exact⟨j,by go_num,by omega,aj,trivial⟩
       case measure=>simp[intOf]
      |true=>
       rw[q2]at hcl hst;rw[eQ (λh=>by cases h.2)]at hst;obtain rfl:B=j+1:=by rw[<-HM.out];exact hst
       have ah:=eu hcl;injection aa with aa
       injection aa with e1 e2
       subst e1 e2;clear hst hx hK q2 H HM af hcl HC HB HB0 ae;go_wp2_with (refine ah.out.mono ?_;rintro e w1 ⟨rfl,rfl⟩)
       exact HQ.out
     obtain rfl:B=m:=by
      rw[<-HM.out];cases m with
      |zero=>exact HB0.out
      |succ j=>rw[HB.out j,eQ (λh=>hlt2 h.1)]
     have ax:¬(A:Int)<(B:Int):=by omega
     clear H HM hlt2 HC HB HB0 ae;go_wp2_with fail
     exact HQ.out
  have hst:=Fl.mi P t k (by omega);obtain rfl:A=k:=by rw[<-ai.out];exact hst
  have gp:¬(A:Int)<(t:Int):=by omega
  clear HX ai HA hlt hst;go_wp2_with fail
  go_loopw [9] (λiv wr=>∃k:Nat,iv=.int .i64 k/\k<=N/\Hid (back l k A=B)/\w=wr) (λiv _=>(intOf iv).toNat)
  case atStart=>exact⟨t,rfl,ht,ak,rfl⟩
  case round=>
   obtain⟨m,rfl,hm,HM,rfl⟩:=hrel;by_cases hlt2:A<m
   ·obtain⟨j,rfl⟩:∃j,m=j+1:=⟨m-1,by omega⟩
    obtain⟨x,hx⟩:=iT l j (by rw[HN.out];omega);have af:=ae.out j x hx;obtain⟨b2,aA,aa,s0,-,-⟩:=H.out j x hx;have hst:=HB.out j;obtain⟨K2,hK⟩:=eX (x.1);rw[hK]at s0 af;rw[af]at hst;have hcl:=HC.out K2;have ax:(A:Int)<((j+1:Nat):Int):=by omega
    have aB:(j:Int)<(N:Int):=by omega
    have gw:IntKind.i64.wrap (((j+1:Nat):Int)-1)=(j:Int):=by
     rw[show((j+1:Nat):Int)-1=(j:Int)by omega];exact jC _ (by omega)
    cases q2:cnt K2 with
    |false=>
     rw[q2]at hcl hst;rw[eT ⟨hlt2,rfl⟩]at hst;have aj:=eu (show back l j A=B by rw[<-HM.out];exact hst.symm);have ah:=eu hcl;subst aa;clear hst hx hK q2 H HM af hcl HC HB HB0 HQ ae;go_wp2_with (refine ah.out.mono ?_;rintro e w1 ⟨rfl,rfl⟩)
     go_roundw
     case rel=>exact⟨j,by go_num,by omega,aj,trivial⟩
     case measure=>simp[intOf]
    |true=>
     rw[q2]at hcl hst;rw[eQ (λh=>by cases h.2)]at hst;obtain rfl:B=j+1:=by rw[<-HM.out];exact hst
     have ah:=eu hcl;subst aa;clear hst hx hK q2 H HM af hcl HC HB HB0 ae;go_wp2_with (refine ah.out.mono ?_;rintro e w1 ⟨rfl,rfl⟩)
     exact HQ.out
   obtain rfl:B=m:=by
    rw[<-HM.out];cases m with
    |zero=>exact HB0.out
    |succ j=>rw[HB.out j,eQ (λh=>hlt2 h.1)]
   have ax:¬(A:Int)<(B:Int):=by omega
   clear H HM hlt2 HC HB HB0 ae;go_wp2_with fail
   exact HQ.out
end
section
open Go.RowKit
open Sq
open Ar
open Fl (Tk raw jh cnt back)
theorem C9(w0 w:World)(c:Cx)(e:Nat)(p:Ps.PS)(sv:Value)(R:Nat->Prop)(i e0:Nat)(B:Ps.Bs)(h:PG w0 w c e p sv R)(hI:Ps.Inv c.l B e0 p)(aj:e0<=i)(hi:i<=c.l.length)(hn:p.s.t.length<=700000000000):
 Calls prog 46 #[RG c.pb,.int .i64 i] w (iJ w0 w c (.tuple #[]) (Ps.gu p i)):=by
 have c2:=h.cell 2 _ rfl;have c0:=h.cell 0 _ rfl;have HH:=eu h;by_cases hd:p.doc<0
 ·have hb:Ps.gu p i={p with s:=(Fl.add p.s 0 2 i i).1,doc:=(Fl.add p.s 0 2 i i).2,root:=false,st:=[]}:=by unfold Ps.gu;rw[eT hd]
  rw[hb];have hr:=hI.root;have hA:=AA w0 w c.rb c.tv e c.l p.s R 0 e0 2 i i e0 h.gs hr.ck hr.fits hr.lf hr.no hn aj (fC _) hi (by omega) (by omega);obtain⟨A,ae⟩:=eX (Fl.add p.s ((0:Nat):Int) 2 i i);have aa:Fl.add p.s 0 2 i i=A:=ae;rw[ae]at hA;rw[aa];have HA:=eu (show Calls prog 68 #[RG c.rb,.int .i64 0,.int .i64 2,.int .i64 i,.int .i64 i] w (fU w0 w c.rb c.tv e c.l R (.int .i64 A.2) A.1)from hA);have HQ:=eu (λW (h:∃e sv R,PG w0 W c e {p with s:=A.1,doc:=A.2,root:=false,st:=[]} sv R/\TF w W)=>show iJ w0 w c (.tuple #[]) {p with s:=A.1,doc:=A.2,root:=false,st:=[]} (.returned (.tuple #[])) W from⟨rfl,h⟩);obtain⟨Q,hQ⟩:=eX (iJ w0 w c (.tuple #[]) {p with s:=A.1,doc:=A.2,root:=false,st:=[]});rw[hQ]at HQ⊢;clear hb hr hA ae aa hQ hI h hn
  go_enter func46,ntmps46
  go_wp2_with fail
  refine HA.out.mono ?_;rintro e1 w1 ⟨rfl,R1,hS1,hF1⟩;obtain⟨hP1,hT1⟩:=HH.out.step hS1 hF1;have d2:=hP1.cell 2 _ rfl;have f2:=hP1.free 2;obtain⟨hP2,af⟩:=hP1.toCell (p':={p with s:=A.1,doc:=A.2}) (i:=2) (u:=.int .i64 A.2) rfl rfl rfl;obtain⟨w2,hw2⟩:=eX (w1.setCell ⟨c.pb,2,none⟩ (.int .i64 A.2));rw[hw2]at hP2 af;obtain⟨hP3,ag⟩:=hP2.toCell (p':={p with s:=A.1,doc:=A.2,root:=false}) (i:=3) (u:=.bool false) rfl rfl rfl;have e3:=hP2.cell 3 _ rfl;have f3:=hP2.free 3;obtain⟨w3,hw3⟩:=eX (w2.setCell ⟨c.pb,3,none⟩ (.bool false));rw[hw3]at hP3 ag;obtain⟨ah,ai⟩:=hP3.l6 (p':={p with s:=A.1,doc:=A.2,root:=false,st:=[]}) (sv':=.slice none 0 0) rfl rfl rfl rfl (jq iA _ _);have e4:=hP3.cell 4 _ rfl;have f4:=hP3.free 4;have HD:=eu (HQ.out _ ⟨_,_,_,ah,((hT1.trans af).trans ag).trans ai⟩);obtain⟨HW2,HW3⟩:=fD hw2 hw3;have e4b:w2.cell? ⟨c.pb,4,none⟩=some sv:=hP2.cell 4 _ rfl;have ak:=hP2.free 4;clear hS1 hF1 hP1 hT1 hP2 af hP3 ag ah ai hw2 hw3 HA HQ HH;go_upto_region 2 with fail
  rw[HW2.out];clear d2 f2;go_wp2_with fail
  go_end0
  rw[HW3.out];exact HD.out
 have hb:Ps.gu p i=p:=by unfold Ps.gu;rw[eQ hd]
 rw[hb];have HD:=eu (show iJ w0 w c (.tuple #[]) p (.returned (.tuple #[])) w from⟨rfl,_,_,_,h,TF.refl _⟩);obtain⟨Q,hQ⟩:=eX (iJ w0 w c (.tuple #[]) p);rw[hQ]at HD⊢;clear hb hQ hI h hn HH
 go_enter func46,ntmps46
 go_wp2_with fail
 go_end0
 exact HD.out
theorem PG.top{w0 w:World}{c:Cx}{e:Nat}{p:Ps.PS}{sv:Value}{R:Nat->Prop}(h:PG w0 w c e p sv R){o:Ps.Op}{r:List Ps.Op}(hst:p.st=o::r):
 ∃g cap,sv=.slice (some ⟨g,0,none⟩) (r.length+1) cap/\w0.heap.size<=g/\(∀j,w.frozen? ⟨g,j,none⟩=false)/\p.st.reverse[r.length]?=some o/\
  w.cell? ⟨g,r.length*5,none⟩=some (.int .i64 o.node)/\w.cell? ⟨g,r.length*5+1,none⟩=some (.int .i64 o.kind)/\w.cell? ⟨g,r.length*5+2,none⟩=some (.int .i64 o.fo)/\w.cell? ⟨g,r.length*5+3,none⟩=some (.int .i64 o.cur)/\w.cell? ⟨g,r.length*5+4,none⟩=some (.bool o.has):=by
 have hl:p.st.reverse.length=r.length+1:=by rw[iI,hst,gy]
 obtain⟨g,cap,hv,hB,hfz,-,-⟩:=jG (E:=iA) h.mJ (by omega);have hx:p.st.reverse[r.length]?=some o:=by rw[hst,xY,uU (by simp)];simp
 have hc:∀j u,j<5->(nD o)[j]?=some u->w.cell? ⟨g,r.length*5+j,none⟩=some u:=λj u hj hu=>by
  have:=h.mJ.cells (g:=g) (by rw[hv];rfl) _ _ ((ky iA p.st.reverse r.length o hx j hj).trans hu);rw[iy,j5]at this;exact this
 exact⟨g,cap,by rw[hv,hl],hB,hfz,hx,hc 0 _ (by decide) rfl,hc 1 _ (by decide) rfl,hc 2 _ (by decide) rfl,hc 3 _ (by decide) rfl,hc 4 _ (by decide) rfl⟩
theorem vL(w0 w:World)(c:Cx)(e:Nat)(p:Ps.PS)(sv:Value)(R:Nat->Prop)(h:PG w0 w c e p sv R)(hl:p.st.length<=100000):
 Calls prog 48 #[RG c.pb] w λen w'=>en=.returned (.int .i64 (Ps.holder p))/\Below w.heap.size w w':=by
 have c2:w.cell? ⟨c.pb,2,none⟩=some (.int .i64 p.doc):=h.cell 2 _ rfl;have c4:w.cell? ⟨c.pb,4,none⟩=some sv:=h.cell 4 _ rfl;obtain⟨pb,hpb⟩:=eX (c.pb);rw[hpb]at c2 c4⊢;cases hst:p.st with
 |nil=>
  have hh:Ps.holder p=p.doc:=by unfold Ps.holder;rw[hst]
  rw[hh];have hr:=h.mJ;rw[hst]at hr;obtain⟨a,cap,rfl⟩:=(Reads.fJ (E:=iA) hr).shape;clear h hr hh hst
  go_enter func48,ntmps48
  go_wp2_with fail
  go_ret;exact⟨rfl,fu _ _⟩
 |cons o r=>
  obtain⟨g,cap,rfl,-,-,-,x0,x1,x2,x3,x4⟩:=h.top hst;have hh:Ps.holder p=if o.has=true then o.node else o.cur:=by unfold Ps.holder;rw[hst]
  rw[hh];obtain⟨V,hV⟩:=eX ((if o.has=true then o.node else o.cur));rw[hV];have HV:=eu hV;clear hV;have hrl:r.length+1<=100000:=by rw[hst]at hl;exact hl
  obtain⟨M,hM⟩:=eX (r.length);rw[hM]at c4 x0 x1 x2 x3 x4 hrl;obtain⟨N,hN⟩:=eX (M+1);rw[hN]at c4 hrl;have gn:((N:Int)==0)=false:=by simp;omega
  have gw:IntKind.i64.wrap ((N:Int)-1)=(M:Int):=by
   rw[show(N:Int)-1=(M:Int)by omega];exact jC _ (by omega)
  have gi:(M:Int)<(N:Int):=by omega
  have aa:=eZ w (.cells #[.int .i64 o.node,.int .i64 o.kind,.int .i64 o.fo,.int .i64 o.cur,.bool o.has] 114);have hbb:=aa.drew;obtain⟨wx,hwx⟩:=eX ((w.alloc (.cells #[.int .i64 o.node,.int .i64 o.kind,.int .i64 o.fo,.int .i64 o.cur,.bool o.has] 114)).drew);rw[hwx]at hbb;have HB:=eu hbb;have y0:wx.cell? ⟨w.heap.size,0,none⟩=some (.int .i64 o.node):=by rw[<-hwx];exact iY (at_new rfl)
  have y3:wx.cell? ⟨w.heap.size,3,none⟩=some (.int .i64 o.cur):=by rw[<-hwx];exact iY (at_new rfl)
  have y4:wx.cell? ⟨w.heap.size,4,none⟩=some (.bool o.has):=by rw[<-hwx];exact iY (at_new rfl)
  have ae:=gX (o:=.cells #[.int .i64 0,.int .i64 0,.int .i64 0,.int .i64 0,.bool false] 114) c4;have af:=gX (o:=.cells #[.int .i64 0,.int .i64 0,.int .i64 0,.int .i64 0,.bool false] 114) x0;have ag:=gX (o:=.cells #[.int .i64 0,.int .i64 0,.int .i64 0,.int .i64 0,.bool false] 114) x1;have ah:=gX (o:=.cells #[.int .i64 0,.int .i64 0,.int .i64 0,.int .i64 0,.bool false] 114) x2;have ai:=gX (o:=.cells #[.int .i64 0,.int .i64 0,.int .i64 0,.int .i64 0,.bool false] 114) x3;have aj:=gX (o:=.cells #[.int .i64 0,.int .i64 0,.int .i64 0,.int .i64 0,.bool false] 114) x4;clear h hh hst hM hN hl aa hbb
  go_enter func48,ntmps48
  go_upto_region 3 with fail
  go_region
  clear ae af ag ah ai aj x0 x1 x2 x3 x4 c4 hwx;cases hb:o.has with
  |true=>
   rw[hb]at y4;have hv:=HV.out;rw[eT hb]at hv;subst hv;clear hb HV;go_wp2_with fail
   go_ret;exact⟨rfl,HB.out⟩
  |false=>
   rw[hb]at y4;have hv:=HV.out;rw[eQ (by rw[hb];decide)]at hv;subst hv;clear hb HV;go_wp2_with fail
   go_ret;exact⟨rfl,HB.out⟩
end
section
open Go.RowKit
open Sq
open Ar
open Fl (Tk raw jh cnt back fQ gI)
namespace Ps
theorem KW(l:List Tk)(next:Nat)(none':Bool)(h1:next<=l.length)(h2:none'=true->next<l.length)(h3:0<l.length):
 ∃(i:Nat)(r:Rw.R),(Rw.fE l)[i]?=some r/\r.au=qg (Rw.fE l) next none'/\(decide (r.au<next)||(none' &&r.au==next))=false/\∀j,j<i->∀x,(Rw.fE l)[j]?=some x->(decide (x.au<next)||(none' &&x.au==next))=true:=by
 obtain⟨r0,hr0,he0⟩:=wT l h3;have key:∀rs:List Rw.R,(∃r∈rs,r.au=l.length)->∃(i:Nat)(r:Rw.R),rs[i]?=some r/\r.au=qg rs next none'/\(decide (r.au<next)||(none' &&r.au==next))=false/\∀j,j<i->∀x,rs[j]?=some x->(decide (x.au<next)||(none' &&x.au==next))=true:=by
  intro rs
  induction rs with
  |nil=>rintro⟨r,hr,_⟩;cases hr
  |cons y q ih=>
   intro hex;cases hc:(decide (y.au<next)||(none' &&y.au==next))with
   |false=>
    refine⟨0,y,rfl,?_,hc,λj hj=>absurd hj (uY _)⟩;unfold qg;rw[List.find?_cons,hc];rfl
   |true=>
    have aa:∃r∈q,r.au=l.length:=by
     obtain⟨r,hr,he⟩:=hex;rcases qV.1 hr with rfl|hr
     ·rw[he]at hc;exfalso;cases hn:none' with
      |false=>rw[hn]at hc;simp at hc;omega
      |true=>have:=h2 hn;rw[hn]at hc;simp at hc;omega
     exact⟨r,hr,he⟩
    obtain⟨i,r,g1,g2,g3,g4⟩:=ih aa;refine⟨i+1,r,by rw[Ql];exact g1,?_,g3,λj hj x hx=>?_⟩
    ·rw[g2];unfold qg;rw[List.find?_cons,hc];rfl
    cases j with
    |zero=>
     obtain rfl:y=x:=by simpa using hx
     exact hc
    |succ j=>exact g4 j (by omega) x (by simpa using hx)
 exact key _ ⟨r0,hr0,he0⟩
end Ps
def nC(w0 w:World)(c:Cx)(sv v:Value)(p:Ps.PS)(en:Ending)(w':World):Prop:=en=.returned v/\∃e R,PG w0 w' c e p sv R/\TF w w'
theorem nC.goes{w0 w:World}{c:Cx}{sv v:Value}{p:Ps.PS}{en:Ending}{w':World}(h:nC w0 w c sv v p en w'):iJ w0 w c v p en w':=by
 obtain⟨h1,e,R,h2,h3⟩:=h;exact⟨h1,e,sv,R,h2,h3⟩
theorem PW(w0 w:World)(c:Cx)(e:Nat)(p:Ps.PS)(sv:Value)(R:Nat->Prop)(up next e1:Nat)(none':Bool)(B:Ps.Bs)(h:PG w0 w c e p sv R)(hrs:c.rs=Rw.fE c.l)(hok:Ps.OK c.l B up e1 p.s)(he:e1<=next)(hB:B.1<=next)(h1:next<=c.l.length)(h2:none'=true->next<c.l.length)(h3:0<c.l.length)
 (hn:p.s.t.length<=700000000000) (hd:p.s.d.length<=700000000000):
 Calls prog 82 #[RG c.pb,.int .i64 up,.int .i64 next,.bool none'] w (nC w0 w c sv (.tuple #[]) (Ps.rest c.l c.rs p up next none')):=by
 obtain⟨I,r,hI,hrt,hI1,hI2⟩:=Ps.KW c.l next none' h1 h2 h3;obtain⟨ht1,ht2⟩:=Ps.CV c.l next none' h1 h2 h3;rw[<-hrs]at hI hrt hI2 ht1 ht2;have hrest:Ps.rest c.l c.rs p up next none'={p with s:=Ps.jo c.l p.s up (Ps.lo c.l next r.au) (back c.l r.au (Ps.lo c.l next r.au)) 8,read:=r.au}:=by
  unfold Ps.rest;rw[<-hrt]
 rw[hrest];rw[<-hrt]at ht1 ht2;clear hrest;have hcn:=kD w0 w c e p sv R next r.au h (by have:=h.toks.2.2.2;omega) ht2;have hlo:=Ps.jJ c.l next r.au;have hbk:=fQ c.l r.au (Ps.lo c.l next r.au);obtain⟨A,hA⟩:=eX (Ps.lo c.l next r.au);rw[hA]at hcn hlo hbk⊢;obtain⟨Bk,ay⟩:=eX (back c.l r.au A);rw[ay]at hcn hbk⊢;obtain⟨c1,hrr⟩:=h.rws;have c0:w.cell? ⟨c.pb,0,none⟩=some (RG c.rb):=h.cell 0 _ rfl;obtain⟨ra,rc,ax⟩:=hrr.shape;rw[ax]at hrr c1;have HR:=eu (λj x (hj:c.rs[j]?=some x)=>og hrr j x hj);obtain⟨HI,HI1,HI2⟩:=gW hI hI1 hI2;have aA:=(fT.1 hI).1;have az:=h.Og;obtain⟨N,hN⟩:=eX (c.rs.length);have HN:=eu hN;rw[hN]at c1 aA az;have ae:=eu (show c.rv=.slice ra N rc by rw[<-hN];exact ax);obtain⟨ag,HH⟩:=fD hcn h;obtain⟨T,hT⟩:=eX (r.au);rw[hT]at ag hbk⊢;have HT:=eu hT;have av:A<Bk->∃v,Calls prog 47 #[RG c.rb,.int .i64 up,.int .i64 A,.int .i64 Bk,.int .i64 8] w (fU w0 w c.rb c.tv e c.l R (.int .i64 v) (Fl.err c.l p.s up A Bk 8)):=λhlt=>by
  obtain⟨-,m2⟩:=Fe.jL (code:=8) hok (f:=A) (t:=Bk) (by omega) hlt (by omega) (by omega) (by omega) (by omega) (by omega);exact vW w0 w c.rb c.tv e c.l p.s R up A Bk 8 h.gs (jD.of hok.ck (by omega)) (lh m2) hlt (by omega) (by omega)
 have aj:=eu av;obtain⟨P2,hP2⟩:∃P2:Ps.PS,({p with s:=Ps.jo c.l p.s up A Bk 8,read:=T}:Ps.PS)=P2:=⟨_,rfl⟩
 rw[hP2];have HQ:=eu (λW (h:∃e R,PG w0 W c e P2 sv R/\TF w W)=>show nC w0 w c sv (.tuple #[]) P2 (.returned (.tuple #[])) W from⟨rfl,h⟩);obtain⟨Q,hQ⟩:=eX (nC w0 w c sv (.tuple #[]) P2);rw[hQ]at HQ⊢;have ai:=eu hP2;clear hI hI1 hI2 hrt hcn hN hT av hP2 hQ h hok hrr ax hA ay hn hd hrs ht1 ht2 h2
 go_enter func82,ntmps82
 go_wp2_with fail
 go_loopw [8] (λiv wr=>∃k:Nat,iv=.int .i64 k/\k<=I/\w=wr) (λiv _=>I-(intOf iv).toNat)
 case atStart=>exact⟨0,rfl,gG _,rfl⟩
 case round=>
  obtain⟨k,rfl,hk,rfl⟩:=hrel;by_cases hlt:k<I
  ·obtain⟨x,hx⟩:=iT c.rs k (by rw[HN.out];omega);have hc:=HI2.out k hlt x hx;obtain⟨b,off,rfl,-,-,x2,-⟩:=HR.out k x hx;obtain⟨X,hX⟩:=eX (x.au);rw[hX]at hc x2;have gk:(k:Int)<(N:Int):=by omega
   by_cases q:X<next
   ·have g1:(X:Int)<(next:Int):=by omega
    clear hc hx hX HR HI HI1 HI2 HN ag HH HT aj HQ ai ae q;go_wp2_with fail
    go_roundw
    case rel=>exact⟨k+1,by go_num,by omega,trivial⟩
    case measure=>simp[intOf];omega
   have g1:¬((X:Int)<(next:Int)):=by omega
   rw[show decide (X<next)=false from iF q,Lu]at hc;cases hno:none' with
   |false=>rw[hno]at hc;cases hc
   |true=>
    rw[hno]at hc;have g2:((X:Int)==(next:Int))=true:=by simp at hc⊢;omega
    subst hno;clear hc hx hX HR HI HI1 HI2 HN ag HH HT aj HQ ai ae q;go_wp2_with fail
    go_roundw
    case rel=>exact⟨k+1,by go_num,by omega,trivial⟩
    case measure=>simp[intOf];omega
  obtain rfl:k=I:=by omega
  have hc:=HI1.out;obtain⟨b,off,hra,-,-,x2,-⟩:=HR.out k r HI.out
  have HX:=eu (λW (hW:∃p' sv' R',PG w0 W c e p' sv' R')=>show W.cell? ⟨b,off+k*4+2,none⟩=some (.int .i64 (T:Int))from by
   obtain⟨p',sv',R',hW⟩:=hW;have h2:=hW.rws.2;rw[ae.out]at h2;obtain⟨b',off',he,-,-,z2,-⟩:=og (by rw[<-HN.out]at h2;exact h2) k r HI.out;rw[hra]at he;injection he with he
   injection he with e1 e2
   subst e1 e2;rw[<-HT.out]
   exact z2)
  rw[HT.out]at hc x2;subst hra;have gk:(k:Int)<(N:Int):=by omega
  have q:¬T<next:=λh=>by rw[show decide (T<next)=true from iO h]at hc;cases hc
  have g1:¬((T:Int)<(next:Int)):=by omega
  have hstop:none'=true->((T:Int)==(next:Int))=false:=λh=>by rw[h]at hc;simp at hc⊢;omega
  clear hlt hc HR HI HI1 HI2 HN HT;by_cases hab:A<Bk
  ·obtain⟨v,hev⟩:=aj.out hab;have HE:=eu hev;have aB:(A:Int)<(Bk:Int):=by omega
   have hst:Ps.jo c.l p.s up A Bk 8=Fl.err c.l p.s up A Bk 8:=by unfold Ps.jo;rw[eT hab]
   have ah:=eu (show({p with s:=Fl.err c.l p.s up A Bk 8,read:=T}:Ps.PS)=P2 by rw[<-hst];exact ai.out);clear hev hab hst aj ai;cases none' with
   |false=>
    go_wp2_with (first|(with_reducible refine ag.out.mono ?_;rintro e w1 ⟨rfl,rfl⟩)|fail)
    refine HE.out.mono ?_;rintro e1 w2 ⟨rfl,R2,hS2,hF2⟩;obtain⟨hP2,ak⟩:=HH.out.step hS2 hF2;obtain⟨aa,af⟩:=hP2.toCell (p':={p with s:=Fl.err c.l p.s up A Bk 8,read:=T}) (i:=6) (u:=.int .i64 (T:Int)) rfl rfl rfl;rw[ah.out]at aa;have d1:w2.cell? ⟨c.pb,1,none⟩=some (.slice (some ⟨b,off,none⟩) N rc):=by rw[<-ae.out];exact hP2.cell 1 _ rfl
    have d0:w2.cell? ⟨c.pb,0,none⟩=some (RG c.rb):=hP2.cell 0 _ rfl;have d6:=hP2.cell 6 _ rfl;have f6:=hP2.free 6;have x3:w2.cell? ⟨b,off+k*4+2,none⟩=some (.int .i64 (T:Int)):=HX.out w2 ⟨_,_,_,hP2⟩;have HD:=eu (HQ.out _ ⟨_,_,aa,ak.trans af⟩);clear hS2 hF2 hP2 ak aa af HE HQ ah HH HX ae;go_wp2_with fail
    go_end0
    exact HD.out
   |true=>
    have g2:=hstop rfl;go_wp2_with (first|(with_reducible refine ag.out.mono ?_;rintro e w1 ⟨rfl,rfl⟩)|fail)
    refine HE.out.mono ?_;rintro e1 w2 ⟨rfl,R2,hS2,hF2⟩;obtain⟨hP2,ak⟩:=HH.out.step hS2 hF2;obtain⟨aa,af⟩:=hP2.toCell (p':={p with s:=Fl.err c.l p.s up A Bk 8,read:=T}) (i:=6) (u:=.int .i64 (T:Int)) rfl rfl rfl;rw[ah.out]at aa;have d1:w2.cell? ⟨c.pb,1,none⟩=some (.slice (some ⟨b,off,none⟩) N rc):=by rw[<-ae.out];exact hP2.cell 1 _ rfl
    have d0:w2.cell? ⟨c.pb,0,none⟩=some (RG c.rb):=hP2.cell 0 _ rfl;have d6:=hP2.cell 6 _ rfl;have f6:=hP2.free 6;have x3:w2.cell? ⟨b,off+k*4+2,none⟩=some (.int .i64 (T:Int)):=HX.out w2 ⟨_,_,_,hP2⟩;have HD:=eu (HQ.out _ ⟨_,_,aa,ak.trans af⟩);clear hS2 hF2 hP2 ak aa af HE HQ ah HH HX ae;go_wp2_with fail
    go_end0
    exact HD.out
  have aB:¬((A:Int)<(Bk:Int)):=by omega
  have hst:Ps.jo c.l p.s up A Bk 8=p.s:=by unfold Ps.jo;rw[eQ hab]
  have ah:=eu (show({p with read:=T}:Ps.PS)=P2 by rw[<-ai.out,hst]);clear hab hst aj ai;obtain⟨aa,af⟩:=HH.out.toCell (p':={p with read:=T}) (i:=6) (u:=.int .i64 (T:Int)) rfl rfl rfl;rw[ah.out]at aa;have d6:=HH.out.cell 6 _ rfl;have f6:=HH.out.free 6;have HD:=eu (HQ.out _ ⟨_,_,aa,af⟩);clear aa af HH HQ ah HX ae;cases none' with
  |false=>
   go_wp2_with (first|(with_reducible refine ag.out.mono ?_;rintro e w1 ⟨rfl,rfl⟩)|fail)
   go_end0
   exact HD.out
  |true=>
   have g2:=hstop rfl;go_wp2_with (first|(with_reducible refine ag.out.mono ?_;rintro e w1 ⟨rfl,rfl⟩)|fail)
   go_end0
   exact HD.out
end
section
open Go.RowKit
open Sq
open Ar
open Fl (Tk raw jh cnt back fQ gI lg iM)
theorem GS.toEnd{w0 w:World}{rb:Nat}{tv:Value}{e:Nat}{l:List Tk}{s:Fl.St}{R:Nat->Prop}(h:GS w0 w rb tv e l s R)(e':Nat)(he:e'<=l.length):
 GS w0 (w.setCell ⟨rb,3,none⟩ (.int .i64 (e':Int))) rb tv e' l s R/\FP w (w.setCell ⟨rb,3,none⟩ (.int .i64 (e':Int))) rb R R/\w.frozen? ⟨rb,3,none⟩=false:=by
 obtain⟨nv,dv,L,hM,hL,rfl⟩:=h;obtain⟨h1,h2⟩:=hM.toEnd e' he;exact⟨⟨nv,dv,L,h1,hL,rfl⟩,h2,hM.free 3⟩
theorem vM(w0 w:World)(c:Cx)(e:Nat)(p:Ps.PS)(sv:Value)(R:Nat->Prop)(up i e1:Nat)(B:Ps.Bs)(h:PG w0 w c e p sv R)(hrs:c.rs=Rw.fE c.l)(hok:Ps.OK c.l B up e1 p.s)(he:e1<=i)(hB:B.1<=i)(hi:i<c.l.length)(aB:p.st.length<=c.depth)(aD:c.depth<=50)
 (hn:p.s.t.length<=500000000000) (hd:p.s.d.length<=500000000000):
 Calls prog 69 #[RG c.pb,.int .i64 up,.int .i64 i] w (nC w0 w c sv (.bool (Ps.value c.l c.rs c.depth p up i).2) (Ps.value c.l c.rs c.depth p up i).1):=by
 have hls:=h.toks.2.2.2;have hlim:i<=Ps.limit c.l i/\Ps.limit c.l i<=c.l.length:=by
  have h1:=lg (λj=>raw c.l j !=20&&raw c.l j !=21) (c.l.length-i) i;have h2:=iM (λj=>raw c.l j !=20&&raw c.l j !=21) (c.l.length-i) i;unfold Ps.limit;omega
 have hva:=Fe.rf c.l (Ps.limit c.l i) c.l.length (by omega) (c.depth-p.st.length) up i p.s e1 hok.ck (hok.fits.le (by omega) (ji _)) hok.lf hok.no (by omega) hlim.1;have hlm:=λW e' p' sv' R' (hW:PG w0 W c e' p' sv' R')=>PV w0 W c e' p' sv' R' i hW (by omega)
 have hvl:Ps.value c.l c.rs c.depth p up i=(Ps.rest c.l c.rs {p with s:=(gI c.l (Ps.limit c.l i) (c.depth-p.st.length) up i p.s).2.2} up (if(gI c.l (Ps.limit c.l i) (c.depth-p.st.length) up i p.s).1<0 then i else max (gI c.l (Ps.limit c.l i) (c.depth-p.st.length) up i p.s).2.1 i) (decide ((gI c.l (Ps.limit c.l i) (c.depth-p.st.length) up i p.s).1<0)),decide (0<=(gI c.l (Ps.limit c.l i) (c.depth-p.st.length) up i p.s).1)):=rfl;rw[hvl];have HV:=eu (λW R' (hW:GS w0 W c.rb c.tv (Ps.limit c.l i) c.l p.s R')=>Ji c.l (c.depth-p.st.length) (by omega) w0 W c.rb c.tv (Ps.limit c.l i) p.s R' up i e1 hW hok.ck (hok.fits.le (by omega) (ji _)) hok.lf hok.no (by omega) hlim.1 (by omega) (by omega));obtain⟨E,hE⟩:=eX (Ps.limit c.l i);rw[hE]at hlim hva HV⊢;obtain⟨V,hV⟩:=eX (gI c.l E (c.depth-p.st.length) up i p.s);rw[hV]at hva⊢;obtain⟨d,hdd⟩:=eX (c.depth-p.st.length)
 have ae:=eu (λW R' (hW:GS w0 W c.rb c.tv E c.l p.s R')=>show Calls prog 81 #[RG c.rb,.int .i64 up,.int .i64 i,.int .i64 d] W (fU w0 W c.rb c.tv E c.l R' (.tuple #[.int .i64 V.1,.int .i64 (V.2.1:Nat)]) V.2.2)from by
  have h1:=HV.out W R' hW;rw[hV,hdd]at h1
  exact h1)
 have hdN:IntKind.i64.wrap ((c.depth:Int)-(p.st.length:Int))=(d:Int):=by
  rw[show(c.depth:Int)-(p.st.length:Int)=(d:Int)by omega];exact jC _ (by omega)
 obtain⟨hS1,hF1,hfz⟩:=h.gs.toEnd E hlim.2;have az:=h.below (fu _ w).drew;obtain⟨hP1,hT1⟩:=h.step hS1 hF1;have ax:=eu (λW (hb:Below w.heap.size w W)=>show Calls prog 80 #[RG c.pb,.int .i64 i] W λen w'=>en=.returned (.int .i64 (E:Nat))/\W=w' from by have h1:=hlm W _ _ _ _ (h.below hb);rw[hE]at h1;exact h1);have HB1:=eu (λk=>gB (fu w.heap.size w) k);have c0:w.drew.cell? ⟨c.pb,0,none⟩=some (RG c.rb):=az.cell 0 _ rfl;have r3:w.cell? ⟨c.rb,3,none⟩=some (.int .i64 (e:Int)):=h.gs.toks.2.1;obtain⟨w1,hw1⟩:=eX (w.setCell ⟨c.rb,3,none⟩ (.int .i64 (E:Int)));rw[hw1]at hP1 hT1;have hP2:=(hP1.below (fu _ w1).drew).below (fu _ w1.drew).drew;have ay:=hP1.below (fu _ w1).drew;have k0:w1.drew.drew.cell? ⟨c.pb,0,none⟩=some (RG c.rb):=hP2.cell 0 _ rfl;have k5:w1.drew.drew.cell? ⟨c.pb,5,none⟩=some (.int .i64 (c.depth:Int)):=hP2.cell 5 _ rfl;have k4:w1.drew.drew.cell? ⟨c.pb,4,none⟩=some sv:=hP2.cell 4 _ rfl;obtain⟨sa,sc,hsv⟩:=(Reads.fJ (E:=iA) hP2.mJ).shape;dsimp only at hsv;rw[iI]at hsv;rw[hsv]at k4;obtain⟨SL,aA⟩:=eX (p.st.length);rw[aA]at k4 hdN aB;have ag:=eu hP2;have HT0:=eu ((hT1.trans (TF.below (fu _ w1).drew)).trans (TF.below (fu _ w1.drew).drew));have aC:w.cell? ⟨c.pb,0,none⟩=some (RG c.rb):=h.cell 0 _ rfl;have HW1:=eu hw1;have aa:=eu (λW e' sv' R' next none' (s':Fl.St)(hW:PG w0 W c e' {p with s:=s' } sv' R')(e2:Nat)(o2:Ps.OK c.l B up e2 s')(g1:e2<=next)(g2:next<=c.l.length)(g3:B.1<=next)(g4:none'=true->next<c.l.length)(g5:s'.t.length<=700000000000)(g6:s'.d.length<=700000000000)=>PW w0 W c e' {p with s:=s' } sv' R' up next e2 none' B hW hrs o2 g1 g3 g2 g4 (by omega) g5 g6);have aF:=hlim.1;have hE2:=hlim.2;rcases hva with⟨v1,_⟩|⟨next,s',v1,v2,v3,_,v5,v6,v7⟩
 ·subst v1;dsimp only at ae⊢;rw[eT (by omega),show decide ((-1:Int)<0)=true from rfl,show decide ((0:Int)<=-1)=false from rfl];obtain⟨P2,af⟩:=eX (Ps.rest c.l c.rs {p with s:=p.s} up i true);have HR:=eu (λW e' sv' R' (hW:PG w0 W c e' {p with s:=p.s} sv' R')=>show Calls prog 82 #[RG c.pb,.int .i64 up,.int .i64 i,.bool true] W (nC w0 W c sv' (.tuple #[]) P2)from af▸aa.out W e' sv' R' i true p.s hW e1 hok he (by omega) hB (λ_=>hi) (by omega) (by omega));rw[af];have HQ:=eu (λW (h:∃e R,PG w0 W c e P2 sv R/\TF w W)=>show nC w0 w c sv (.bool false) P2 (.returned (.bool false)) W from⟨rfl,h⟩);obtain⟨Q,hQ⟩:=eX (nC w0 w c sv (.bool false) P2);rw[hQ]at HQ⊢;clear hw1 hP1 ay hT1 hP2 hsv aA hQ af aa hV hE hvl hlm HV hlim hok h az hS1 hF1 hn hd hrs hdd
  go_enter func69,ntmps69
  go_upto_region 1 with fail
  refine mE 9 (by kernel_rfl) (by kernel_rfl) ?_;simp only[vR,vS,Hw,xU]
  repeat (go_big_quiet_step (exact((ax.out _ (fu _ w).drew).mono λ_ _ h=>And.intro h.1 h.2.symm) _))
  refine wpQuiet_nil ?_;go_upto_region 2 with fail
  rw[HW1.out];clear r3 c0 aC hfz ax;refine fB (λwx=>wx.cell? ⟨c.pb,0,none⟩=some (RG c.rb)/\wx.cell? ⟨c.pb,5,none⟩=some (.int .i64 (c.depth:Int))/\wx.cell? ⟨c.pb,4,none⟩=some (.slice sa SL sc)) 16 (by kernel_rfl) ?_;have hH:(λwx:World=>wx.cell? ⟨c.pb,0,none⟩=some (RG c.rb)/\wx.cell? ⟨c.pb,5,none⟩=some (.int .i64 (c.depth:Int))/\wx.cell? ⟨c.pb,4,none⟩=some (.slice sa SL sc)) w1.drew.drew:=⟨k0,k5,k4⟩
  refine fM 0 (RG c.pb) rfl (by kernel_rfl) rfl eY (λW=>by go_simp) (λ_=>hH) ?_;refine fM 1 (.pointer (some ⟨c.pb,0,none⟩)) rfl (by kernel_rfl) rfl eY (λW=>by go_simp) (λ_=>hH) ?_;refine fM 2 (.pointer (some ⟨c.pb,0,none⟩)) rfl (by kernel_rfl) rfl eY (λW=>by go_simp) (λ_=>hH) ?_;refine fw 3 (RG c.rb) rfl (by kernel_rfl) rfl eY (λW hW=>?_) hH ?_
  ·obtain⟨z0,z1,z2⟩:=hW;go_simp
  refine fw 4 (.int .i64 (up:Int)) rfl (by kernel_rfl) rfl eY (λW hW=>by go_simp) hH ?_;refine fw 5 (.int .i64 (i:Int)) rfl (by kernel_rfl) rfl eY (λW hW=>by go_simp) hH ?_;refine fM 6 (RG c.pb) rfl (by kernel_rfl) rfl eY (λW=>by go_simp) (λ_=>hH) ?_;refine fM 7 (.pointer (some ⟨c.pb,0,none⟩)) rfl (by kernel_rfl) rfl eY (λW=>by go_simp) (λ_=>hH) ?_;refine fM 8 (.pointer (some ⟨c.pb,5,none⟩)) rfl (by kernel_rfl) rfl eY (λW=>by go_simp) (λ_=>hH) ?_;refine Qc 15 9 (.int .i64 (c.depth:Int)) rfl (by kernel_rfl) rfl eY (λW hW=>?_) hH ?_
  ·obtain⟨z0,z1,z2⟩:=hW;go_simp
  refine fM 10 (RG c.pb) rfl (by kernel_rfl) rfl eY (λW=>by go_simp) (λ_=>hH) ?_;refine fM 11 (.pointer (some ⟨c.pb,0,none⟩)) rfl (by kernel_rfl) rfl eY (λW=>by go_simp) (λ_=>hH) ?_;refine fM 12 (.pointer (some ⟨c.pb,4,none⟩)) rfl (by kernel_rfl) rfl eY (λW=>by go_simp) (λ_=>hH) ?_;refine Cr 15 14 13 (.slice sa SL sc) rfl (by kernel_rfl) rfl eY (λW hW=>?_) hH ?_
  ·obtain⟨z0,z1,z2⟩:=hW;go_simp
  refine fM 14 (.int .i64 (SL:Int)) rfl (by kernel_rfl) rfl eY (λW=>by go_simp) (λ_=>hH) ?_;refine fw 15 (.int .i64 (d:Int)) rfl (by kernel_rfl) rfl eY (λW hW=>by go_simp) hH ?_;refine iD 16 (by kernel_rfl) rfl λK hK=>?_
  go_simp;refine(ae.out w1.drew.drew _ ag.out.gs).mono ?_;rintro e3 w3 ⟨rfl,R3,ah,ai⟩;obtain⟨hP3,aj⟩:=ag.out.step ah ai;have HR3:=eu (HR.out w3 _ _ _ hP3);have HT3:=eu (HT0.out.trans aj);clear ah ai hP3 aj ae ag HR HT0 HW1 k0 k5 k4;refine hK.out _ _ (jg (by kernel_rfl)) (λ_=>?_);clear hK K;try simp only[Act.put,fF,fH,fG]
  refine fM 17 (.tuple #[.int .i64 (-1:Int),.int .i64 (i:Int)]) rfl (by kernel_rfl) rfl eY (λW=>by go_simp) (jg (by kernel_rfl)) ?_;refine fM 18 (.int .i64 (-1:Int)) rfl (by kernel_rfl) rfl eY (λW=>by go_simp) (jg (by kernel_rfl)) ?_;refine fM 19 (.int .i64 (i:Int)) rfl (by kernel_rfl) rfl eY (λW=>by go_simp) (jg (by kernel_rfl)) ?_;refine fM 20 (.int .i64 (-1:Int)) rfl (by kernel_rfl) rfl eY (λW=>by go_simp) (jg (by kernel_rfl)) ?_;refine fM 21 (.int .i64 (i:Int)) rfl (by kernel_rfl) rfl eY (λW=>by go_simp) (jg (by kernel_rfl)) ?_;refine fA (by kernel_rfl) ?_ _;go_wp2_with fail
  refine HR3.out.mono ?_;rintro e4 w4 ⟨rfl,e5,R5,ak,av⟩;have HD:=eu (HQ.out w4 ⟨e5,R5,ak,HT3.out.trans av⟩);clear ak av HQ HT3 HR3;go_wp2_with fail
  exact HD.out
 obtain⟨n0,n1,n2⟩:=V;injection v1 with u1 u23
 injection u23 with u2 u3
 subst u1 u2 u3;dsimp only at v2 v3 v5 v6 v7 ae⊢;rw[eQ (by omega),show decide (((p.s.t.length:Nat):Int)<0)=false from iF (by omega),show decide ((0:Int)<=((p.s.t.length:Nat):Int))=true from iO (by omega)];have hmx:max n1 i=n1:=by omega
 rw[hmx];have aG:max ((n1:Nat):Int) ((i:Nat):Int)=((n1:Nat):Int):=by omega
 obtain⟨P2,af⟩:=eX (Ps.rest c.l c.rs {p with s:=n2} up n1 false);have HR:=eu (λW e' sv' R' (hW:PG w0 W c e' {p with s:=n2} sv' R')=>show Calls prog 82 #[RG c.pb,.int .i64 up,.int .i64 n1,.bool false] W (nC w0 W c sv' (.tuple #[]) P2)from af▸aa.out W e' sv' R' n1 false n2 hW n1 (hok.trans (v5.low (by omega))) (by omega) (by omega) (by omega) (λh=>by cases h) (by omega) (by omega));rw[af];have HQ:=eu (λW (h:∃e R,PG w0 W c e P2 sv R/\TF w W)=>show nC w0 w c sv (.bool true) P2 (.returned (.bool true)) W from⟨rfl,h⟩);obtain⟨Q,hQ⟩:=eX (nC w0 w c sv (.bool true) P2);rw[hQ]at HQ⊢;have gv:=eu (show¬((p.s.t.length:Nat):Int)<0 by omega);obtain⟨TL,hTL⟩:=eX (p.s.t.length);have htl:TL<=500000000000:=by omega
 rw[hTL]at ae;have aH:n1<=100000:=by omega
 clear hw1 hP1 ay hT1 hP2 hsv aA hQ af aa hV hE hvl hlm HV hok h az hS1 hF1 hn hd hrs hdd v5 v6 v7 hmx gv hTL v2 v3
 go_enter func69,ntmps69
 go_upto_region 1 with fail
 refine mE 9 (by kernel_rfl) (by kernel_rfl) ?_;simp only[vR,vS,Hw,xU]
 repeat (go_big_quiet_step (exact((ax.out _ (fu _ w).drew).mono λ_ _ h=>And.intro h.1 h.2.symm) _))
 refine wpQuiet_nil ?_;go_upto_region 2 with fail
 rw[HW1.out];clear r3 c0 aC hfz ax;refine fB (λwx=>wx.cell? ⟨c.pb,0,none⟩=some (RG c.rb)/\wx.cell? ⟨c.pb,5,none⟩=some (.int .i64 (c.depth:Int))/\wx.cell? ⟨c.pb,4,none⟩=some (.slice sa SL sc)) 16 (by kernel_rfl) ?_;have hH:(λwx:World=>wx.cell? ⟨c.pb,0,none⟩=some (RG c.rb)/\wx.cell? ⟨c.pb,5,none⟩=some (.int .i64 (c.depth:Int))/\wx.cell? ⟨c.pb,4,none⟩=some (.slice sa SL sc)) w1.drew.drew:=⟨k0,k5,k4⟩
 refine fM 0 (RG c.pb) rfl (by kernel_rfl) rfl eY (λW=>by go_simp) (λ_=>hH) ?_;refine fM 1 (.pointer (some ⟨c.pb,0,none⟩)) rfl (by kernel_rfl) rfl eY (λW=>by go_simp) (λ_=>hH) ?_;refine fM 2 (.pointer (some ⟨c.pb,0,none⟩)) rfl (by kernel_rfl) rfl eY (λW=>by go_simp) (λ_=>hH) ?_;refine fw 3 (RG c.rb) rfl (by kernel_rfl) rfl eY (λW hW=>?_) hH ?_
 ·obtain⟨z0,z1,z2⟩:=hW;go_simp
 refine fw 4 (.int .i64 (up:Int)) rfl (by kernel_rfl) rfl eY (λW hW=>by go_simp) hH ?_;refine fw 5 (.int .i64 (i:Int)) rfl (by kernel_rfl) rfl eY (λW hW=>by go_simp) hH ?_;refine fM 6 (RG c.pb) rfl (by kernel_rfl) rfl eY (λW=>by go_simp) (λ_=>hH) ?_;refine fM 7 (.pointer (some ⟨c.pb,0,none⟩)) rfl (by kernel_rfl) rfl eY (λW=>by go_simp) (λ_=>hH) ?_;refine fM 8 (.pointer (some ⟨c.pb,5,none⟩)) rfl (by kernel_rfl) rfl eY (λW=>by go_simp) (λ_=>hH) ?_;refine Qc 15 9 (.int .i64 (c.depth:Int)) rfl (by kernel_rfl) rfl eY (λW hW=>?_) hH ?_
 ·obtain⟨z0,z1,z2⟩:=hW;go_simp
 refine fM 10 (RG c.pb) rfl (by kernel_rfl) rfl eY (λW=>by go_simp) (λ_=>hH) ?_;refine fM 11 (.pointer (some ⟨c.pb,0,none⟩)) rfl (by kernel_rfl) rfl eY (λW=>by go_simp) (λ_=>hH) ?_;refine fM 12 (.pointer (some ⟨c.pb,4,none⟩)) rfl (by kernel_rfl) rfl eY (λW=>by go_simp) (λ_=>hH) ?_;refine Cr 15 14 13 (.slice sa SL sc) rfl (by kernel_rfl) rfl eY (λW hW=>?_) hH ?_
 ·obtain⟨z0,z1,z2⟩:=hW;go_simp
 refine fM 14 (.int .i64 (SL:Int)) rfl (by kernel_rfl) rfl eY (λW=>by go_simp) (λ_=>hH) ?_;refine fw 15 (.int .i64 (d:Int)) rfl (by kernel_rfl) rfl eY (λW hW=>by go_simp) hH ?_;refine iD 16 (by kernel_rfl) rfl λK hK=>?_
 go_simp;refine(ae.out w1.drew.drew _ ag.out.gs).mono ?_;rintro e3 w3 ⟨rfl,R3,ah,ai⟩;obtain⟨hP3,aj⟩:=ag.out.step ah ai;have HR3:=eu (HR.out w3 _ _ _ hP3);have HT3:=eu (HT0.out.trans aj);clear ah ai hP3 aj ae ag HR HT0 HW1 k0 k5 k4;refine hK.out _ _ (jg (by kernel_rfl)) (λ_=>?_);clear hK K;try simp only[Act.put,fF,fH,fG]
 refine fM 17 (.tuple #[.int .i64 (TL:Int),.int .i64 (n1:Int)]) rfl (by kernel_rfl) rfl eY (λW=>by go_simp) (jg (by kernel_rfl)) ?_;refine fM 18 (.int .i64 (TL:Int)) rfl (by kernel_rfl) rfl eY (λW=>by go_simp) (jg (by kernel_rfl)) ?_;refine fM 19 (.int .i64 (n1:Int)) rfl (by kernel_rfl) rfl eY (λW=>by go_simp) (jg (by kernel_rfl)) ?_;refine fM 20 (.int .i64 (TL:Int)) rfl (by kernel_rfl) rfl eY (λW=>by go_simp) (jg (by kernel_rfl)) ?_;refine fM 21 (.int .i64 (n1:Int)) rfl (by kernel_rfl) rfl eY (λW=>by go_simp) (jg (by kernel_rfl)) ?_;refine fA (by kernel_rfl) ?_ _;go_wp2_with fail
 refine HR3.out.mono ?_;rintro e4 w4 ⟨rfl,e5,R5,ak,av⟩;have HD:=eu (HQ.out w4 ⟨e5,R5,ak,HT3.out.trans av⟩);clear ak av HQ HT3 HR3;go_wp2_with fail
 exact HD.out
theorem PX(w0 w:World)(c:Cx)(e:Nat)(p:Ps.PS)(sv:Value)(R:Nat->Prop)(up i e1:Nat)(B:Ps.Bs)(h:PG w0 w c e p sv R)(hrs:c.rs=Rw.fE c.l)(hok:Ps.OK c.l B up e1 p.s)(he:e1<=i)(hB:B.1<=i)(hi:i<c.l.length)(aa:p.st.length<=c.depth)(ae:c.depth<=50)
 (hn:p.s.t.length<=500000000000) (hd:p.s.d.length<=500000000000):
 Calls prog 69 #[RG c.pb,.int .i64 up,.int .i64 i] w (iJ w0 w c (.bool (Ps.value c.l c.rs c.depth p up i).2) (Ps.value c.l c.rs c.depth p up i).1):=
 (vM w0 w c e p sv R up i e1 B h hrs hok he hB hi aa ae hn hd).mono λ_ _ h=>h.goes
end
end Go.Proofs.YtfbiffdmhcjhbaaGreat

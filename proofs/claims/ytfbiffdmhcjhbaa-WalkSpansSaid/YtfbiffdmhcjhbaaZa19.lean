import Derived.Test.YtfbiffdmhcjhbaaZa16
import Derived.Test.YtfbiffdmhcjhbaaZa17
import Derived.BigRegion
set_option linter.all false
set_option maxHeartbeats 16000000
set_option maxRecDepth 100000
namespace Go.Proofs.Ytfbiffdmhcjhbaa
open Go.RowKit Try
namespace Rw
abbrev seen(l:List Tk)(fr j:Nat):List Tk:=(l.drop fr).take j
theorem MM{q:Nat}{l:List Tk}(h:pI q l)(fr j:Nat):∃p,pI p (seen l fr j):=by
 obtain⟨p,hp⟩:=h.drop fr;exact⟨p,Ev j p hp⟩
end Rw
section
open Go.RowKit
open Sg
open Sq
def RB(w:World)(b:Nat)(k f t c:Int):Prop:=w.heap[b]?=some (.cells #[.int .i64 k,.int .i64 f,.int .i64 t,.int .i64 c] 63 (0,0))
section
variable {w w':World}{b:Nat}{k f t c:Int}
theorem RB.cs(h:RB w b k f t c):w.cell? ⟨b,0,none⟩=some (.int .i64 k)/\w.cell? ⟨b,1,none⟩=some (.int .i64 f)/\w.cell? ⟨b,2,none⟩=some (.int .i64 t)/\w.cell? ⟨b,3,none⟩=some (.int .i64 c):=
 ⟨(nz h 0).trans rfl,(nz h 1).trans rfl,(nz h 2).trans rfl,(nz h 3).trans rfl⟩
theorem RB.fz(h:RB w b k f t c)(o:Nat):w.frozen? ⟨b,o,none⟩=false:=oI h o
theorem RB.lt(h:RB w b k f t c):b<w.heap.size:=(Ng.1 h).1
theorem RB.set0(h:RB w b k f t c)(u:Int):RB (w.setCell ⟨b,0,none⟩ (.int .i64 u)) b u f t c:=uq h _
theorem RB.set2(h:RB w b k f t c)(u:Int):RB (w.setCell ⟨b,2,none⟩ (.int .i64 u)) b k f u c:=uq h _
theorem RB.UN(h:RB w b k f t c)(u:Int):RB (w.setCell ⟨b,3,none⟩ (.int .i64 u)) b k f t u:=uq h _
theorem RB.new(w:World)(k f t c:Int):RB (w.alloc (.cells #[.int .i64 k,.int .i64 f,.int .i64 t,.int .i64 c] 63)) w.heap.size k f t c:=rA w _
end
theorem uw{B b:Nat}{a w:World}(h:Below B a w)(hB:B<=b)(o:Nat)(u:Value):Below B a (w.setCell ⟨b,o,none⟩ u):=h.setCell (p:=⟨b,o,none⟩) hB u
theorem WO(v:Value)(l:List Tk)(q:Nat)(w:World)(h:Reads qB w v l)(hs:l.length<=100000)(hf:∀x∈l,x.2.1<=1000000)(ht:Rw.pI q l):
 Calls prog 20 #[v] w (Cg (Rw.mQ l) w):=by
 obtain⟨a,cap,rfl⟩:=h.shape;have H:=eu (λW (hb:Below w.heap.size w W) j x (hj:l[j]?=some x)=>o8 (h.below hb) j x hj);obtain⟨HF,HT,aJ,aK,ai⟩:=BN hf ht (Rw.Md l) (Rw.Me l) (Rw.Pp l);have hat:Rw.vz 0 0 l=Rw.mQ l:=rfl;obtain⟨Rs,hRs⟩:=my (Rw.mQ l);rw[hRs]at hat⊢;have HG:=eu (λe w'=>show(∃u,e=.returned u/\w'.ownsRow w.heap.size 63 4 u Rs.length (encR.all Rs)/\Below w.heap.size w w')->Cg Rs w e w' from λh=>h);obtain⟨Q,hQ⟩:=my (Cg Rs w);rw[hQ]at HG⊢;obtain⟨N,hN⟩:=my (l.length);have HN:=eu hN;have hcp:=h.B6;rw[hN]at hcp hs;unfold maxLen at hcp;rw[hN];have aL:=eu hat;clear h hf hRs hN hQ hat ht
 go_enter func20,ntmps20
 go_wp2_with fail
 go_loopw [3,4,5] (λlv ov fv wr=>∃(fr op:Nat)(done:List Rw.R),fv=.int .i64 fr/\ov=.int .i64 op/\fr<=N/\op<=fr/\done.length<=fr/\Hid (done++Rw.vz op fr (l.drop fr)=Rs)/\wr.ownsRow w.heap.size 63 4 lv done.length (encR.all done)/\Below w.heap.size w wr) (λ_ _ fv _=>N-(intOf fv).toNat)
 case atStart=>
  exact⟨0,0,[],rfl,rfl,nO _,mJ _,mJ _,eu (by rw[zU,Dz];exact aL.out),qG encR _ _,mF _ w⟩
 case round=>
  rename World=>w0
  obtain⟨fr,op,done,rfl,rfl,hfr,hop,hdl,HE,hown,hb⟩:=hrel;by_cases hlt:fr<N
  ·have hi:(fr:Int)<(N:Int):=by omega
   obtain⟨HO,HB⟩:=mR hown hb;obtain⟨y,hy⟩:=pG l fr (by rw[HN.out];exact hlt);have HY:=eu hy;have hne:l.drop fr≠[]:=λe=>by have:=congrArg List.length e;rw[oz,HN.out]at this;simp at this;omega
   have bf:=Rw.xI _ hne;have hrl:=Rw.FF (l.drop fr);rw[oz,HN.out]at hrl;have hst:=aJ.out op fr (by rw[HN.out];exact hlt);obtain⟨R,hR⟩:=my (Rw.rC (l.drop fr));rw[hR]at hst bf hrl;obtain⟨HR,aj⟩:=mR hR hst;obtain⟨row,hrow⟩:=my (Rw.seen l fr R);have af:=eu hrow;have bg:fr+R<=N:=by omega
   obtain⟨rb,hrb⟩:=my (w0.heap.size);have ak:=eu hrb;have hnew:=RB.new w0 1 fr 0 (-1);rw[hrb]at hnew;obtain⟨wa,aM⟩:=my (w0.alloc (.cells #[.int .i64 1,.int .i64 fr,.int .i64 0,.int .i64 (-1)] 63));have aN:=mr w0 (.cells #[.int .i64 1,.int .i64 fr,.int .i64 0,.int .i64 (-1)] 63);rw[aM]at hnew aN;obtain⟨ax,aO,aP⟩:=nY hnew aN aM;clear hne hst hR hrow hrb hnew aM aN hy hown hb aK aJ HG
   go_upto_block 2 with fail
   rw[aP.out,ak.out]
   go_cut [4,5] (λov av wx=>ov=.int .i64 (Rw.wV op row:Nat)/\av=.int .i64 (fr+R:Nat)/\RB wx rb (Rw.qI row:Nat) fr 0 (Rw.uC row)/\Below w0.heap.size w0 wx)
   case first=>
    go_wp2_with fail
    go_loopw [4,5] (λov av wx=>∃j:Nat,av=.int .i64 (fr+j:Nat)/\ov=.int .i64 (Rw.wV op (Rw.seen l fr j):Nat)/\fr+j<=N/\Hid (∀i x,i<j->l[fr+i]?=some x->Rw.ends x=false)/\RB wx rb (Rw.qI (Rw.seen l fr j):Nat) fr 0 (Rw.uC (Rw.seen l fr j))/\Below w0.heap.size w0 wx) (λ_ av _=>N-(intOf av).toNat)
    case atStart=>exact⟨0,rfl,rfl,by omega,eu (λi x h=>absurd h (BM i)),ax.out,aO.out⟩
    case round=>
     obtain⟨j,rfl,rfl,hj,HA,hrb,hbx⟩:=hrel;by_cases hjl:fr+j<N
     ·obtain⟨x,hx⟩:=pG l (fr+j) (by rw[HN.out];exact hjl);have ay:=Rw.Mb l fr j x hx;obtain⟨p,hp⟩:=Rw.MM HT.out fr j;have hneg:=Rw.SF hp;have hks:=Rw.Mc (Rw.seen l fr j) x;have hcs:=Rw.rH (Rw.seen l fr j) x;have hos:=Rw.LZ op (Rw.seen l fr j) x;rw[<-ay]at hks hcs hos;rw[Rw.Jg l fr (j+1) y HY.out (by omega)]at hcs;have hole:Rw.wV op (Rw.seen l fr j)<=op+j:=by
       have:=Rw.Ku (Rw.seen l fr j) op;have:(Rw.seen l fr j).length<=j:=Wh j (l.drop fr);omega
      have hx1:=HF.out x (sI hx);have hy1:=HF.out y (sI HY.out);obtain⟨K0,bn⟩:=my (Rw.qI (Rw.seen l fr j));obtain⟨C0,hC0⟩:=my (Rw.uC (Rw.seen l fr j));obtain⟨O0,bq⟩:=my (Rw.wV op (Rw.seen l fr j));obtain⟨K1,hK1⟩:=my (Rw.qI (Rw.seen l fr (j+1)));obtain⟨C1,aQ⟩:=my (Rw.uC (Rw.seen l fr (j+1)));obtain⟨O1,aR⟩:=my (Rw.wV op (Rw.seen l fr (j+1)));obtain⟨F0,bz⟩:=my ((Rw.pX (Rw.seen l fr j)).isNone);have hex:∀(e:Rw.ends x=true),R=j+1:=λe=>by
       rw[<-HR.out];refine ai.out fr (j+1) (by omega) (λi z hi hz=>HA.out i z (by omega) hz) (.inr ⟨x,?_,e⟩);rw[show fr+(j+1)-1=fr+j from by omega];exact hx
      rw[bn]at hks hrb;rw[hC0]at hcs hrb hneg;rw[bq]at hos hole;rw[hK1]at hks;rw[aQ]at hcs;rw[aR]at hos;rw[bz]at hks hcs hneg;obtain⟨b,off,rfl,c0,c1,c2⟩:=H.out wr (HB.out.trans (hbx.mono HB.out.size)) (fr+j) x hx;obtain⟨b',off',he,d0,d1,d2⟩:=H.out wr (HB.out.trans (hbx.mono HB.out.size)) fr y HY.out;injection he with he
      injection he with e1 e2
      subst e1 e2;obtain⟨ae,ah⟩:=mR hrb hbx;obtain⟨k0,k1,k2,k3⟩:=hrb.cs;have z0:=hrb.fz 0;have z3:=hrb.fz 3;have hj1:((fr+j:Nat):Int)<(N:Int):=by omega
      have az:=eu (λW=>yj x.1 W);have bA:=eu hex
      have HA1:=eu (show Rw.ends x=false->∀i z,i<j+1->l[fr+i]?=some z->Rw.ends z=false from λe i z hi hz=>by
       rcases Wn.1 hi with h|h
       ·exact HA.out i z h hz
       subst h;rw[hx]at hz;injection hz with hz;subst hz;exact e)
      have bP:=eu bg;obtain⟨CN,bB⟩:=my (Sc.counts x.1);obtain⟨MK,aS⟩:=my (Rw.yP x.1);obtain⟨K,hK⟩:=my (x.1);obtain⟨EN,aT⟩:=my (Rw.ends x);rw[bB]at az hks hcs;rw[aS]at hks;rw[aT]at bA HA1;have hen:EN=(K==1||K==19):=by rw[<-aT,<-hK];rfl
      have hmk:MK=(K==20||K==21):=by rw[<-aS,<-hK];rfl
      rw[hK]at c0 hos az;obtain⟨aU,aV,bJ,bC,bD,aD⟩:=qW hks hcs hos hen hmk hK1;obtain⟨aF,aG,aa⟩:=nY aQ aR ak.out;clear hks hcs hos hen hmk hex aT aS bB hK bn hC0 bz ay hp hrb hbx hx HA hK1 aQ aR H HF HT ai aj ax aO aP ak HE;obtain⟨D,hD⟩:=my ((F0&&CN));have HD:=eu hD;clear hD;rw[bq];go_upto_region 9 with fail
      go_cut [32] (λq wy=>q=.bool D/\wr=wy)
      case first=>
       cases F0 with
       |true=>
        have hn:C0<0:=hneg.2 rfl
        clear hneg;go_wp2_with fail
        refine(az.out _).mono ?_;rintro e w2 ⟨rfl,rfl⟩;go_wp2_with fail
        go_meet
        exact⟨by rw[<-HD.out];simp,rfl⟩
       |false=>
        have hn:¬C0<0:=λh=>by have:=hneg.1 h;cases this
        clear hneg;go_wp2_with fail
        go_meet
        exact⟨by rw[<-HD.out];simp,rfl⟩
      case rest=>
      obtain⟨rfl,rfl⟩:=hcut
      go_upto_if 32 with fail
      go_cut [6] (λq wy=>q=.pointer (some ⟨rb,0,none⟩)/\RB wy rb K1 fr 0 C1/\Below w0.heap.size w0 wy)
      case first=>
       cases D with
       |false=>
        have hnd:¬(F0=true/\CN=true):=λh=>by have:=HD.out;rw[h.1,h.2]at this;cases this
        have hk2:=aU.out;have hc2:=aV.out;rw[fu hnd]at hk2 hc2;subst hk2 hc2;clear hneg hnd;go_wp2_with fail
        go_meet
        exact⟨rfl,ae.out,ah.out⟩
       |true=>
        obtain⟨hf1,hc1⟩:F0=true/\CN=true:=by have:=HD.out;simpa using this
        subst hf1 hc1;have hc2:=aV.out;rw[gu ⟨rfl,rfl⟩]at hc2;have hk2:=aU.out;rw[gu ⟨rfl,rfl⟩]at hk2;have hw:=qA ((x.2.1:Int)-(y.2.1:Int)) (by omega);have bE:=eu (((ae.out).UN ((x.2.1:Int)-(y.2.1:Int))).set0 5);have bF:=eu (uw (uw ah.out (rR aa.out) 3 (.int .i64 ((x.2.1:Int)-(y.2.1:Int)))) (rR aa.out) 0 (.int .i64 5));clear hneg;go_wp2_with fail
        go_region
        cases MK with
        |false=>
         have hnk:¬K=20/\¬K=21:=by have:=bD.out;simpa using this.symm
         have g20:((K:Int)==20)=false:=by simp;omega
         have g21:((K:Int)==21)=false:=by simp;omega
         obtain rfl:K1=5:=hk2;subst hc2;clear hnk;go_wp2_with fail
         go_meet
         exact⟨rfl,bE.out,bF.out.drew⟩
        |true=>
         have hnk:K=20\/K=21:=by have:=bD.out;simpa using this.symm
         obtain rfl:K1=4:=hk2;subst hc2;have HR4:=eu (bE.out.set0 4);have bG:=eu (uw bF.out (rR aa.out) 0 (.int .i64 4));rcases hnk with q|q
         ·have g20:((K:Int)==20)=true:=by simp;omega
          clear q;go_wp2_with fail
          go_meet
          exact⟨rfl,HR4.out,bG.out.drew⟩
         have g20:((K:Int)==20)=false:=by simp;omega
         have g21:((K:Int)==21)=true:=by simp;omega
         clear q;go_wp2_with fail
         go_meet
         exact⟨rfl,HR4.out,bG.out.drew⟩
      case rest=>
      obtain⟨rfl,aH,aI⟩:=hcut;obtain⟨HR2,HB2⟩:=mR aH aI;clear aH aI hneg k0 k1 k2 k3 z0 z3 c0 c1 c2 d0 d1 d2 ae ah az HD aU aV
      go_upto_block 4 with fail
      go_cut [4] (λq wy=>q=.int .i64 (O1:Nat)/\wc=wy)
      case first=>
       have hmx:max ((O0:Int)-1) 0=((O0-1:Nat):Int):=by omega
       have hos:=bJ.out;unfold Sc.opens at hos;by_cases q1:K=8
       ·rw[gu (.inl q1)]at hos;subst q1;have HX:=eu hos;clear hos;go_wp2_with fail
        go_meet
        exact⟨by rw[HX.out];go_num,rfl⟩
       have g8:((K:Int)==8)=false:=by simp;omega
       by_cases q2:K=9
       ·rw[gu (.inr q2)]at hos;subst q2;have HX:=eu hos;clear hos q1 g8;go_wp2_with fail
        go_meet
        exact⟨by rw[HX.out];go_num,rfl⟩
       have g9:((K:Int)==9)=false:=by simp;omega
       rw[fu (by omega)]at hos;by_cases q3:K=10
       ·rw[gu (.inl q3)]at hos;subst q3;have HX:=eu hos;clear hos q1 q2 g8 g9;go_wp2_with fail
        go_meet
        exact⟨by rw[HX.out],rfl⟩
       have g10:((K:Int)==10)=false:=by simp;omega
       by_cases q4:K=11
       ·rw[gu (.inr q4)]at hos;subst q4;have HX:=eu hos;clear hos q1 q2 q3 g8 g9 g10;go_wp2_with fail
        go_meet
        exact⟨by rw[HX.out],rfl⟩
       have g11:((K:Int)==11)=false:=by simp;omega
       rw[fu (by omega)]at hos;clear hmx;by_cases q5:K=20
       ·rw[gu (.inl q5)]at hos;subst q5;have HX:=eu hos;clear hos q1 q2 q3 q4 g8 g9 g10 g11;go_wp2_with fail
        go_meet
        exact⟨by rw[HX.out];rfl,rfl⟩
       have g20:((K:Int)==20)=false:=by simp;omega
       by_cases q6:K=21
       ·rw[gu (.inr q6)]at hos;subst q6;have HX:=eu hos;clear hos q1 q2 q3 q4 q5 g8 g9 g10 g11 g20;go_wp2_with fail
        go_meet
        exact⟨by rw[HX.out];rfl,rfl⟩
       have g21:((K:Int)==21)=false:=by simp;omega
       rw[fu (by omega)]at hos;have HX:=eu hos;clear hos q1 q2 q3 q4 q5 q6;go_wp2_with fail
       go_meet
       exact⟨by rw[HX.out],rfl⟩
      case rest=>
      obtain⟨rfl,rfl⟩:=hcut;have hen:=bC.out;cases EN with
      |true=>
       have hRj:=bA.out rfl;have hk:K=1\/K=19:=by simpa using hen.symm
       have HM:=eu (show(O1=Rw.wV op row/\K1=Rw.qI row/\C1=Rw.uC row)by
        rw[<-af.out,hRj];exact⟨aG.out.symm,aD.out.symm,aF.out.symm⟩)
       have aA:=eu hRj;clear hRj hen;rcases hk with q|q
       ·have g1:((K:Int)==1)=true:=by simp;omega
        clear q;go_wp2_with fail
        go_meet
        exact⟨by rw[HM.out.1],by rw[aA.out];go_num,by rw[<-HM.out.2.1,<-HM.out.2.2];exact HR2.out,HB2.out⟩
       have g1:((K:Int)==1)=false:=by simp;omega
       have g19:((K:Int)==19)=true:=by simp;omega
       clear q;go_wp2_with fail
       go_meet
       exact⟨by rw[HM.out.1],by rw[aA.out];go_num,by rw[<-HM.out.2.1,<-HM.out.2.2];exact HR2.out,HB2.out⟩
      |false=>
       have hk:¬K=1/\¬K=19:=by simpa using hen.symm
       have g1:((K:Int)==1)=false:=by simp;omega
       have g19:((K:Int)==19)=false:=by simp;omega
       have bK:=eu (HA1.out rfl);clear hen hk;go_wp2_with fail
       go_roundw
       case rel=>exact⟨j+1,by go_num,by rw[aG.out],by omega,bK,by rw[aD.out,aF.out];exact HR2.out,HB2.out⟩
       case measure=>simp[intOf];omega
     have hj0:0<j:=by omega
     have hRj:R=j:=by
      rw[<-HR.out];exact ai.out fr j hj0 (λi z hi hz=>HA.out i z (by omega) hz) (.inl (by rw[HN.out];omega))
     have HM:=eu (show Rw.seen l fr j=row by rw[<-af.out,hRj]);obtain⟨HR2,HB2,aA⟩:=nY hrb hbx hRj;have bQ:¬(((fr+j:Nat):Int)<(N:Int)):=by omega
     clear hRj hrb hbx HA;go_wp2_with fail
     go_meet
     exact⟨by rw[HM.out],by rw[aA.out];go_num,by rw[<-HM.out];exact HR2.out,HB2.out⟩
   case rest=>
    obtain⟨rfl,rfl,hrb,hbx⟩:=hcut;have hhk:=Rw.Jh l fr R y HY.out bf;have hrw:(l.drop fr).take R=row:=af.out;rw[hrw]at hhk;have hko:=Rw.Po (decide (0<op)) row;rw[hhk]at hko;have hst:=aj.out;rw[hrw]at hst;have hole:Rw.wV op row<=op+R:=by
     have:=Rw.Ku row op;have:row.length<=R:=by rw[<-af.out];exact Wh R (l.drop fr)
     omega
    obtain⟨KO,aW⟩:=my (Rw.kindOf (decide (0<op)) row);obtain⟨KP,aX⟩:=my (Rw.qI row);obtain⟨CO,aY⟩:=my (Rw.uC row);obtain⟨OP,aB⟩:=my (Rw.wV op row);rw[aW,aY,aB]at hst;rw[aW,aX]at hko;rw[aX,aY]at hrb;rw[aB]at hole;rw[aB];obtain⟨aC,bH⟩:=mR hko hst;obtain⟨b,off,rfl,c0,c1,c2⟩:=H.out wc (HB.out.trans (hbx.mono HB.out.size)) fr y HY.out;obtain⟨ae,ah⟩:=mR hrb hbx;obtain⟨k0,k1,k2,k3⟩:=hrb.cs;have z0:=hrb.fz 0;have z2:=hrb.fz 2;have z3:=hrb.fz 3;obtain⟨bR,aa⟩:=mR hrb.lt (rR ak.out);have hbb:rb≠b:=by
     intro e;obtain⟨b2,bO,he,e0,-,-⟩:=H.out w (mF _ _) fr y HY.out;injection he with he
     injection he with e1 e2
     have h5:b2<w.heap.size:=JZ e0
     have:=HB.out.size;have:=ak.out;omega
    have hr0:=ae.out.set2 ((fr:Int)+(R:Int));have hb0:=uw ah.out aa.out 2 (.int .i64 ((fr:Int)+(R:Int)));have d0:=UZ (o:=2) (v:=.int .i64 ((fr:Int)+(R:Int))) hbb c0;obtain⟨W2,hW2⟩:=my (wc.setCell ⟨rb,2,none⟩ (.int .i64 ((fr:Int)+(R:Int))));rw[hW2]at hr0 hb0 d0;obtain⟨HW2,ag,HB0⟩:=nY hW2 hr0 hb0;clear hrw hst hko aW aX aY aB hhk hrb hbx H HF HT ai ax aO aP HR aj af aL HN c0 c1 c2 hr0 hb0 hW2 hbb;obtain⟨BG,hBG⟩:=my (decide (0<op));rw[hBG]at aC⊢;obtain⟨T,hT⟩:=my (y.1);rw[hT]at d0 aC;clear hBG hT;go_upto_region 26 with fail
    rw[HW2.out];clear k0 k1 k2 k3 z0 z2 z3;obtain⟨k0,k1,k2,k3⟩:=ag.out.cs;have z0:=ag.out.fz 0
    go_upto_if 85 with fail
    go_cut [6] (λq wy=>q=.pointer (some ⟨rb,0,none⟩)/\RB wy rb KO fr ((fr:Int)+(R:Int)) CO/\Below w0.heap.size w0 wy)
    case first=>
     have hko:=aC.out;by_cases q1:T=19
     ·rw[gu q1]at hko;subst q1;subst hko;have HR1:=eu (ag.out.set0 2);have HB1:=eu (uw HB0.out aa.out 0 (.int .i64 2));go_wp2_with fail
      go_meet
      exact⟨rfl,HR1.out,HB1.out⟩
     rw[fu q1]at hko;have g19:((T:Int)==19)=false:=by simp;omega
     clear q1;cases BG with
     |false=>
      rw[fu (λh=>by cases h.1)]at hko;subst hko;go_wp2_with fail
      go_meet
      exact⟨rfl,ag.out,HB0.out⟩
     |true=>
      by_cases q2:KP=4
      ·rw[fu (λh=>h.2 q2)]at hko;subst q2;subst hko;go_wp2_with fail
       go_meet
       exact⟨rfl,ag.out,HB0.out⟩
      rw[gu ⟨rfl,q2⟩]at hko;subst hko;have g4:((KP:Int)==4)=false:=by simp;omega
      have HR1:=eu (ag.out.set0 3);have HB1:=eu (uw HB0.out aa.out 0 (.int .i64 3));clear q2;go_wp2_with fail
      go_meet
      exact⟨rfl,HR1.out,HB1.out⟩
    case rest=>
    obtain⟨rfl,hrb,hbx⟩:=hcut
    rename World=>w2
    obtain⟨k0,k1,k2,k3⟩:=hrb.cs;have bI:=eu (mU HO.out hbx);have HB2:=eu (HB.out.trans (hbx.mono HB.out.size));have HS2:=eu HB2.out.size;have bL:=eu (show encR.cells ⟨KO,fr,fr+R,CO⟩=[.int .i64 KO,.int .i64 fr,.int .i64 ((fr:Int)+(R:Int)),.int .i64 CO]by simp[encR,Oz]);clear hrb hbx ae ah ag HB0 d0 aC z0;go_wp2_with (at_builtin;go_must (refine qm XN rfl (.tmp 94) (.tmp 96) rfl w.heap.size _ done ⟨KO,fr,fr+R,CO⟩ _ bL.out rfl bI.out rfl (by simp only[maxLen];omega) (by omega) HS2.out ?_;intro v7 w7 aZ bM))
    have bN:(done++[(⟨KO,fr,fr+R,CO⟩:Rw.R)]).length=done.length+1:=by simp
    go_roundw
    case rel=>
     refine⟨fr+R,OP,done++[(⟨KO,fr,fr+R,CO⟩:Rw.R)],by go_num,rfl,bg,by omega,by omega,eu ?_,aZ,?_⟩
     ·rw[sF,<-HE.out,bH.out];rfl
     refine(HB2.out.alloc HS2.out _).grown bM (by have:=HS2.out;simp;omega) (λk hk=>?_);exact(bI.out.lt k hk).1
    case measure=>simp[intOf];omega
  obtain rfl:fr=N:=by omega
  have hne:¬((fr:Int)<(fr:Int)):=by omega
  have hE:=HE.out;rw[aK.out op fr (by rw[HN.out];exact mJ _),rD]at hE;subst hE;have HD:=eu (HG.out _ w0 ⟨_,rfl,hown,hb⟩);clear HE hown hb hlt H HF aJ aK HG HN aL hdl HT ai;go_wp2_with fail
  exact HD.out
end
section
open Go.RowKit
open Sg
open Sq
theorem Tj(k:Nat)(w:World):
 Calls prog 83 #[.int .i64 k] w λe w'=>e=.returned (.bool (Rw.nL k))/\w=w':=by
 go_enter func83,ntmps83
 go_wp2;all_goals
  go_ret;refine⟨?_,rfl⟩;refine congrArg (λb=>Ending.returned (.bool b)) ?_;rw[zS];simp[Rw.nL]at*;try omega
theorem Kz(l:List Tk)(F M p:Nat)(x:Tk)(h:((l.drop F).take M)[p]?=some x):l[F+p]?=some x:=by
 have hp:p<M:=by
  have:=(nC.1 h).1;rw[qx]at this;omega
 rw[Nn,gu hp,xP]at h;exact h
theorem WQ(v:Value)(l:List Tk)(F M p:Nat)(w:World)(h:Reads qB w v l)(hs:l.length<=1000000)(hM:F+M<=l.length)(hp:p<=M):
 Calls prog 82 #[v,.int .i64 (F+p:Nat),.int .i64 (F+M:Nat),.int .i64 3] w λe w'=>e=.returned (.int .i64 (F+(p+Rw.blanks (((l.drop F).take M).drop p)):Nat))/\w=w':=by
 obtain⟨a,cap,rfl⟩:=h.shape;have hlen:((l.drop F).take M).length=M:=by rw[qx,oz];omega
 have hg:=Kz l F M;obtain⟨ts,hts⟩:=my ((l.drop F).take M);rw[hts]at hlen hg⊢;have H:=eu (λj x (hj:ts[j]?=some x)=>o8 h (F+j) x (hg j x hj));obtain⟨aa,ae⟩:=mR (Rw.MH ts) (Rw.Jp ts);obtain⟨T,hT⟩:=my (p+Rw.blanks (ts.drop p));rw[hT];have HT:=eu hT;obtain⟨N,hN⟩:=my (l.length);have HN:=eu hlen;rw[hN]at hs hM;rw[hN];clear h hN hT hg hts hlen
 go_enter func82,ntmps82
 go_wp2_with fail
 go_loopw [1] (λiv wr=>∃k:Nat,iv=.int .i64 (F+k:Nat)/\k<=M/\Hid (k+Rw.blanks (ts.drop k)=T)/\w=wr) (λiv _=>F+M-(intOf iv).toNat)
 case atStart=>exact⟨p,rfl,hp,HT,rfl⟩
 case round=>
  obtain⟨k,rfl,hk,HK,rfl⟩:=hrel;by_cases hlt:k<M
  ·obtain⟨x,hx⟩:=pG ts k (by rw[HN.out];exact hlt);obtain⟨b,off,rfl,c0,c1,c2⟩:=H.out k x hx;have hi:((F+k:Nat):Int)<((F+M:Nat):Int):=by omega
   have hi2:((F+k:Nat):Int)<(N:Int):=by omega
   have hb:=aa.out k x hx;obtain⟨K,hK⟩:=my (x.1);rw[hK]at c0 hb;by_cases q:K=3
   ·rw[gu q]at hb;have af:=eu (show k+1+Rw.blanks (ts.drop (k+1))=T by have:=HK.out;rw[hb]at this;omega);have g:((K:Int)==3)=true:=by simp;omega
    clear hb hx hK H aa ae HK HT HN q;go_wp2_with fail
    go_roundw
    case rel=>exact⟨k+1,by go_num,by omega,af,trivial⟩
    case measure=>simp[intOf];omega
   rw[fu q]at hb;obtain rfl:T=k:=by have:=HK.out;rw[hb]at this;omega
   have g:((K:Int)==3)=false:=by simp;omega
   clear hb hx hK H aa ae HK HT HN q;go_wp2_with fail
   go_ret;exact⟨by go_num,rfl⟩
  obtain rfl:k=M:=by omega
  have hne:¬(((F+k:Nat):Int)<((F+k:Nat):Int)):=by omega
  obtain rfl:T=k:=by have:=HK.out;rw[ae.out k (by rw[HN.out];exact mJ _)]at this;omega
  clear aa ae HK HT HN H hlt;go_wp2_with fail
  go_ret;exact⟨by go_num,rfl⟩
end
section
open Go.RowKit
open Sg
open Sq
theorem XH:Ty prog vE 104 110 32:=Ty.of (z:=.agg #[.bool false,.int .i64 0,.int .i64 0,.int .i64 0]) underlying104 (by kernel_rfl) (by kernel_rfl) rfl (λw=>by kernel_rfl)
theorem FY(v:Value)(x:Rw.R)(w:World)(hk:x.kind≠5):
 Calls prog 68 #[v,Wy x] w (yR 110 [] x.from' w):=by
 obtain⟨k,f,t,c⟩:=x;dsimp only at hk⊢;have g:((k:Int) !=5)=true:=by simp;omega
 clear hk
 go_enter func68,ntmps68
 go_wp2_with fail
 go_quiet (fail)
 go_wp2_with fail
 go_ret2;exact⟨_,rfl,qG vE _ _,nG (mr w _) nq⟩
theorem FZ(v:Value)(l:List Tk)(F M T:Nat)(c:Int)(w:World)(h:Reads qB w v l)(hs:l.length<=100000)(hf:∀x∈l,x.2.1<=1000000)(h1:0<M)(hT:F+M=T)(h3:T<=l.length):
 Calls prog 68 #[v,.agg #[.int .i64 5,.int .i64 F,.int .i64 T,.int .i64 c]] w (yR 110 (Rw.rT F ((l.drop F).take M)) (Rw.vH F ((l.drop F).take M)) w):=by
 have h2:F+M<=l.length:=by omega
 have ah:=eu (λW (hb:Below w.heap.size w W) p (hp:p<=M)=>WQ v l F M p W (h.below hb) (by omega) h2 hp);obtain⟨a,cap,rfl⟩:=h.shape;have hlen:((l.drop F).take M).length=M:=by rw[qx,oz];omega
 have hg:=Kz l F M;obtain⟨ts,hts⟩:=my ((l.drop F).take M);rw[hts]at hlen hg ah⊢;rw[hT]at ah;have HT:=eu hT;have h4:F<=T/\M<=T:=by omega
 have ai:=eu (λW (hb:Below w.heap.size w W) j x (hj:ts[j]?=some x)=>o8 (h.below hb) (F+j) x (hg j x hj));have aC:=eu (λj x (hj:ts[j]?=some x)=>hf x (sI (hg j x hj)));obtain⟨HLen,HL⟩:=mR hlen (Rw.SG ts);have hld:=Rw.Kk ts;rw[hlen]at hld;obtain⟨A,hA⟩:=my (Rw.ou ts);obtain⟨DS,aL⟩:=my (Rw.uh F ts A);obtain⟨KQ,aM⟩:=my (Rw.ui ts A);have az:=Rw.P9 F ts;have hra:=Rw.Qa F ts;rw[hA]at az hra HL hld;rw[aM,aL]at az;obtain⟨EB,aN⟩:=my (Rw.rT F ts);obtain⟨aj,aO⟩:∃aj,Rw.vH F ts=aj:=⟨_,rfl⟩
 rw[aN]at az hra;rw[aO]at hra;rw[aN,aO];have HG:=eu (λe w'=>show(∃u,e=.returned (.tuple #[u,.int .i64 aj])/\w'.ownsRow w.heap.size 110 4 u EB.length (vE.all EB)/\Below w.heap.size w w')->yR 110 EB aj w e w' from λh=>h);obtain⟨Q,hQ⟩:=my (yR 110 EB aj w);rw[hQ]at HG⊢;obtain⟨aP,aX,aY,aZ⟩:=qg az hra aL aM;obtain⟨y,hy⟩:=pG ts 0 (by omega);have bf:=Rw.MF ts y hy;have hy1:=aC.out 0 y hy;obtain⟨HY,bF⟩:=mR hy bf;obtain⟨N,hN⟩:=my (l.length);rw[hN]at hs h3 ah⊢;obtain⟨w1,hw1⟩:=my (w.alloc (.cells #[.int .i64 5,.int .i64 F,.int .i64 T,.int .i64 c] 63));obtain⟨Br,hBr⟩:=my (w.heap.size);have hb1:=mr w (.cells #[.int .i64 5,.int .i64 F,.int .i64 T,.int .i64 c] 63);have c1:w1.cell? ⟨Br,1,none⟩=some (.int .i64 F):=by rw[<-hw1,<-hBr];exact at_new rfl
 have c2:w1.cell? ⟨Br,2,none⟩=some (.int .i64 T):=by rw[<-hw1,<-hBr];exact at_new rfl
 rw[hw1]at hb1;obtain⟨HB1,HW1,bg⟩:=nY hb1 hw1 hBr;have bn:=eu (λW (hb:Below w1.heap.size w1 W)=>ku hb c1);have aA:=eu (λW (hb:Below w1.heap.size w1 W)=>ku hb c2);clear hT h2 h hf hts hlen hg hA aL aM az hra aN aO hQ hy bf hN hw1 hBr hb1 c1 c2
 go_enter func68,ntmps68
 go_upto_region 3 with fail
 rw[HW1.out,bg.out];clear HW1 bg;have c1:=bn.out w1 (mF _ _);have c2:=aA.out w1 (mF _ _)
 go_upto_block 0 with fail
 go_cut [6] (λq wx=>q=.int .i64 (F+A:Nat)/\w1=wx)
 case first=>
  go_wp2_with fail
  go_loopw [6] (λiv wr=>∃p:Nat,iv=.int .i64 (F+p:Nat)/\p<=M/\Hid (∀j x,j<p->ts[j]?=some x->Sc.counts x.1=false)/\w1=wr) (λiv _=>T-(intOf iv).toNat)
  case atStart=>exact⟨0,by go_num,nO _,eu (λj x h=>absurd h (BM j)),rfl⟩
  case round=>
   obtain⟨p,rfl,hp,HA,rfl⟩:=hrel;by_cases hlt:p<M
   ·obtain⟨x,hx⟩:=pG ts p (by rw[HLen.out];exact hlt);obtain⟨b,off,rfl,d0,-,-⟩:=ai.out w1 HB1.out p x hx;have hpt:F+p<T:=by have:=HT.out;omega
    have hi:((F+p:Nat):Int)<(T:Int):=by omega
    have hi2:((F+p:Nat):Int)<(N:Int):=by omega
    have hc:=λW=>yj x.1 W
    cases hq:Sc.counts x.1 with
    |true=>
     rw[hq]at hc;have hres:=HL.out p HA.out (.inr ⟨x,hx,hq⟩);obtain⟨HC,aQ⟩:=mR hc hres;clear hc hq HA hx hres HL;go_wp2_with fail
     refine(HC.out _).mono ?_;rintro e w2 ⟨rfl,rfl⟩;go_wp2_with fail
     go_meet
     exact⟨by rw[aQ.out];go_num,rfl⟩
    |false=>
     rw[hq]at hc
     have HA2:=eu (λj y (hj:j<p+1)(hy:ts[j]?=some y)=>show Sc.counts y.1=false by
      rcases Wn.1 hj with h|h
      ·exact HA.out j y h hy
      subst h;rw[hx]at hy;injection hy with hy;subst hy;exact hq)
     have HC:=eu hc;clear hc hq HA hx HL;go_wp2_with fail
     refine(HC.out _).mono ?_;rintro e w2 ⟨rfl,rfl⟩;go_wp2_with fail
     go_roundw
     case rel=>exact⟨p+1,by go_num,by omega,HA2,trivial⟩
     case measure=>simp[intOf];omega
   obtain rfl:p=M:=by omega
   have hne:¬(((F+p:Nat):Int)<(T:Int)):=by have:=HT.out;omega
   have hres:=HL.out p HA.out (.inl HLen.out.symm);have aQ:=eu hres;clear HA HL hlt hres;go_wp2_with fail
   go_meet
   exact⟨by rw[aQ.out];go_num,rfl⟩
 case rest=>
 obtain⟨rfl,rfl⟩:=hcut;obtain⟨b,off,rfl,-,y1,-⟩:=ai.out w1 HB1.out 0 y HY.out;simp only[xh]at y1;have bL:(F:Int)<(N:Int):=by have:=HT.out;omega
 clear HL;have aR:=eu (λp x (hx:ts[p]?=some x)=>show Rw.DU ts p=(x.2.1:Int)-(y.2.1:Int)by unfold Rw.DU;rw[Rw.yX _ _ _ hx,bF.out])
 go_upto_block 2 with fail
 clear c1 c2 y1
 go_cut [6,9] (λiv ev wx=>iv=.int .i64 (F+KQ:Nat)/\wx.ownsRow w1.heap.size 110 4 ev DS.length (vE.all DS)/\Below w1.heap.size w1 wx/\KQ<=M/\DS.length<=KQ)
 case first=>
  go_wp2_with fail
  go_loopw [6,9] (λiv ev wr=>∃(p:Nat)(es:List Rw.E),iv=.int .i64 (F+p:Nat)/\p<=M/\es.length<=p/\Hid (es++Rw.uh F ts p=DS)/\Hid (Rw.ui ts p=KQ)/\wr.ownsRow w1.heap.size 110 4 ev es.length (vE.all es)/\Below w1.heap.size w1 wr) (λiv _ _=>T-(intOf iv).toNat)
  case atStart=>exact⟨A,[],by go_num,hld,nO _,aY,aZ,qG vE _ _,mF _ _⟩
  case round=>
   obtain⟨p,es,rfl,hp,hel,HE,HK,hown,hb⟩:=hrel;obtain⟨HO,HB,ag⟩:=nY hown hb (lu HB1.out hb);have c2:=aA.out wr hb;by_cases hlt:p<M
   ·obtain⟨x,hx⟩:=pG ts p (by rw[HLen.out];exact hlt);obtain⟨b',off',he,d0,d1,-⟩:=ai.out wr ag.out p x hx;injection he with he
    injection he with e1 e2
    subst e1 e2;have hpt:F+p<T:=by have:=HT.out;omega
    have hi:((F+p:Nat):Int)<(T:Int):=by omega
    have hi2:((F+p:Nat):Int)<(N:Int):=by omega
    have hhd:=Rw.qZ ts p x hx;have hx1:=aC.out p x hx;have ax:=aR.out p x hx;obtain⟨K,hK⟩:=my (x.1);rw[hK]at d0 hhd;by_cases q:K=5
    ·have hst:=Rw.H7 F ts p (by rw[hhd];exact q);have hsk:=ah.out;have hbi:=Rw.qL ts (p+1) (by rw[HLen.out];omega);rw[HLen.out]at hbi;obtain⟨P2,hP2⟩:=my (p+1+Rw.blanks (ts.drop (p+1)));have hs1:=λW (hb:Below w.heap.size w W)=>ah.out W hb (p+1) (by omega)
     rw[hP2]at hst hs1 hbi;rw[show((F+(p+1):Nat):Int)=(F:Int)+(p:Int)+1 from by omega]at hs1;have hp2:p+1<=P2:=by omega
     obtain⟨bq,ak⟩:=mR hst hs1;have aS:=eu (show vE.cells (Rw.uD F ts p)=[.bool true,.int .i64 ((x.2.1:Int)-(y.2.1:Int)),.int .i64 ((F:Int)+(p:Int)),.int .i64 ((F:Int)+(p:Int)+1)]by simp[vE,Fu,Rw.uD,ax]);have g:((K:Int)==5)=true:=by simp;omega
     have av:=eu hb.size;clear hst hsk hs1 hP2 hx hhd q hK hown hb ax;go_wp2_with (at_builtin;go_must (refine qm XH rfl (.tmp 52) (.tmp 64) rfl w1.heap.size _ es (Rw.uD F ts p) _ aS.out rfl HO.out rfl (by simp only[maxLen];omega) (by omega) av.out ?_;intro v7 w7 aa aD;have bG:=eu aa;have aT:=eu ((HB.out.alloc av.out _).grown aD (by have:=av.out;simp;omega) (λk hk=>(HO.out.lt k hk).1));have c2:=aA.out w7 aT.out;clear aa aD))
     refine(ak.out w7 (lu HB1.out aT.out)).mono ?_;rintro e w8 ⟨rfl,rfl⟩;have bH:(es++[Rw.uD F ts p]).length=es.length+1:=by simp
     go_wp2_with fail
     go_roundw
     case rel=>
      (repeat apply Exists.intro)
      refine⟨⟨P2,es++[Rw.uD F ts p],?_,hbi,by omega,eu (by rw[sF,<-HE.out,bq.out.1];rfl),eu (bq.out.2.symm.trans HK.out),bG.out,aT.out⟩,rfl⟩
      go_num
     case measure=>have:=HT.out;simp[intOf];omega
    have hst:=Rw.Bg F ts p (by rw[hhd];exact q);have g:((K:Int)==5)=false:=by simp;omega
    have hk:p=KQ:=by rw[<-HK.out];exact hst.2.symm
    have he:es=DS:=by rw[<-HE.out,hst.1,rD]
    subst hk he;clear hst q hK hhd hx hown hb ax;go_wp2_with fail
    go_meet
    exact⟨rfl,HO.out,HB.out,hp,hel⟩
   have hst:=Rw.Jr F ts p (by rw[HLen.out];omega);have hpt:¬(((F+p:Nat):Int)<(T:Int)):=by have:=HT.out;omega
   have hk:p=KQ:=by rw[<-HK.out];exact hst.2.symm
   have he:es=DS:=by rw[<-HE.out,hst.1,rD]
   subst hk he;clear hst hown hb;go_wp2_with fail
   go_meet
   exact⟨rfl,HO.out,HB.out,hp,hel⟩
 case rest=>
 obtain⟨rfl,hown,hb,bI,hdl⟩:=hcut;obtain⟨HO,HB,ag⟩:=nY hown hb (lu HB1.out hb);have c2:=aA.out wc hb;have hk0:=Rw.Qb F ts KQ;have hk1:=Rw.Qc F ts KQ;obtain⟨V,hV⟩:=my (Rw.vF ts KQ);rw[hV]at hk0 hk1;obtain⟨bz,bA,HV⟩:=nY hk0 hk1 hV;clear hk0 hk1 hV hown hb aY aZ
 go_upto_block 4 with fail
 go_cut [10] (λkv wx=>∃q:Nat,kv=.int .i64 (F+q:Nat)/\q<=M/\Hid (Rw.vF ts q=V)/\Hid (∀x,ts[q]?=some x->Rw.isProp x.1=false)/\wc=wx)
 case first=>
  go_wp2_with fail
  go_loopw [10] (λkv wr=>∃q:Nat,kv=.int .i64 (F+q:Nat)/\q<=M/\Hid (Rw.vF ts q=V)/\wc=wr) (λkv _=>T-(intOf kv).toNat)
  case atStart=>exact⟨KQ,by go_num,bI,HV,rfl⟩
  case round=>
   obtain⟨q,rfl,hq,ae,rfl⟩:=hrel;by_cases hlt:q<M
   ·obtain⟨x,hx⟩:=pG ts q (by rw[HLen.out];exact hlt);obtain⟨b',off',he,d0,d1,-⟩:=ai.out wc ag.out q x hx;injection he with he
    injection he with e1 e2
    subst e1 e2;have ay:F+q<T:=by have:=HT.out;omega
    have hi:((F+q:Nat):Int)<(T:Int):=by omega
    have hi2:((F+q:Nat):Int)<(N:Int):=by omega
    have hbi:=Rw.qL ts (q+1) (by rw[HLen.out];omega);rw[HLen.out]at hbi;have hs1:=ah.out wc ag.out (q+1) (by omega);have hkp:=Rw.MI ts q x hx;obtain⟨Q2,aB⟩:=my (q+1+Rw.blanks (ts.drop (q+1)));rw[aB]at hs1 hbi hkp;rw[show((F+(q+1):Nat):Int)=(F:Int)+(q:Int)+1 from by omega]at hs1;have hq2:q+1<=Q2:=by omega
    have ak:=eu hs1;obtain⟨K,hK⟩:=my (x.1);rw[hK]at d0 hkp;have af:=eu hkp;have aF:=eu (fun(h:Rw.isProp K=false) z (hz:ts[q]?=some z)=>show Rw.isProp z.1=false by rw[hx]at hz;injection hz with hz;subst hz;rw[hK];exact h);clear hs1 hkp aB hx hK d1;by_cases q1:K=12
    ·have g:((K:Int)==12)=true:=by simp;omega
     have aU:=eu (show Rw.vF ts Q2=V by rw[<-ae.out];exact(af.out (by rw[q1];rfl)).symm);clear q1 aF af ae;go_wp2_with fail
     refine ak.out.mono ?_;rintro e w8 ⟨rfl,rfl⟩;go_wp2_with fail
     go_roundw
     case rel=>
      (repeat apply Exists.intro)
      refine⟨⟨Q2,?_,hbi,aU,trivial⟩,rfl⟩
      go_num
     case measure=>have:=HT.out;simp[intOf];omega
    have g12:((K:Int)==12)=false:=by simp;omega
    by_cases q2:K=14
    ·have g:((K:Int)==14)=true:=by simp;omega
     have aU:=eu (show Rw.vF ts Q2=V by rw[<-ae.out];exact(af.out (by rw[q2];rfl)).symm);clear q1 q2 aF af ae;go_wp2_with fail
     refine ak.out.mono ?_;rintro e w8 ⟨rfl,rfl⟩;go_wp2_with fail
     go_roundw
     case rel=>
      (repeat apply Exists.intro)
      refine⟨⟨Q2,?_,hbi,aU,trivial⟩,rfl⟩
      go_num
     case measure=>have:=HT.out;simp[intOf];omega
    have g14:((K:Int)==14)=false:=by simp;omega
    have aV:=eu (aF.out (by simp[Rw.isProp];omega));clear q1 q2 aF af ak;go_wp2_with fail
    go_meet
    exact⟨q,by go_num,hq,ae,aV,rfl⟩
   have ay:¬(((F+q:Nat):Int)<(T:Int)):=by have:=HT.out;omega
   have aV:=eu (λz (hz:ts[q]?=some z)=>show Rw.isProp z.1=false by have:=(nC.1 hz).1;have:=HLen.out;omega);go_wp2_with fail
   go_meet
   exact⟨q,by go_num,hq,ae,aV,rfl⟩
 case rest=>
 obtain⟨q,rfl,hq,ae,bB,rfl⟩:=hcut;obtain⟨sb,hsb⟩:∃sb:Bool,sb=(decide (q<M)&&Rw.nL (Rw.pz (ts.drop q))):=⟨_,rfl⟩
 have aG:=eu hsb;clear hsb;go_upto_region 15 with fail
 go_cut [110] (λz wx=>z=.bool sb/\wc=wx)
 case first=>
  by_cases hlt:q<M
  ·obtain⟨x,hx⟩:=pG ts q (by rw[HLen.out];exact hlt);obtain⟨b',off',he,d0,d1,-⟩:=ai.out wc ag.out q x hx;injection he with he
   injection he with e1 e2
   subst e1 e2;have ay:F+q<T:=by have:=HT.out;omega
   have hi:((F+q:Nat):Int)<(T:Int):=by omega
   have hi2:((F+q:Nat):Int)<(N:Int):=by omega
   have hsc:=Tj x.1 wc;have hsb:=aG.out;rw[Rw.qZ ts q x hx]at hsb;rw[show Rw.nL x.1=sb by rw[hsb];simp[hlt]]at hsc;have HSc:=eu hsc;clear hx hsc hsb d1;go_wp2_with fail
   refine HSc.out.mono ?_;rintro e w8 ⟨rfl,rfl⟩;go_wp2_with fail
   go_meet
   exact⟨rfl,rfl⟩
  have ay:¬(((F+q:Nat):Int)<(T:Int)):=by have:=HT.out;omega
  have hsb:sb=false:=by rw[aG.out];simp[hlt]
  subst hsb;go_wp2_with fail
  go_meet
  exact⟨rfl,rfl⟩
 case rest=>
 obtain⟨rfl,rfl⟩:=hcut
 go_upto_if 110 with fail
 go_cut [10] (λkv wx=>∃r:Nat,kv=.int .i64 (F+r:Nat)/\r<=M/\Hid (Rw.AZ ts r=V)/\wc=wx)
 case first=>
  have hsb:=aG.out;by_cases hlt:q<M
  ·obtain⟨x,hx⟩:=pG ts q (by rw[HLen.out];exact hlt);rw[Rw.qZ ts q x hx]at hsb;have aH:=bB.out x hx;cases sb with
   |true=>
    have hsc:Rw.nL x.1=true:=by simp[hlt]at hsb;exact hsb
    have hbi:=Rw.qL ts (q+1) (by rw[HLen.out];omega);rw[HLen.out]at hbi;have hs1:=ah.out wc ag.out (q+1) (by omega);have hkp:=Rw.MJ ts q x hx aH hsc;rw[ae.out]at hkp;obtain⟨Q2,aB⟩:=my (q+1+Rw.blanks (ts.drop (q+1)));rw[aB]at hs1 hbi hkp;rw[show((F+(q+1):Nat):Int)=(F:Int)+(q:Int)+1 from by omega]at hs1;have ay:F+q<T:=by have:=HT.out;omega
    obtain⟨ak,af⟩:=mR hs1 hkp;clear hs1 hkp aB hx aH hsc hsb;go_wp2_with fail
    refine ak.out.mono ?_;rintro e w8 ⟨rfl,rfl⟩;go_wp2_with fail
    go_meet
    exact⟨Q2,rfl,hbi,eu af.out.symm,rfl⟩
   |false=>
    have hsc:Rw.nL x.1=false:=by simpa [hlt]using hsb.symm
    have hkp:=Rw.Jq ts q x hx aH hsc;rw[ae.out]at hkp;have af:=eu hkp;clear hkp hx aH hsc hsb;go_wp2_with fail
    go_meet
    exact⟨q,by go_num,hq,eu af.out.symm,rfl⟩
  have bJ:sb=false:=by rw[hsb];simp[hlt]
  subst bJ;have hkp:=ae.out;rw[Rw.P7 ts q (by rw[HLen.out];omega)]at hkp;have af:=eu (show Rw.AZ ts q=V by rw[Rw.P8 ts q (by rw[HLen.out];omega)];exact hkp);clear hkp hsb;go_wp2_with fail
  go_meet
  exact⟨q,by go_num,hq,af,rfl⟩
 case rest=>
 obtain⟨r,rfl,hr,bC,rfl⟩:=hcut;clear aG ae bB;obtain⟨cb,hcb⟩:∃cb:Bool,cb=(decide (r<M)&&(Rw.pz (ts.drop r)==6)):=⟨_,rfl⟩
 have aI:=eu hcb;clear hcb;go_upto_region 17 with fail
 go_cut [128] (λz wx=>z=.bool cb/\wc=wx)
 case first=>
  by_cases hlt:r<M
  ·obtain⟨x,hx⟩:=pG ts r (by rw[HLen.out];exact hlt);obtain⟨b',off',he,d0,d1,-⟩:=ai.out wc ag.out r x hx;injection he with he
   injection he with e1 e2
   subst e1 e2;have ay:F+r<T:=by have:=HT.out;omega
   have hi:((F+r:Nat):Int)<(T:Int):=by omega
   have hi2:((F+r:Nat):Int)<(N:Int):=by omega
   have hcb:=aI.out;rw[Rw.qZ ts r x hx]at hcb;obtain⟨K,hK⟩:=my (x.1);rw[hK]at d0 hcb;have g:((K:Int)==6)=cb:=by
    rw[hcb];by_cases h6:K=6
    ·subst h6;simp[hlt]
    have e1:((K:Int)==6)=false:=by simp;omega
    have e2:(K==6)=false:=by simp;exact h6
    rw[e1,e2];simp
   clear hx hcb hK d1;go_wp2_with fail
   go_meet
   exact⟨rfl,rfl⟩
  have ay:¬(((F+r:Nat):Int)<(T:Int)):=by have:=HT.out;omega
  have hsb:cb=false:=by rw[aI.out];simp[hlt]
  subst hsb;go_wp2_with fail
  go_meet
  exact⟨rfl,rfl⟩
 case rest=>
 obtain⟨rfl,rfl⟩:=hcut
 go_upto_if 128 with fail
 go_cut [9] (λev wx=>wx.ownsRow w1.heap.size 110 4 ev EB.length (vE.all EB)/\Below w1.heap.size w1 wx)
 case first=>
  have hcb:=aI.out;have aJ:=bC.out;cases cb with
  |true=>
   obtain⟨hlt,h6⟩:r<M/\Rw.pz (ts.drop r)=6:=by simpa using hcb.symm
   have hv:V=((r+1:Nat):Int):=by rw[<-aJ];unfold Rw.AZ;rw[gu h6]
   obtain⟨q2,hq2,hkq,bK,hkn,hke⟩:=bA.out (by omega);obtain rfl:q2=r+1:=by omega
   rw[HLen.out]at hkn;obtain⟨x,hx⟩:=pG ts KQ (by rw[HLen.out];exact hkn);obtain⟨b',off',he,d0,d1,-⟩:=ai.out wc ag.out KQ x hx;injection he with he
   injection he with e1 e2
   subst e1 e2;have hx1:=aC.out KQ x hx;have ax:=aR.out KQ x hx;have hrt:F+r<T:=by have:=HT.out;omega
   have hi2:((F+KQ:Nat):Int)<(N:Int):=by have:=HT.out;omega
   have hE:DS++[⟨false,Rw.DU ts KQ,F+KQ,F+(r+1)⟩]=EB:=by rw[aP.out,hke]
   have aS:=eu (show vE.cells ⟨false,Rw.DU ts KQ,F+KQ,F+(r+1)⟩=[.bool false,.int .i64 ((x.2.1:Int)-(y.2.1:Int)),.int .i64 ((F:Int)+(KQ:Int)),.int .i64 ((F:Int)+(r:Int)+1)]by simp[vE,Fu,ax];omega);obtain⟨HE2,av⟩:=mR hE HB.out.size;have hz:DS.length<=100000:=by omega
   clear hcb aJ hv hq2 hke h6 hx ax hE d0 hkq bK;go_wp2_with (at_builtin;go_must (refine qm XH rfl (.tmp 129) (.tmp 141) rfl w1.heap.size _ DS ⟨false,Rw.DU ts KQ,F+KQ,F+(r+1)⟩ _ aS.out rfl HO.out rfl (by simp only[maxLen];omega) (by omega) av.out ?_;intro v7 w7 aa aD))
   rw[HE2.out]at aa
   go_meet
   exact⟨aa,(HB.out.alloc av.out _).grown aD (by have:=av.out;simp;omega) (λk hk=>(HO.out.lt k hk).1)⟩
  |false=>
   have hv:V=-1:=by
    rw[<-aJ];unfold Rw.AZ;rw[fu];intro h6;rw[h6]at hcb;by_cases hlt:r<M
    ·simp[hlt]at hcb
    rw[uQ (by rw[HLen.out];omega)]at h6;cases h6
   have hE:DS=EB:=by rw[aP.out,bz.out hv,rD]
   subst hE;clear hcb aJ hv;go_wp2_with fail
   go_meet
   exact⟨HO.out,HB.out⟩
 case rest=>
 obtain⟨hown,hb⟩:=hcut
 rename World=>w9
 have hR:=Reads.mW (E:=vE) hown;obtain⟨a3,aK,hv3⟩:=hR.shape;subst hv3;obtain⟨aW,bD⟩:=mR (lu HB1.out hb) (oU hown HB1.out.size);have hra:=aX.out;clear ah ai aC bz bA HV bC aI aP aX HO HB ag aR bn aA;rcases Uo EB with hnil|⟨E0,z,hz⟩
 ·subst hnil;have hrb:aj=F+A:=hra;have HD:=eu (HG.out _ w9 ⟨.slice none 0 0,rfl,qG vE _ _,aW.out⟩);clear hown hb hR hra;subst hrb;go_wp2_with fail
  exact HD.out
 rw[V2]at hz;have hlen:EB.length=E0.length+1:=by rw[hz];simp
 obtain⟨m,hm⟩:=my (E0.length);rw[hm]at hlen;have bE:EB[m]?=some z:=by rw[hz,<-hm];simp
 have hsz:=hR.size_le;simp only[maxLen]at hsz;rw[hlen]at hsz;obtain⟨b4,o4,rfl,-,-,-,z3⟩:=Tf hR m z bE;have hrb:aj=z.au:=by rw[hra,hz,Rw.H8]
 have HD:=eu (λn=>HG.out (.returned (.tuple #[.slice (some ⟨b4,o4,none⟩) EB.length aK,.int .i64 z.au])) (w9.drewN n) ⟨.slice (some ⟨b4,o4,none⟩) EB.length aK,by rw[hrb],mU bD.out (nG (mF _ _) n),nG aW.out n⟩);have hm1:(m:Int)<(m:Int)+1:=by omega
 rw[hlen]at HD⊢;clear hown hb hR hra hz bE hm hrb hlen HG bD aW;go_wp2_with fail
 go_quiet (fail)
 go_wp2_with fail
 exact HD.out nq
theorem GN(v:Value)(l:List Tk)(x:Rw.R)(w:World)(h:Reads qB w v l)(hs:l.length<=100000)(hf:∀x∈l,x.2.1<=1000000)(h1:x.from'<x.au)(h2:x.au<=l.length):
 Calls prog 68 #[v,Wy x] w (yR 110 (Rw.su l x).1 (Rw.su l x).2 w):=by
 by_cases hk:x.kind=5
 ·obtain⟨k,f,t,c⟩:=x;dsimp only at hk h1 h2;subst hk;have e:Rw.su l ⟨5,f,t,c⟩=(Rw.rT f ((l.drop f).take (t-f)),Rw.vH f ((l.drop f).take (t-f))):=by unfold Rw.su;rw[gu rfl]
  rw[e];exact FZ v l f (t-f) t c w h hs hf (by omega) (by omega) h2
 have e:Rw.su l x=([],x.from'):=by unfold Rw.su;rw[fu hk]
 rw[e];exact FY v x w hk
end
end Go.Proofs.Ytfbiffdmhcjhbaa

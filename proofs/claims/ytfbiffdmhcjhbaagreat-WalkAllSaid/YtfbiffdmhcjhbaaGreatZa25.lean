import Derived.Test.YtfbiffdmhcjhbaaGreatZa21
import Derived.Test.YtfbiffdmhcjhbaaGreatZa22
import Derived.Test.YtfbiffdmhcjhbaaGreatZa23
import Derived.BigRegion
set_option linter.all false
set_option maxHeartbeats 16000000
set_option maxRecDepth 100000
set_option synthInstance.maxSize 4000
set_option synthInstance.maxHeartbeats 0
namespace Go.Proofs.YtfbiffdmhcjhbaaGreat
open Go.RowKit Tryz
namespace Rw
abbrev seen(l:List Tk)(fr j:Nat):List Tk:=(l.drop fr).take j
theorem G6{q:Nat}{l:List Tk}(h:jl q l)(fr j:Nat):∃p,jl p (seen l fr j):=by
 obtain⟨p,hp⟩:=h.drop fr;exact⟨p,yI j p hp⟩
end Rw
section
open Go.RowKit
open Sg
open Sq
def RB(w:World)(b:Nat)(k f t c:Int):Prop:=w.heap[b]?=some (.cells #[.int .i64 k,.int .i64 f,.int .i64 t,.int .i64 c] 67 (0,0))
section
variable {w w':World}{b:Nat}{k f t c:Int}
theorem RB.cs(h:RB w b k f t c):w.cell? ⟨b,0,none⟩=some (.int .i64 k)/\w.cell? ⟨b,1,none⟩=some (.int .i64 f)/\w.cell? ⟨b,2,none⟩=some (.int .i64 t)/\w.cell? ⟨b,3,none⟩=some (.int .i64 c):=
 ⟨(gQ h 0).trans rfl,(gQ h 1).trans rfl,(gQ h 2).trans rfl,(gQ h 3).trans rfl⟩
theorem RB.fz(h:RB w b k f t c)(o:Nat):w.frozen? ⟨b,o,none⟩=false:=rW h o
theorem RB.lt(h:RB w b k f t c):b<w.heap.size:=(Ls.1 h).1
theorem RB.set0(h:RB w b k f t c)(u:Int):RB (w.setCell ⟨b,0,none⟩ (.int .i64 u)) b u f t c:=mr h _
theorem RB.set2(h:RB w b k f t c)(u:Int):RB (w.setCell ⟨b,2,none⟩ (.int .i64 u)) b k f u c:=mr h _
theorem RB.OX(h:RB w b k f t c)(u:Int):RB (w.setCell ⟨b,3,none⟩ (.int .i64 u)) b k f t u:=mr h _
theorem RB.new(w:World)(k f t c:Int):RB (w.alloc (.cells #[.int .i64 k,.int .i64 f,.int .i64 t,.int .i64 c] 67)) w.heap.size k f t c:=qj w _
end
theorem mY{B b:Nat}{a w:World}(h:Below B a w)(hB:B<=b)(o:Nat)(u:Value):Below B a (w.setCell ⟨b,o,none⟩ u):=h.setCell (p:=⟨b,o,none⟩) hB u
theorem Q5(v:Value)(l:List Tk)(q:Nat)(w:World)(h:Reads iZ w v l)(hs:l.length<=100000)(hf:∀x∈l,x.2.1<=1000000)(ht:Rw.jl q l):
 Calls prog 24 #[v] w (C5 (Rw.fE l) w):=by
 obtain⟨a,cap,rfl⟩:=h.shape;have H:=eu (λW (hb:Below w.heap.size w W) j x (hj:l[j]?=some x)=>iG (h.below hb) j x hj);obtain⟨HF,HT,aJ,aK,ai⟩:=xZ hf ht (Rw.Gp l) (Rw.Gq l) (Rw.J4 l);have hat:Rw.oz 0 0 l=Rw.fE l:=rfl;obtain⟨Rs,hRs⟩:=eX (Rw.fE l);rw[hRs]at hat⊢;have HG:=eu (λe w'=>show(∃u,e=.returned u/\w'.ownsRow w.heap.size 67 4 u Rs.length (encR.all Rs)/\Below w.heap.size w w')->C5 Rs w e w' from λh=>h);obtain⟨Q,hQ⟩:=eX (C5 Rs w);rw[hQ]at HG⊢;obtain⟨N,hN⟩:=eX (l.length);have HN:=eu hN;have hcp:=h.wo;rw[hN]at hcp hs;unfold maxLen at hcp;rw[hN];have aL:=eu hat;clear h hf hRs hN hQ hat ht
 go_enter func24,ntmps24
 go_wp2_with fail
 go_loopw [3,4,5] (λlv ov fv wr=>∃(fr op:Nat)(done:List Rw.R),fv=.int .i64 fr/\ov=.int .i64 op/\fr<=N/\op<=fr/\done.length<=fr/\Hid (done++Rw.oz op fr (l.drop fr)=Rs)/\wr.ownsRow w.heap.size 67 4 lv done.length (encR.all done)/\Below w.heap.size w wr) (λ_ _ fv _=>N-(intOf fv).toNat)
 case atStart=>
  exact⟨0,0,[],rfl,rfl,gG _,fC _,fC _,eu (by rw[uk,xU];exact aL.out),jq encR _ _,fu _ w⟩
 case round=>
  rename World=>w0
  obtain⟨fr,op,done,rfl,rfl,hfr,hop,hdl,HE,hown,hb⟩:=hrel;by_cases hlt:fr<N
  ·have hi:(fr:Int)<(N:Int):=by omega
   obtain⟨HO,HB⟩:=fD hown hb;obtain⟨y,hy⟩:=iT l fr (by rw[HN.out];exact hlt);have HY:=eu hy;have hne:l.drop fr≠[]:=λe=>by have:=congrArg List.length e;rw[iq,HN.out]at this;simp at this;omega
   have bf:=Rw.qJ _ hne;have hrl:=Rw.zK (l.drop fr);rw[iq,HN.out]at hrl;have hst:=aJ.out op fr (by rw[HN.out];exact hlt);obtain⟨R,hR⟩:=eX (Rw.kG (l.drop fr));rw[hR]at hst bf hrl;obtain⟨HR,aj⟩:=fD hR hst;obtain⟨row,hrow⟩:=eX (Rw.seen l fr R);have af:=eu hrow;have bg:fr+R<=N:=by omega
   obtain⟨rb,hrb⟩:=eX (w0.heap.size);have ak:=eu hrb;have hnew:=RB.new w0 1 fr 0 (-1);rw[hrb]at hnew;obtain⟨wa,aM⟩:=eX (w0.alloc (.cells #[.int .i64 1,.int .i64 fr,.int .i64 0,.int .i64 (-1)] 67));have aN:=eZ w0 (.cells #[.int .i64 1,.int .i64 fr,.int .i64 0,.int .i64 (-1)] 67);rw[aM]at hnew aN;obtain⟨ax,aO,aP⟩:=gW hnew aN aM;clear hne hst hR hrow hrb hnew aM aN hy hown hb aK aJ HG
   go_upto_block 2 with fail
   rw[aP.out,ak.out]
   go_cut [4,5] (λov av wx=>ov=.int .i64 (Rw.ql op row:Nat)/\av=.int .i64 (fr+R:Nat)/\RB wx rb (Rw.jP row:Nat) fr 0 (Rw.ni row)/\Below w0.heap.size w0 wx)
   case first=>
    go_wp2_with fail
    go_loopw [4,5] (λov av wx=>∃j:Nat,av=.int .i64 (fr+j:Nat)/\ov=.int .i64 (Rw.ql op (Rw.seen l fr j):Nat)/\fr+j<=N/\Hid (∀i x,i<j->l[fr+i]?=some x->Rw.ends x=false)/\RB wx rb (Rw.jP (Rw.seen l fr j):Nat) fr 0 (Rw.ni (Rw.seen l fr j))/\Below w0.heap.size w0 wx) (λ_ av _=>N-(intOf av).toNat)
    case atStart=>exact⟨0,rfl,rfl,by omega,eu (λi x h=>absurd h (uY i)),ax.out,aO.out⟩
    case round=>
     obtain⟨j,rfl,rfl,hj,HA,hrb,hbx⟩:=hrel;by_cases hjl:fr+j<N
     ·obtain⟨x,hx⟩:=iT l (fr+j) (by rw[HN.out];exact hjl);have ay:=Rw.Gm l fr j x hx;obtain⟨p,hp⟩:=Rw.G6 HT.out fr j;have hneg:=Rw.M3 hp;have hks:=Rw.Gn (Rw.seen l fr j) x;have hcs:=Rw.kL (Rw.seen l fr j) x;have hos:=Rw.F3 op (Rw.seen l fr j) x;rw[<-ay]at hks hcs hos;rw[Rw.Dx l fr (j+1) y HY.out (by omega)]at hcs;have hole:Rw.ql op (Rw.seen l fr j)<=op+j:=by
       have:=Rw.E7 (Rw.seen l fr j) op;have:(Rw.seen l fr j).length<=j:=Qq j (l.drop fr);omega
      have hx1:=HF.out x (nQ hx);have hy1:=HF.out y (nQ HY.out);obtain⟨K0,bn⟩:=eX (Rw.jP (Rw.seen l fr j));obtain⟨C0,hC0⟩:=eX (Rw.ni (Rw.seen l fr j));obtain⟨O0,bq⟩:=eX (Rw.ql op (Rw.seen l fr j));obtain⟨K1,hK1⟩:=eX (Rw.jP (Rw.seen l fr (j+1)));obtain⟨C1,aQ⟩:=eX (Rw.ni (Rw.seen l fr (j+1)));obtain⟨O1,aR⟩:=eX (Rw.ql op (Rw.seen l fr (j+1)));obtain⟨F0,bz⟩:=eX ((Rw.jd (Rw.seen l fr j)).isNone);have hex:∀(e:Rw.ends x=true),R=j+1:=λe=>by
       rw[<-HR.out];refine ai.out fr (j+1) (by omega) (λi z hi hz=>HA.out i z (by omega) hz) (.inr ⟨x,?_,e⟩);rw[show fr+(j+1)-1=fr+j from by omega];exact hx
      rw[bn]at hks hrb;rw[hC0]at hcs hrb hneg;rw[bq]at hos hole;rw[hK1]at hks;rw[aQ]at hcs;rw[aR]at hos;rw[bz]at hks hcs hneg;obtain⟨b,off,rfl,c0,c1,c2⟩:=H.out wr (HB.out.trans (hbx.mono HB.out.size)) (fr+j) x hx;obtain⟨b',off',he,d0,d1,d2⟩:=H.out wr (HB.out.trans (hbx.mono HB.out.size)) fr y HY.out;injection he with he
      injection he with e1 e2
      subst e1 e2;obtain⟨ae,ah⟩:=fD hrb hbx;obtain⟨k0,k1,k2,k3⟩:=hrb.cs;have z0:=hrb.fz 0;have z3:=hrb.fz 3;have hj1:((fr+j:Nat):Int)<(N:Int):=by omega
      have az:=eu (λW=>rF x.1 W);have bA:=eu hex
      have HA1:=eu (show Rw.ends x=false->∀i z,i<j+1->l[fr+i]?=some z->Rw.ends z=false from λe i z hi hz=>by
       rcases Qy.1 hi with h|h
       ·exact HA.out i z h hz
       subst h;rw[hx]at hz;injection hz with hz;subst hz;exact e)
      have bP:=eu bg;obtain⟨CN,bB⟩:=eX (Sc.counts x.1);obtain⟨MK,aS⟩:=eX (Rw.si x.1);obtain⟨K,hK⟩:=eX (x.1);obtain⟨EN,aT⟩:=eX (Rw.ends x);rw[bB]at az hks hcs;rw[aS]at hks;rw[aT]at bA HA1;have hen:EN=(K==1||K==19):=by rw[<-aT,<-hK];rfl
      have hmk:MK=(K==20||K==21):=by rw[<-aS,<-hK];rfl
      rw[hK]at c0 hos az;obtain⟨aU,aV,bJ,bC,bD,aD⟩:=j6 hks hcs hos hen hmk hK1;obtain⟨aF,aG,aa⟩:=gW aQ aR ak.out;clear hks hcs hos hen hmk hex aT aS bB hK bn hC0 bz ay hp hrb hbx hx HA hK1 aQ aR H HF HT ai aj ax aO aP ak HE;obtain⟨D,hD⟩:=eX ((F0&&CN));have HD:=eu hD;clear hD;rw[bq];go_upto_region 9 with fail
      go_cut [32] (λq wy=>q=.bool D/\wr=wy)
      case first=>
       cases F0 with
       |true=>
        have hn:C0<0:=hneg.2 rfl
        clear hneg;go_wp2_with fail
        refine(az.out _).mono ?_;rintro e w2 ⟨rfl,rfl⟩;go_wp2_with fail
        go_meet
        exact⟨by rw[<-HD.out];simp,rfl⟩
       |false=>
        have hn:¬C0<0:=λh=>by have:=hneg.1 h;cases this
        clear hneg;go_wp2_with fail
        go_meet
        exact⟨by rw[<-HD.out];simp,rfl⟩
      case rest=>
      obtain⟨rfl,rfl⟩:=hcut
      go_upto_if 32 with fail
      go_cut [6] (λq wy=>q=.pointer (some ⟨rb,0,none⟩)/\RB wy rb K1 fr 0 C1/\Below w0.heap.size w0 wy)
      case first=>
       cases D with
       |false=>
        have hnd:¬(F0=true/\CN=true):=λh=>by have:=HD.out;rw[h.1,h.2]at this;cases this
        have hk2:=aU.out;have hc2:=aV.out;rw[eQ hnd]at hk2 hc2;subst hk2 hc2;clear hneg hnd;go_wp2_with fail
        go_meet
        exact⟨rfl,ae.out,ah.out⟩
       |true=>
        obtain⟨hf1,hc1⟩:F0=true/\CN=true:=by have:=HD.out;simpa using this
        subst hf1 hc1;have hc2:=aV.out;rw[eT ⟨rfl,rfl⟩]at hc2;have hk2:=aU.out;rw[eT ⟨rfl,rfl⟩]at hk2;have hw:=jC ((x.2.1:Int)-(y.2.1:Int)) (by omega);have bE:=eu (((ae.out).OX ((x.2.1:Int)-(y.2.1:Int))).set0 5);have bF:=eu (mY (mY ah.out (kZ aa.out) 3 (.int .i64 ((x.2.1:Int)-(y.2.1:Int)))) (kZ aa.out) 0 (.int .i64 5));clear hneg;go_wp2_with fail
        go_region
        cases MK with
        |false=>
         have hnk:¬K=20/\¬K=21:=by have:=bD.out;simpa using this.symm
         have g20:((K:Int)==20)=false:=by simp;omega
         have g21:((K:Int)==21)=false:=by simp;omega
         obtain rfl:K1=5:=hk2;subst hc2;clear hnk;go_wp2_with fail
         go_meet
         exact⟨rfl,bE.out,bF.out.drew⟩
        |true=>
         have hnk:K=20\/K=21:=by have:=bD.out;simpa using this.symm
         obtain rfl:K1=4:=hk2;subst hc2;have HR4:=eu (bE.out.set0 4);have bG:=eu (mY bF.out (kZ aa.out) 0 (.int .i64 4));rcases hnk with q|q
         ·have g20:((K:Int)==20)=true:=by simp;omega
          clear q;go_wp2_with fail
          go_meet
          exact⟨rfl,HR4.out,bG.out.drew⟩
         have g20:((K:Int)==20)=false:=by simp;omega
         have g21:((K:Int)==21)=true:=by simp;omega
         clear q;go_wp2_with fail
         go_meet
         exact⟨rfl,HR4.out,bG.out.drew⟩
      case rest=>
      obtain⟨rfl,aH,aI⟩:=hcut;obtain⟨HR2,HB2⟩:=fD aH aI;clear aH aI hneg k0 k1 k2 k3 z0 z3 c0 c1 c2 d0 d1 d2 ae ah az HD aU aV
      go_upto_block 4 with fail
      go_cut [4] (λq wy=>q=.int .i64 (O1:Nat)/\wc=wy)
      case first=>
       have hmx:max ((O0:Int)-1) 0=((O0-1:Nat):Int):=by omega
       have hos:=bJ.out;unfold Sc.opens at hos;by_cases q1:K=8
       ·rw[eT (.inl q1)]at hos;subst q1;have HX:=eu hos;clear hos;go_wp2_with fail
        go_meet
        exact⟨by rw[HX.out];go_num,rfl⟩
       have g8:((K:Int)==8)=false:=by simp;omega
       by_cases q2:K=9
       ·rw[eT (.inr q2)]at hos;subst q2;have HX:=eu hos;clear hos q1 g8;go_wp2_with fail
        go_meet
        exact⟨by rw[HX.out];go_num,rfl⟩
       have g9:((K:Int)==9)=false:=by simp;omega
       rw[eQ (by omega)]at hos;by_cases q3:K=10
       ·rw[eT (.inl q3)]at hos;subst q3;have HX:=eu hos;clear hos q1 q2 g8 g9;go_wp2_with fail
        go_meet
        exact⟨by rw[HX.out],rfl⟩
       have g10:((K:Int)==10)=false:=by simp;omega
       by_cases q4:K=11
       ·rw[eT (.inr q4)]at hos;subst q4;have HX:=eu hos;clear hos q1 q2 q3 g8 g9 g10;go_wp2_with fail
        go_meet
        exact⟨by rw[HX.out],rfl⟩
       have g11:((K:Int)==11)=false:=by simp;omega
       rw[eQ (by omega)]at hos;clear hmx;by_cases q5:K=20
       ·rw[eT (.inl q5)]at hos;subst q5;have HX:=eu hos;clear hos q1 q2 q3 q4 g8 g9 g10 g11;go_wp2_with fail
        go_meet
        exact⟨by rw[HX.out];rfl,rfl⟩
       have g20:((K:Int)==20)=false:=by simp;omega
       by_cases q6:K=21
       ·rw[eT (.inr q6)]at hos;subst q6;have HX:=eu hos;clear hos q1 q2 q3 q4 q5 g8 g9 g10 g11 g20;go_wp2_with fail
        go_meet
        exact⟨by rw[HX.out];rfl,rfl⟩
       have g21:((K:Int)==21)=false:=by simp;omega
       rw[eQ (by omega)]at hos;have HX:=eu hos;clear hos q1 q2 q3 q4 q5 q6;go_wp2_with fail
       go_meet
       exact⟨by rw[HX.out],rfl⟩
      case rest=>
      obtain⟨rfl,rfl⟩:=hcut;have hen:=bC.out;cases EN with
      |true=>
       have hRj:=bA.out rfl;have hk:K=1\/K=19:=by simpa using hen.symm
       have HM:=eu (show(O1=Rw.ql op row/\K1=Rw.jP row/\C1=Rw.ni row)by
        rw[<-af.out,hRj];exact⟨aG.out.symm,aD.out.symm,aF.out.symm⟩)
       have aA:=eu hRj;clear hRj hen;rcases hk with q|q
       ·have g1:((K:Int)==1)=true:=by simp;omega
        clear q;go_wp2_with fail
        go_meet
        exact⟨by rw[HM.out.1],by rw[aA.out];go_num,by rw[<-HM.out.2.1,<-HM.out.2.2];exact HR2.out,HB2.out⟩
       have g1:((K:Int)==1)=false:=by simp;omega
       have g19:((K:Int)==19)=true:=by simp;omega
       clear q;go_wp2_with fail
       go_meet
       exact⟨by rw[HM.out.1],by rw[aA.out];go_num,by rw[<-HM.out.2.1,<-HM.out.2.2];exact HR2.out,HB2.out⟩
      |false=>
       have hk:¬K=1/\¬K=19:=by simpa using hen.symm
       have g1:((K:Int)==1)=false:=by simp;omega
       have g19:((K:Int)==19)=false:=by simp;omega
       have bK:=eu (HA1.out rfl);clear hen hk;go_wp2_with fail
       go_roundw
       case rel=>exact⟨j+1,by go_num,by rw[aG.out],by omega,bK,by rw[aD.out,aF.out];exact HR2.out,HB2.out⟩
       case measure=>simp[intOf];omega
     have hj0:0<j:=by omega
     have hRj:R=j:=by
      rw[<-HR.out];exact ai.out fr j hj0 (λi z hi hz=>HA.out i z (by omega) hz) (.inl (by rw[HN.out];omega))
     have HM:=eu (show Rw.seen l fr j=row by rw[<-af.out,hRj]);obtain⟨HR2,HB2,aA⟩:=gW hrb hbx hRj;have bQ:¬(((fr+j:Nat):Int)<(N:Int)):=by omega
     clear hRj hrb hbx HA;go_wp2_with fail
     go_meet
     exact⟨by rw[HM.out],by rw[aA.out];go_num,by rw[<-HM.out];exact HR2.out,HB2.out⟩
   case rest=>
    obtain⟨rfl,rfl,hrb,hbx⟩:=hcut;have hhk:=Rw.Dy l fr R y HY.out bf;have hrw:(l.drop fr).take R=row:=af.out;rw[hrw]at hhk;have hko:=Rw.J3 (decide (0<op)) row;rw[hhk]at hko;have hst:=aj.out;rw[hrw]at hst;have hole:Rw.ql op row<=op+R:=by
     have:=Rw.E7 row op;have:row.length<=R:=by rw[<-af.out];exact Qq R (l.drop fr)
     omega
    obtain⟨KO,aW⟩:=eX (Rw.kindOf (decide (0<op)) row);obtain⟨KP,aX⟩:=eX (Rw.jP row);obtain⟨CO,aY⟩:=eX (Rw.ni row);obtain⟨OP,aB⟩:=eX (Rw.ql op row);rw[aW,aY,aB]at hst;rw[aW,aX]at hko;rw[aX,aY]at hrb;rw[aB]at hole;rw[aB];obtain⟨aC,bH⟩:=fD hko hst;obtain⟨b,off,rfl,c0,c1,c2⟩:=H.out wc (HB.out.trans (hbx.mono HB.out.size)) fr y HY.out;obtain⟨ae,ah⟩:=fD hrb hbx;obtain⟨k0,k1,k2,k3⟩:=hrb.cs;have z0:=hrb.fz 0;have z2:=hrb.fz 2;have z3:=hrb.fz 3;obtain⟨bR,aa⟩:=fD hrb.lt (kZ ak.out);have hbb:rb≠b:=by
     intro e;obtain⟨b2,bO,he,e0,-,-⟩:=H.out w (fu _ _) fr y HY.out;injection he with he
     injection he with e1 e2
     have h5:b2<w.heap.size:=Ei e0
     have:=HB.out.size;have:=ak.out;omega
    have hr0:=ae.out.set2 ((fr:Int)+(R:Int));have hb0:=mY ah.out aa.out 2 (.int .i64 ((fr:Int)+(R:Int)));have d0:=Pb (o:=2) (v:=.int .i64 ((fr:Int)+(R:Int))) hbb c0;obtain⟨W2,hW2⟩:=eX (wc.setCell ⟨rb,2,none⟩ (.int .i64 ((fr:Int)+(R:Int))));rw[hW2]at hr0 hb0 d0;obtain⟨HW2,ag,HB0⟩:=gW hW2 hr0 hb0;clear hrw hst hko aW aX aY aB hhk hrb hbx H HF HT ai ax aO aP HR aj af aL HN c0 c1 c2 hr0 hb0 hW2 hbb;obtain⟨BG,hBG⟩:=eX (decide (0<op));rw[hBG]at aC⊢;obtain⟨T,hT⟩:=eX (y.1);rw[hT]at d0 aC;clear hBG hT;go_upto_region 26 with fail
    rw[HW2.out];clear k0 k1 k2 k3 z0 z2 z3;obtain⟨k0,k1,k2,k3⟩:=ag.out.cs;have z0:=ag.out.fz 0
    go_upto_if 85 with fail
    go_cut [6] (λq wy=>q=.pointer (some ⟨rb,0,none⟩)/\RB wy rb KO fr ((fr:Int)+(R:Int)) CO/\Below w0.heap.size w0 wy)
    case first=>
     have hko:=aC.out;by_cases q1:T=19
     ·rw[eT q1]at hko;subst q1;subst hko;have HR1:=eu (ag.out.set0 2);have HB1:=eu (mY HB0.out aa.out 0 (.int .i64 2));go_wp2_with fail
      go_meet
      exact⟨rfl,HR1.out,HB1.out⟩
     rw[eQ q1]at hko;have g19:((T:Int)==19)=false:=by simp;omega
     clear q1;cases BG with
     |false=>
      rw[eQ (λh=>by cases h.1)]at hko;subst hko;go_wp2_with fail
      go_meet
      exact⟨rfl,ag.out,HB0.out⟩
     |true=>
      by_cases q2:KP=4
      ·rw[eQ (λh=>h.2 q2)]at hko;subst q2;subst hko;go_wp2_with fail
       go_meet
       exact⟨rfl,ag.out,HB0.out⟩
      rw[eT ⟨rfl,q2⟩]at hko;subst hko;have g4:((KP:Int)==4)=false:=by simp;omega
      have HR1:=eu (ag.out.set0 3);have HB1:=eu (mY HB0.out aa.out 0 (.int .i64 3));clear q2;go_wp2_with fail
      go_meet
      exact⟨rfl,HR1.out,HB1.out⟩
    case rest=>
    obtain⟨rfl,hrb,hbx⟩:=hcut
    rename World=>w2
    obtain⟨k0,k1,k2,k3⟩:=hrb.cs;have bI:=eu (fI HO.out hbx);have HB2:=eu (HB.out.trans (hbx.mono HB.out.size));have HS2:=eu HB2.out.size;have bL:=eu (show encR.cells ⟨KO,fr,fr+R,CO⟩=[.int .i64 KO,.int .i64 fr,.int .i64 ((fr:Int)+(R:Int)),.int .i64 CO]by simp[encR,Jh]);clear hrb hbx ae ah ag HB0 d0 aC z0;go_wp2_with (at_builtin;go_must (refine jA RQ rfl (.tmp 94) (.tmp 96) rfl w.heap.size _ done ⟨KO,fr,fr+R,CO⟩ _ bL.out rfl bI.out rfl (by simp only[maxLen];omega) (by omega) HS2.out ?_;intro v7 w7 aZ bM))
    have bN:(done++[(⟨KO,fr,fr+R,CO⟩:Rw.R)]).length=done.length+1:=by simp
    go_roundw
    case rel=>
     refine⟨fr+R,OP,done++[(⟨KO,fr,fr+R,CO⟩:Rw.R)],by go_num,rfl,bg,by omega,by omega,eu ?_,aZ,?_⟩
     ·rw[lT,<-HE.out,bH.out];rfl
     refine(HB2.out.alloc HS2.out _).grown bM (by have:=HS2.out;simp;omega) (λk hk=>?_);exact(bI.out.lt k hk).1
    case measure=>simp[intOf];omega
  obtain rfl:fr=N:=by omega
  have hne:¬((fr:Int)<(fr:Int)):=by omega
  have hE:=HE.out;rw[aK.out op fr (by rw[HN.out];exact fC _),kH]at hE;subst hE;have HD:=eu (HG.out _ w0 ⟨_,rfl,hown,hb⟩);clear HE hown hb hlt H HF aJ aK HG HN aL hdl HT ai;go_wp2_with fail
  exact HD.out
end
namespace Ps
open Ar Fl
open Rw (R E)
theorem qI(f:Op->Bool):∀(st:List Op),(st.dropWhile f).length<=st.length
 |[]=>fC _
 |o::r=>by
  rw[xS];split
  ·exact jN (qI f r) (Au _)
  exact fC _
theorem ID(l:List Tk)(s:St)(node:Int)(e:E):(cur l s node e).1.d=s.d:=by
 unfold cur;split
 ·rfl
 unfold pair;dsimp only;split<;>rfl
theorem zW(l:List Tk)(depth:Nat)(p:PS)(up:Int)(root:Bool)(st:List Op)(e:E):(fresh l depth p up root st e).2.s.d=p.s.d:=by
 unfold fresh;split
 ·rfl
 dsimp only;rw[ID];rfl
theorem xg(l:List Tk)(depth:Nat)(p:PS)(up:Int)(root:Bool)(st:List Op)(e:E)(h:p.st.length<=depth):(fresh l depth p up root st e).2.st.length<=depth:=by
 unfold fresh;split
 ·exact h
 dsimp only;rw[gy];omega
theorem BB(l:List Tk)(depth:Nat)(p:PS)(en:E):(place l depth p en)=(match p.st.dropWhile (λo=>decide (en.fo<o.fo))with
 |[]=>if p.root=true then(7,p)else fresh l depth p p.doc true [] en
 |o::r=>
  if o.fo=en.fo then
   if o.kind=kindOf en then again l p o r en
   else if kindOf en=3 then(if o.has=true then(5,p)else fresh l depth p o.cur p.root ({o with has:=true}::r) en)
   else match r with
    |o2::r2=>if o2.fo=en.fo/\o2.kind=5 then again l p o2 r2 en else(5,p)
    |[]=>(5,p)
  else if o.has=true then(6,p)else fresh l depth p o.cur p.root ({o with has:=true}::r) en):=rfl
theorem Fa(l:List Tk)(depth:Nat)(p:PS)(en:E):(place l depth p en).2.s.d=p.s.d:=by
 rw[BB];split
 ·split
  ·rfl
  exact zW ..
 split
 ·split
  ·exact ID ..
  split
  ·split
   ·rfl
   exact zW ..
  split
  ·split
   ·exact ID ..
   rfl
  rfl
 split
 ·rfl
 exact zW ..
theorem BC(l:List Tk)(depth:Nat)(p:PS)(en:E)(h:p.st.length<=depth):(place l depth p en).2.st.length<=depth:=by
 have hd:=qI (λo=>decide (en.fo<o.fo)) p.st;rw[BB];split
 ·split
  ·exact h
  exact xg _ _ _ _ _ _ _ h
 rename_i o r hdw;rw[hdw,gy]at hd;split
 ·split
  ·show(_::r).length<=_;rw[gy];omega
  split
  ·split
   ·exact h
   exact xg _ _ _ _ _ _ _ h
  split
  ·rename_i o2 r2;rw[gy]at hd;split
   ·show(_::r2).length<=_;rw[gy];omega
   exact h
  exact h
 split
 ·exact h
 exact xg _ _ _ _ _ _ _ h
theorem zb(l:List Tk)(depth b:Nat):∀(es:List E)(p:PS)(up:Int),p.st.length<=depth->(places l depth b p up es).2.st.length<=depth
 |[],_,_,h=>h
 |en::es,p,up,h=>by
  rw[places];split
  ·exact zb l depth b es _ _ (BC l depth p en h)
  exact h
theorem BF(l:List Tk)(depth b:Nat):∀(es:List E)(p:PS)(up:Int),(places l depth b p up es).2.s.d.length<=p.s.d.length+1
 |[],_,_=>Au _
 |en::es,p,up=>by
  rw[places];split
  ·have:=BF l depth b es (place l depth p en).2 (zA (place l depth p en).2.st);rw[Fa]at this;exact this
  show(p.s.d++_).length<=_;rw[ig];exact fC _
theorem Fb(l:List Tk)(s:St)(up:Int)(a b code:Nat):(jo l s up a b code).d.length<=s.d.length+1:=by
 unfold jo;split
 ·show(s.d++_).length<=_;rw[ig];exact fC _
 exact Au _
theorem vK{l:List Tk}{B:Bs}{k e i depth:Nat}{p:PS}(h:OK l B k e p.s)(aa:e<=i)(hi:i<l.length):
 (value l (Rw.fE l) depth p k i).1.s.d.length<=p.s.d.length+l.length+1:=by
 have hlim:i<=limit l i/\limit l i<=l.length:=by
  have h1:=lg (λj=>raw l j !=20&&raw l j !=21) (l.length-i) i;have h2:=iM (λj=>raw l j !=20&&raw l j !=21) (l.length-i) i;unfold limit;omega
 have hv:=Fe.rf l (limit l i) l.length (by omega) (depth-p.st.length) k i p.s e h.ck (h.fits.le (by omega) (ji _)) h.lf h.no (by omega) hlim.1;unfold value rest;dsimp only;refine jN (Fb ..) ?_;rcases hv with⟨v1,_⟩|⟨next,s',v1,v2,v3,_,_,_,v7⟩
 ·rw[v1];dsimp only;omega
 rw[v1];dsimp only;omega
theorem IE(l:List Tk)(s:St)(up:Int)(f t code:Nat):(err l s up f t code).d.length=s.d.length+1:=by
 show(s.d++_).length=_;rw[ig];rfl
theorem tF(p:PS)(i:Nat):(gu p i).s.d=p.s.d:=by
 unfold gu;split<;>rfl
theorem qM(p:PS)(i depth:Nat)(h:p.st.length<=depth):(gu p i).st.length<=depth:=by
 unfold gu;split
 ·exact gG _
 exact h
theorem bare_eq(l:List Tk)(rs:List R)(depth:Nat)(p:PS)(r:R)(a b:Nat):bare l rs depth p r a b=(match p.st.dropWhile (λo=>decide (r.fo<=o.fo))with
 |[]=>if p.root=true then{p with s:=err l p.s (holder p) a b 7}
  else
   let v:=value l rs depth {p with st:=[]} p.doc a
   {v.1 with root:=v.2}
 |o::q=>if o.has=true then{p with s:=err l p.s (holder p) a b 7}
  else
   let v:=value l rs depth {p with st:=o::q} o.cur a
   {v.1 with st:={o with has:=v.2}::q}):=rfl
theorem Nq(l:List Tk)(rs:List R)(depth:Nat)(p:PS)(r:R)(a b:Nat)(h:p.st.length<=depth):(bare l rs depth p r a b).st.length<=depth:=by
 have hd:=qI (λo=>decide (r.fo<=o.fo)) p.st;rw[bare_eq];split
 ·split
  ·exact h
  exact gG _
 rename_i o q hdw;rw[hdw,gy]at hd;split
 ·exact h
 show(_::q).length<=_;rw[gy];omega
theorem PO{l:List Tk}{B:Bs}{a b depth:Nat}{p:PS}{r:R}(h:sS l B a p)(ha:a<l.length):(bare l (Rw.fE l) depth p r a b).s.d.length<=p.s.d.length+l.length+1:=by
 obtain⟨d,hd,hc,hh⟩:=h;obtain⟨hc',hh'⟩:=jT.drop (λo=>decide (r.fo<=o.fo)) hc hh;rw[bare_eq];cases hdw:p.st.dropWhile (λo=>decide (r.fo<=o.fo))with
 |nil=>
  rw[hdw]at hh';dsimp only;split
  ·show(err _ _ _ _ _ _).d.length<=_;rw[IE];omega
  obtain⟨m,e1,e2⟩:=hh';rw[hd,e1];exact vK (p:={p with st:=[]}) e2 (fC _) ha
 |cons o q=>
  rw[hdw]at hh';dsimp only;split
  ·show(err _ _ _ _ _ _).d.length<=_;rw[IE];omega
  rename_i ho;obtain⟨m,e1,e2⟩:=hh'.2 (by simpa using ho);rw[e1];exact vK (p:={p with st:=o::q}) e2 (fC _) ha
theorem Nr(l:List Tk)(rs:List R)(depth:Nat)(p:PS)(r:R):(mark l rs depth p r).st.length<=depth:=by
 unfold mark;dsimp only;split
 ·split
  ·exact gG _
  exact gG _
 exact gG _
theorem PQ{l:List Tk}{B:Bs}{e depth:Nat}{p:PS}{r:R}(h:Inv l B e p)(hr:l8 l r)(h4:r.kind=4)(he:e<=r.from'):(mark l (Rw.fE l) depth p r).s.d.length<=p.s.d.length+l.length+1:=by
 have hle:=hr.le;obtain⟨m1,m2⟩:=hr.mark h4;have hge:=jJ l r.from' r.au;unfold mark;dsimp only;obtain⟨a,ha⟩:=eX (lo l r.from' r.au);rw[ha]at m1 m2 hge⊢;by_cases h20:raw l a=20
 ·rw[eT h20];obtain⟨s',a1,_,a3,_,a6⟩:=Fe.iW (kind:=2) (f:=a) (t:=a+1) h.root (by omega) (by omega) (by omega) (by omega) (by omega);have a1:add p.s 0 2 a (a+1)=(s',(p.s.t.length:Int)):=a1;have hsd:s'.d=p.s.d:=by
   have:(add p.s 0 2 a (a+1)).1.d=p.s.d:=rfl;rw[a1]at this;exact this
  rw[a1];dsimp only;have a3':OK l B p.s.t.length (a+1) s':=a3.le (by omega) (by omega);have hb:=fQ l r.au (lo l (a+1) r.au);have aa:=jJ l (a+1) r.au;split
  ·rename_i hx;have:=vK (depth:=depth) (p:={p with s:=s',doc:=(p.s.t.length:Int),root:=false,st:=[]}) (i:=lo l (a+1) r.au) a3' aa (by omega);dsimp only at this⊢;rw[hsd]at this;exact this
  rw[hsd];omega
 rw[eQ h20];dsimp only;refine jN (Fb ..) ?_;split
 ·dsimp only;omega
 omega
theorem Ns(l:List Tk)(rs:List R)(depth:Nat)(p:PS)(r:R)(h:p.st.length<=depth):(body l rs depth p r).st.length<=depth:=by
 unfold body;dsimp only;have h1:=qM p (lo l r.from' r.au) depth h;split
 ·exact Nq _ _ _ _ _ _ _ h1
 have h2:=zb l depth (back l r.au (lo l r.from' r.au)) (Rw.lC l r).1 _ (holder (gu p (lo l r.from' r.au))) h1;split
 ·split
  ·split
   ·rename_i t k hst;rw[hst,gy]at h2;show(_::k).length<=_;rw[gy];omega
   exact h2
  exact h2
 exact h2
theorem PR{l:List Tk}{B:Bs}{e depth:Nat}{p:PS}{r:R}(ht:Rw.jl 0 l)(h:Inv l B e p)(hr:l8 l r)(h5:r.kind=5)(hB:B.1<=r.from')(he:e<=r.from'):
 (body l (Rw.fE l) depth p r).s.d.length<=p.s.d.length+l.length+2:=by
 have hlt:=hr.lt;have hle:=hr.le;have hlo:=hr.body h5;have hge:=jJ l r.from' r.au;have hcn:=wE l hlo;obtain⟨n1,n2,n3,n4⟩:=tq ht hr h5;unfold body;dsimp only;obtain⟨a,ha⟩:=eX (lo l r.from' r.au);rw[ha]at hlo hge hcn n1 n3⊢;obtain⟨b,hb⟩:=eX (back l r.au a);have hbl:=fQ l r.au a;have hbg:=pW l r.au a a (fC _) hlo hcn;rw[hb]at n1 hbl hbg⊢;obtain⟨o1,o2⟩:=nK h (i:=a) (by omega) (by omega);have hd1:=tF p a;obtain⟨p1,hp1⟩:=eX (gu p a);rw[hp1]at o1 o2 hd1⊢;obtain⟨es,hes⟩:=eX (Rw.lC l r);rw[hes]at n1 n2 n3 n4⊢;split
 ·have:=PO (r:=r) (b:=b) (depth:=depth) o1 (by omega);rw[hd1]at this;omega
 rename_i hne;have aa:=BF l depth b es.1 p1 (holder p1);obtain⟨e',k1,k2,k3,k4,k5⟩:=rG (depth:=depth) (b:=b) (by omega) es.1 a p1 (holder p1) o1 (by omega) rfl n1 (by omega);obtain⟨q,hq⟩:=eX (places l depth b p1 (holder p1) es.1);rw[hq]at k3 k4 k5 aa⊢;rw[hd1]at aa;split
 ·rename_i hall;split
  ·rename_i hx;obtain⟨_,m1,m2⟩:=k5 hall;obtain⟨t,k,m3,m4⟩:=m2 hne;have hlast:∃z,es.1.getLast?=some z:=by
    cases hz:es.1.getLast? with
    |none=>rw[LJ]at hz;exact absurd hz hne
    |some z=>exact⟨z,rfl⟩
   obtain⟨z,hz⟩:=hlast;have hrest:es.2=e':=by rw[n2 z hz,m1 z hz]
   have hxg:=jJ l es.2 r.au;have hxb:=fQ l r.au (lo l es.2 r.au);obtain⟨d,d1,d2,d3⟩:=k3;rw[m3]at d3⊢;dsimp only;obtain⟨m,e1,e2⟩:=d3.2 m4;rw[e1];have:=vK (depth:=depth) (p:=q.2) (i:=lo l es.2 r.au) e2 (by omega) (by omega);omega
  omega
 omega
theorem PT(l:List Tk)(rs:List R)(depth:Nat)(p:PS)(r:R)(h:p.st.length<=depth):(row l rs depth p r).st.length<=depth:=by
 unfold row;dsimp only;split
 ·exact Nr ..
 split
 ·exact Ns _ _ _ _ _ h
 split
 ·split
  ·exact qM {p with read:=r.au} _ depth h
  exact h
 exact h
theorem Q6{l:List Tk}{B:Bs}{depth:Nat}{p:PS}{r:R}(ht:Rw.jl 0 l)(h:Inv l B p.read p)(hr:l8 l r)(hB:B.1<=r.from')(he:p.read<=r.from'):
 (row l (Rw.fE l) depth p r).s.d.length<=p.s.d.length+l.length+2:=by
 have h0:Inv l B p.read {p with read:=r.au}:=h;unfold row;dsimp only;split
 ·rename_i h4;have:=PQ (depth:=depth) h0 hr h4 he;dsimp only at this;omega
 split
 ·rename_i h5;exact PR (p:={p with read:=r.au}) ht h0 hr h5 hB he
 split
 ·split
  ·show(err _ _ _ _ _ _).d.length<=_;rw[IE,tF];dsimp only;omega
  dsimp only;omega
 dsimp only;omega
end Ps
section
open Go.RowKit
open Sg
open Sq
theorem Nt(k:Nat)(w:World):
 Calls prog 86 #[.int .i64 k] w λe w'=>e=.returned (.bool (Rw.gF k))/\w=w':=by
 go_enter func86,ntmps86
 go_wp2;all_goals
  go_ret;refine⟨?_,rfl⟩;refine congrArg (λb=>Ending.returned (.bool b)) ?_;rw[uj];simp[Rw.gF]at*;try omega
theorem Ff(l:List Tk)(F M p:Nat)(x:Tk)(h:((l.drop F).take M)[p]?=some x):l[F+p]?=some x:=by
 have hp:p<M:=by
  have:=(fT.1 h).1;rw[jQ]at this;omega
 rw[LH,eT hp,qT]at h;exact h
theorem Q7(v:Value)(l:List Tk)(F M p:Nat)(w:World)(h:Reads iZ w v l)(hs:l.length<=1000000)(hM:F+M<=l.length)(hp:p<=M):
 Calls prog 85 #[v,.int .i64 (F+p:Nat),.int .i64 (F+M:Nat),.int .i64 3] w λe w'=>e=.returned (.int .i64 (F+(p+Rw.blanks (((l.drop F).take M).drop p)):Nat))/\w=w':=by
 obtain⟨a,cap,rfl⟩:=h.shape;have hlen:((l.drop F).take M).length=M:=by rw[jQ,iq];omega
 have hg:=Ff l F M;obtain⟨ts,hts⟩:=eX ((l.drop F).take M);rw[hts]at hlen hg⊢;have H:=eu (λj x (hj:ts[j]?=some x)=>iG h (F+j) x (hg j x hj));obtain⟨aa,ae⟩:=fD (Rw.GZ ts) (Rw.DL ts);obtain⟨T,hT⟩:=eX (p+Rw.blanks (ts.drop p));rw[hT];have HT:=eu hT;obtain⟨N,hN⟩:=eX (l.length);have HN:=eu hlen;rw[hN]at hs hM;rw[hN];clear h hN hT hg hts hlen
 go_enter func85,ntmps85
 go_wp2_with fail
 go_loopw [1] (λiv wr=>∃k:Nat,iv=.int .i64 (F+k:Nat)/\k<=M/\Hid (k+Rw.blanks (ts.drop k)=T)/\w=wr) (λiv _=>F+M-(intOf iv).toNat)
 case atStart=>exact⟨p,rfl,hp,HT,rfl⟩
 case round=>
  obtain⟨k,rfl,hk,HK,rfl⟩:=hrel;by_cases hlt:k<M
  ·obtain⟨x,hx⟩:=iT ts k (by rw[HN.out];exact hlt);obtain⟨b,off,rfl,c0,c1,c2⟩:=H.out k x hx;have hi:((F+k:Nat):Int)<((F+M:Nat):Int):=by omega
   have hi2:((F+k:Nat):Int)<(N:Int):=by omega
   have hb:=aa.out k x hx;obtain⟨K,hK⟩:=eX (x.1);rw[hK]at c0 hb;by_cases q:K=3
   ·rw[eT q]at hb;have af:=eu (show k+1+Rw.blanks (ts.drop (k+1))=T by have:=HK.out;rw[hb]at this;omega);have g:((K:Int)==3)=true:=by simp;omega
    clear hb hx hK H aa ae HK HT HN q;go_wp2_with fail
    go_roundw
    case rel=>exact⟨k+1,by go_num,by omega,af,trivial⟩
    case measure=>simp[intOf];omega
   rw[eQ q]at hb;obtain rfl:T=k:=by have:=HK.out;rw[hb]at this;omega
   have g:((K:Int)==3)=false:=by simp;omega
   clear hb hx hK H aa ae HK HT HN q;go_wp2_with fail
   go_ret;exact⟨by go_num,rfl⟩
  obtain rfl:k=M:=by omega
  have hne:¬(((F+k:Nat):Int)<((F+k:Nat):Int)):=by omega
  obtain rfl:T=k:=by have:=HK.out;rw[ae.out k (by rw[HN.out];exact fC _)]at this;omega
  clear aa ae HK HT HN H hlt;go_wp2_with fail
  go_ret;exact⟨by go_num,rfl⟩
end
end Go.Proofs.YtfbiffdmhcjhbaaGreat

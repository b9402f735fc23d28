import Derived.Test.YtfbiffdmhcjhbaaGreatZa16
import Derived.Deep.RegionLaw
import Derived.Deep.RegionWith
set_option linter.all false
set_option maxHeartbeats 16000000
set_option maxRecDepth 100000
set_option synthInstance.maxSize 4000
set_option synthInstance.maxHeartbeats 0
namespace Go.Proofs.YtfbiffdmhcjhbaaGreat
open Go.RowKit Tryz
def QC:=@wp_region_held_drew
def OW:=@wpAnyH_done
section
open Go.RowKit
open Sg
open Sq
def lM(w:World)(a:Nat)(B v:Value)(at' row op base text:Int)(olyX:Bool):Prop:=
 w.heap[a]?=some (.cells #[B,.int .i64 at',.int .i64 row,.int .i64 op,.int .i64 base,.bool olyX,.int .i64 text,v] 79 (0,0))
section
variable {w w':World}{a:Nat}{B v:Value}{at' row op base text:Int}{olyX:Bool}
theorem lM.c(h:lM w a B v at' row op base text olyX):w.cell? ⟨a,0,none⟩=some B/\w.cell? ⟨a,1,none⟩=some (.int .i64 at')/\w.cell? ⟨a,2,none⟩=some (.int .i64 row)/\w.cell? ⟨a,3,none⟩=some (.int .i64 op)/\w.cell? ⟨a,4,none⟩=some (.int .i64 base)/\w.cell? ⟨a,5,none⟩=some (.bool olyX)/\w.cell? ⟨a,6,none⟩=some (.int .i64 text)/\w.cell? ⟨a,7,none⟩=some v:=
 ⟨(gQ h 0).trans rfl,(gQ h 1).trans rfl,(gQ h 2).trans rfl,(gQ h 3).trans rfl,(gQ h 4).trans rfl,(gQ h 5).trans rfl,(gQ h 6).trans rfl,(gQ h 7).trans rfl⟩
theorem lM.f(h:lM w a B v at' row op base text olyX)(o:Nat):w.frozen? ⟨a,o,none⟩=false:=rW h o
theorem lM.lt(h:lM w a B v at' row op base text olyX):a<w.heap.size:=(Ls.1 h).1
theorem lM.below(h:lM w a B v at' row op base text olyX)(hb:Below w.heap.size w w'):lM w' a B v at' row op base text olyX:=(hb.block a h.lt).trans h
theorem lM.grown{r:Option Nat}(h:lM w a B v at' row op base text olyX)(hg:w.grownBy w' r)(hne:r≠some a):lM w' a B v at' row op base text olyX:=(hg.block a h.lt (λe=>hne e.symm)).trans h
theorem lM.set1(h:lM w a B v at' row op base text olyX)(u:Int):lM (w.setCell ⟨a,1,none⟩ (.int .i64 u)) a B v u row op base text olyX:=mr h _
theorem lM.set2(h:lM w a B v at' row op base text olyX)(u:Int):lM (w.setCell ⟨a,2,none⟩ (.int .i64 u)) a B v at' u op base text olyX:=mr h _
theorem lM.OX(h:lM w a B v at' row op base text olyX)(u:Int):lM (w.setCell ⟨a,3,none⟩ (.int .i64 u)) a B v at' row u base text olyX:=mr h _
theorem lM.Ma(h:lM w a B v at' row op base text olyX)(u:Int):lM (w.setCell ⟨a,4,none⟩ (.int .i64 u)) a B v at' row op u text olyX:=mr h _
theorem lM.Mb(h:lM w a B v at' row op base text olyX)(u:Bool):lM (w.setCell ⟨a,5,none⟩ (.bool u)) a B v at' row op base text u:=mr h _
theorem lM.Mc(h:lM w a B v at' row op base text olyX)(u:Int):lM (w.setCell ⟨a,6,none⟩ (.int .i64 u)) a B v at' row op base u olyX:=mr h _
theorem lM.QD(h:lM w a B v at' row op base text olyX)(u:Value):lM (w.setCell ⟨a,7,none⟩ u) a B u at' row op base text olyX:=mr h u
end
def AJ(a:Nat)(B:Value)(T C k row op:Nat)(base text:Int)(olyX:Bool)(l':List Tk)(w w':World):Prop:=
 ∃v2 aa,lM w' a B v2 T row op aa text (olyX&&Sc.leaves k)/\Row w' a v2 l'/\Below a w w'/\aa=if base=-1/\Sc.counts k=true/\k≠19 then(C:Int)else base
theorem yB(k T C at' row op:Nat)(base text:Int)(olyX:Bool)(a:Nat)(B v:Value)(l:List Tk)(w:World)(hM:lM w a B v at' row op base text olyX)(hO:Row w a v l)(hC:row+C=at')(ha:T<=100000)(hat:at'<=100000)(hl:l.length<=100000)(hb1:-1<=base):
 Calls prog 38 #[.pointer (some ⟨a,0,none⟩),.int .i64 k,.int .i64 T] w λe w'=>e=.returned (.tuple #[])/\AJ a B T C k row op base text olyX (l++[(k,at',T)]) w w':=by
 obtain⟨c0,c1,c2,c3,c4,c5,c6,c7⟩:=hM.c;have ah:((at':Int)-(row:Int))=(C:Int):=by omega
 have hcw:IntKind.i64.wrap (C:Int)=(C:Int):=jC _ (by omega);have hne:v.ownBlock≠some a:=λe=>by have:=(hO.lt a e).1;omega
 obtain⟨ak,aj,aF,aC,az⟩:=xZ hM hO hne hM.lt (rF k w);obtain⟨cn,hcn⟩:=eX (Sc.counts k);rw[hcn]at az;obtain⟨D,hD⟩:=eX (decide (base=-1/\cn=true/\k≠19));obtain⟨aa,ai⟩:∃aa,aa=if D=true then(C:Int)else base:=⟨_,rfl⟩
 obtain⟨ae,ay⟩:∃ae,ae=(olyX&&Sc.leaves k):=⟨_,rfl⟩
 have aO:=eu (show aa=if base=-1/\Sc.counts k=true/\k≠19 then(C:Int)else base by
  rw[ai,<-hD,hcn];simp only[Ic])
 obtain⟨HD,HB2,av,HL⟩:=jk hD ai ay hl;clear hM hO hne hcn hD ai ay hC hl c0 c3 c6
 go_enter func38,ntmps38
 go_upto_region 0 with fail
 go_cut [18] (λq wx=>q=.bool D/\w=wx)
 case first=>
  cases cn with
  |false=>
   have HE:=eu (show D=false by rw[<-HD.out];simp);clear ah hcw;go_wp2_with fail
   refine az.out.mono ?_;rintro e w1 ⟨rfl,rfl⟩;go_wp2_with fail
   go_meet
   exact⟨by rw[HE.out],rfl⟩
  |true=>
   by_cases k1:k=19
   ·have g1:((k:Int) !=19)=false:=by simp;omega
    have HE:=eu (show D=false by rw[<-HD.out];simp[k1]);clear ah hcw k1;go_wp2_with fail
    refine az.out.mono ?_;rintro e w1 ⟨rfl,rfl⟩;go_wp2_with fail
    go_meet
    exact⟨by rw[HE.out],rfl⟩
   have g1:((k:Int) !=19)=true:=by simp;omega
   by_cases b1:base<0
   ·have HE:=eu (show D=true by rw[<-HD.out];exact iO ⟨by omega,rfl,k1⟩);clear ah hcw k1;go_wp2_with fail
    refine az.out.mono ?_;rintro e w1 ⟨rfl,rfl⟩;go_wp2_with fail
    go_meet
    exact⟨by rw[HE.out],rfl⟩
   have HE:=eu (show D=false by rw[<-HD.out];exact iF (by omega));have HB3:=eu (iF b1);clear ah hcw k1;go_wp2_with fail
   refine az.out.mono ?_;rintro e w1 ⟨rfl,rfl⟩;go_wp2_with fail
   go_meet
   exact⟨by rw[HE.out,HB3.out],rfl⟩
 case rest=>
 obtain⟨rfl,rfl⟩:=hcut
 go_upto_if 18 with fail
 go_cut [] (λwx=>lM wx a B v at' row op aa text olyX/\Row wx a v l/\Below a w wx)
 case first=>
  cases D with
  |true=>
   have HE:=eu (show aa=(C:Int)by rw[HB2.out,eT rfl]);go_wp2_with fail
   refine QC (S:=λwx=>wx.cell? ⟨a,1,none⟩=some (.int .i64 at')/\wx.cell? ⟨a,2,none⟩=some (.int .i64 row)) (by kernel_rfl) (⟨c1,c2⟩) (λhH=>?_);refine sQ 0 (.pointer (some ⟨a,0,none⟩)) rfl (by kernel_rfl) rfl eY (λW hW=>by go_simp) hH ?_;refine sQ 1 (.pointer (some ⟨a,0,none⟩)) rfl (by kernel_rfl) rfl eY (λW hW=>by go_simp) hH ?_;refine sQ 2 (.pointer (some ⟨a,0,none⟩)) rfl (by kernel_rfl) rfl eY (λW hW=>by go_simp) hH ?_;refine sQ 3 (.pointer (some ⟨a,1,none⟩)) rfl (by kernel_rfl) rfl eY (λW hW=>by go_simp) hH ?_;refine sQ 4 (.int .i64 at') rfl (by kernel_rfl) rfl eY (λW hW=>?_) hH ?_
   ·obtain⟨z1,z2⟩:=hW;go_simp
   refine sQ 5 (.pointer (some ⟨a,0,none⟩)) rfl (by kernel_rfl) rfl eY (λW hW=>by go_simp) hH ?_;refine sQ 6 (.pointer (some ⟨a,0,none⟩)) rfl (by kernel_rfl) rfl eY (λW hW=>by go_simp) hH ?_;refine sQ 7 (.pointer (some ⟨a,2,none⟩)) rfl (by kernel_rfl) rfl eY (λW hW=>by go_simp) hH ?_;refine sQ 8 (.int .i64 row) rfl (by kernel_rfl) rfl eY (λW hW=>?_) hH ?_
   ·obtain⟨z1,z2⟩:=hW;go_simp
   refine sQ 9 (.int .i64 C) rfl (by kernel_rfl) rfl eY (λW hW=>by go_simp) hH ?_;refine sQ 10 (.pointer (some ⟨a,0,none⟩)) rfl (by kernel_rfl) rfl eY (λW hW=>by go_simp) hH ?_;refine sQ 11 (.pointer (some ⟨a,4,none⟩)) rfl (by kernel_rfl) rfl eY (λW hW=>by go_simp) hH ?_;refine Oc 12 (by kernel_rfl) rfl λK hK=>?_
   have c4:=ak.out.c.2.2.2.2.1;have f4:=ak.out.f 4;go_simp;refine hK.out _ _ (⟨wB (o:=4) (by decide) c1,wB (o:=4) (by decide) c2⟩) (λhH2=>?_);clear hK K;try simp only[Act.put,fF,fH,fG]
   refine OW (by kernel_rfl) ?_ _;go_wp2_with fail
   go_meet
   exact⟨by rw[HE.out];exact ak.out.Ma _,jE aj.out 4 _,iC ((fu a w).drew) (fC a) 4 _⟩
  |false=>
   have HE:=eu (show aa=base by rw[HB2.out,eQ (by simp)]);clear ah hcw;go_wp2_with fail
   go_meet
   exact⟨by rw[HE.out];exact ak.out,aj.out,fu _ _⟩
 case rest=>
 obtain⟨af,hOb,hBb⟩:=hcut;obtain⟨aG,aH,aI⟩:=gW af hOb hBb;obtain⟨c0,c1,c2,c3,c4,c5,c6,c7⟩:=af.c;have f5:=af.f 5;clear af hOb hBb ak aj az HD HB2 c0 c2 c3 c4 c6 ah hcw;obtain⟨NL,aP⟩:=eX ((!Sc.leaves k));have ax:=eu aP;clear aP;go_upto_region 2 with fail
 go_cut [44] (λq wx=>q=.bool NL/\wc=wx)
 case first=>
  by_cases k1:k=2
  ·have g1:((k:Int) !=2)=false:=by simp;omega
   have HE:=eu (show NL=false by rw[<-ax.out,k1];rfl);clear k1;go_wp2_with fail
   go_meet
   exact⟨by rw[HE.out],rfl⟩
  have g1:((k:Int) !=2)=true:=by simp;omega
  by_cases k2:k=3
  ·have g2:((k:Int) !=3)=false:=by simp;omega
   have HE:=eu (show NL=false by rw[<-ax.out,k2];rfl);clear k1 k2;go_wp2_with fail
   go_meet
   exact⟨by rw[HE.out],rfl⟩
  have g2:((k:Int) !=3)=true:=by simp;omega
  by_cases k3:k=5
  ·have g3:((k:Int) !=5)=false:=by simp;omega
   have HE:=eu (show NL=false by rw[<-ax.out,k3];rfl);clear k1 k2 k3;go_wp2_with fail
   go_meet
   exact⟨by rw[HE.out],rfl⟩
  have g3:((k:Int) !=5)=true:=by simp;omega
  by_cases k4:k=20
  ·have g4:((k:Int) !=20)=false:=by simp;omega
   have HE:=eu (show NL=false by rw[<-ax.out,k4];rfl);clear k1 k2 k3 k4;go_wp2_with fail
   go_meet
   exact⟨by rw[HE.out],rfl⟩
  have g4:((k:Int) !=20)=true:=by simp;omega
  have HE:=eu (show NL=true by rw[<-ax.out];simp[Sc.leaves,k1,k2,k3,k4]);clear k1 k2 k3 k4;go_wp2_with fail
  go_meet
  exact⟨by rw[HE.out],rfl⟩
 case rest=>
 obtain⟨rfl,rfl⟩:=hcut
 go_upto_if 44 with fail
 go_cut [] (λwx=>lM wx a B v at' row op aa text ae/\Row wx a v l/\Below a w wx)
 case first=>
  cases NL with
  |true=>
   have HE:=eu (show ae=false by rw[av.out,show Sc.leaves k=false by simpa using ax.out];simp);go_wp2_with fail
   go_meet
   exact⟨by rw[HE.out];exact aG.out.Mb _,jE aH.out 5 _,iC aI.out (fC a) 5 _⟩
  |false=>
   have HE:=eu (show ae=olyX by rw[av.out,show Sc.leaves k=true by simpa using ax.out];simp);go_wp2_with fail
   go_meet
   exact⟨by rw[HE.out];exact aG.out,aH.out,aI.out⟩
 case rest=>
 clear aG aH aI c1 c5 c7 f5;obtain⟨af,hOb,hBb⟩:=hcut;generalize wc=W at*;obtain⟨ak,aj,aQ⟩:=gW af hOb hBb;have hlt:=af.lt;have hne0:a≠W.heap.size:=by omega
 have aA:=eu (Mt W.drew (k,at',T) 73);have aD:=af.below ((fu W.heap.size W).drew.alloc (fC _) (.cells #[.int .i64 k,.int .i64 at',.int .i64 (T:Nat)] 73));have aJ:=eu aD;have aK:=eu ((fu W.heap.size W).drew.alloc (fC _) (.cells #[.int .i64 k,.int .i64 at',.int .i64 (T:Nat)] 73));have d7:W.drew.cell? ⟨a,7,none⟩=some v:=af.c.2.2.2.2.2.2.2;have d1:W.drew.cell? ⟨a,1,none⟩=some (.int .i64 at'):=af.c.2.1;have x1:=aD.c.2.1;have x7:=aD.c.2.2.2.2.2.2.2;have x3:=(af.below (eZ W (.cells #[.int .i64 k,.int .i64 at',.int .i64 (T:Nat)] 73))).c.2.2.2.2.2.2.2;have aC:=eu hlt;have hl3:a+1<=(W.drew.alloc (.cells #[.int .i64 k,.int .i64 at',.int .i64 (T:Nat)] 73)).heap.size:=by simp;omega
 have aL:=eu (show l.length+1<=maxLen by have:=HL.out;unfold maxLen;omega);have HL2:=eu (show(l.length+1)*24<=140737488355328 by have:=HL.out;omega);have aB:=eu hl3;have aM:=eu (show Row (W.drew.alloc (.cells #[.int .i64 k,.int .i64 at',.int .i64 (T:Nat)] 73)) a v l from World.ownsRow.alloc (w:=W.drew) aj.out _);clear af hOb hBb hlt aD hl3;go_upto_region 4 with fail
 go_cut [] (λwx=>∃v2,lM wx a B v2 at' row op aa text ae/\Row wx a v2 (l++[((k,at',T):Tk)])/\Below a W wx)
 case first=>
  go_wp2_with fail
  refine QC (S:=λwx=>wx.cell? ⟨a,1,none⟩=some (.int .i64 at')) (by kernel_rfl) (d1) (λhH=>?_);refine sQ 0 (.pointer (some ⟨a,0,none⟩)) rfl (by kernel_rfl) rfl eY (λW hW=>by go_simp) hH ?_;refine sQ 1 (.pointer (some ⟨a,0,none⟩)) rfl (by kernel_rfl) rfl eY (λW hW=>by go_simp) hH ?_;refine sQ 2 (.pointer (some ⟨a,0,none⟩)) rfl (by kernel_rfl) rfl eY (λW hW=>by go_simp) hH ?_;refine sQ 3 (.pointer (some ⟨a,7,none⟩)) rfl (by kernel_rfl) rfl eY (λW hW=>by go_simp) hH ?_;refine sQ 5 (.int .i64 k) rfl (by kernel_rfl) rfl eY (λW hW=>by go_simp) hH ?_;refine sQ 6 (.pointer (some ⟨a,0,none⟩)) rfl (by kernel_rfl) rfl eY (λW hW=>by go_simp) hH ?_;refine sQ 7 (.pointer (some ⟨a,0,none⟩)) rfl (by kernel_rfl) rfl eY (λW hW=>by go_simp) hH ?_;refine sQ 8 (.pointer (some ⟨a,1,none⟩)) rfl (by kernel_rfl) rfl eY (λW hW=>by go_simp) hH ?_;refine sQ 9 (.int .i64 at') rfl (by kernel_rfl) rfl eY (λW hW=>by go_simp) hH ?_;refine sQ 10 (.int .i64 (T:Nat)) rfl (by kernel_rfl) rfl eY (λW hW=>by go_simp) hH ?_;refine sQ 11 (.agg #[.int .i64 k,.int .i64 at',.int .i64 (T:Nat)]) rfl (by kernel_rfl) rfl eY (λW hW=>by go_simp) hH ?_;refine wpAnyH_ready (rs:=[4,12]) (by kernel_rfl) (by simp) ?_;refine OU (o:=⟨_,_,_,_,_,_⟩) rfl (λK hK=>?_) (OU (o:=⟨_,_,_,_,_,_⟩) rfl (λK hK=>?_) (AllReadyH.nil))
  ·skip
   go_simp;refine hK.out _ _ (d1) (λhH2=>?_);clear hK K;try simp only[Act.put,fF,fH,fG]
   refine Oc 12 (by kernel_rfl) rfl λK hK=>?_
   go_simp;refine hK.out _ _ (x1) (λhH2=>?_);clear hK K;try simp only[Act.put,fF,fH,fG]
   refine Oc 13 (by kernel_rfl) rfl λK hK=>?_
   refine oZ RH rfl (.tmp 52) (.tmp 60) rfl (a+1) v l rfl aM.out W.heap.size 1 [((k,at',T):Tk)] rfl rfl aA.out aL.out HL2.out aB.out ?_;intro v2 w2 hown2 hg2;obtain⟨a2,cap2,rfl⟩:=(Reads.fJ (E:=iZ) hown2).shape;have ag:=eu (aJ.out.grown hg2 aF.out);have y1:=ag.out.c.2.1;have y7:=ag.out.c.2.2.2.2.2.2.2;have y3:=ag.out.f 7;obtain⟨av,aN⟩:=fD hown2 hg2;clear hown2 hg2;refine hK.out _ _ (y1) (λhH2=>?_);clear hK K;try simp only[Act.put,fF,fH,fG]
   refine sQ 14 (.pointer (some ⟨a,0,none⟩)) rfl (by kernel_rfl) rfl eY (λW hW=>by go_simp) hH2 ?_;refine sQ 15 (.pointer (some ⟨a,7,none⟩)) rfl (by kernel_rfl) rfl eY (λW hW=>by go_simp) hH2 ?_;refine Oc 16 (by kernel_rfl) rfl λK hK=>?_
   go_simp;refine hK.out _ _ (wB (o:=7) (by decide) y1) (λhH2=>?_);clear hK K;try simp only[Act.put,fF,fH,fG]
   refine OW (by kernel_rfl) ?_ _;go_wp2_with fail
   go_meet
   exact⟨_,ag.out.QD _,(by rw[show l.length+1=(l++[((k,at',T):Tk)]).length from by simp];exact jE av.out 7 _),iC (Below.grown (aK.out.mono (uX aC.out)) aN.out (LU aB.out) (λq hq=>LU (aj.out.lt q hq).1)) (fC a) 7 _⟩
  skip
  go_simp;refine hK.out _ _ (x1) (λhH2=>?_);clear hK K;try simp only[Act.put,fF,fH,fG]
  refine Oc 4 (by kernel_rfl) rfl λK hK=>?_
  go_simp;refine hK.out _ _ (x1) (λhH2=>?_);clear hK K;try simp only[Act.put,fF,fH,fG]
  refine Oc 13 (by kernel_rfl) rfl λK hK=>?_
  refine oZ RH rfl (.tmp 52) (.tmp 60) rfl (a+1) v l rfl aM.out W.heap.size 1 [((k,at',T):Tk)] rfl rfl aA.out aL.out HL2.out aB.out ?_;intro v2 w2 hown2 hg2;obtain⟨a2,cap2,rfl⟩:=(Reads.fJ (E:=iZ) hown2).shape;have ag:=eu (aJ.out.grown hg2 aF.out);have y1:=ag.out.c.2.1;have y7:=ag.out.c.2.2.2.2.2.2.2;have y3:=ag.out.f 7;obtain⟨av,aN⟩:=fD hown2 hg2;clear hown2 hg2;refine hK.out _ _ (y1) (λhH2=>?_);clear hK K;try simp only[Act.put,fF,fH,fG]
  refine sQ 14 (.pointer (some ⟨a,0,none⟩)) rfl (by kernel_rfl) rfl eY (λW hW=>by go_simp) hH2 ?_;refine sQ 15 (.pointer (some ⟨a,7,none⟩)) rfl (by kernel_rfl) rfl eY (λW hW=>by go_simp) hH2 ?_;refine Oc 16 (by kernel_rfl) rfl λK hK=>?_
  go_simp;refine hK.out _ _ (wB (o:=7) (by decide) y1) (λhH2=>?_);clear hK K;try simp only[Act.put,fF,fH,fG]
  refine OW (by kernel_rfl) ?_ _;go_wp2_with fail
  go_meet
  exact⟨_,ag.out.QD _,(by rw[show l.length+1=(l++[((k,at',T):Tk)]).length from by simp];exact jE av.out 7 _),iC (Below.grown (aK.out.mono (uX aC.out)) aN.out (LU aB.out) (λq hq=>LU (aj.out.lt q hq).1)) (fC a) 7 _⟩
 case rest=>
  obtain⟨v2,hM2,hO2,hB2⟩:=hcut;obtain⟨ag,aR,HB3⟩:=gW hM2 hO2 (aQ.out.trans hB2);obtain⟨c0,c1,c2,c3,c4,c5,c6,c7⟩:=hM2.c;have f1:=hM2.f 1;clear hM2 hO2 hB2 ak aj aA aJ aK aL HL2 aB aF aC aM d1 d7 x1 x7 x3 hne0 c0 c2 c3 c4 c5 c6 c7;go_wp2_with fail
  go_end0
  exact⟨rfl,v2,aa,by rw[<-av.out];exact ag.out.set1 T,jE aR.out 1 _,iC HB3.out (fC a) 1 _,aO.out⟩
end
section
open Go.RowKit
open Sg
open Sq
theorem J9{w:World}{b off cap n:Nat}(hn:n<=16384):
 Calls prog 57 #[.slice (some ⟨b,off,none⟩) n cap,.int .i64 n] w λe w'=>e=.returned (.int .i64 (0:Nat))/\w=w':=by
 go_enter func57,ntmps57
 go_wp2_with fail
 go_ret;exact⟨rfl,rfl⟩
theorem Ka{w:World}{b off cap n:Nat}{L:List Nat}(i:Nat)(hi:i<=n)(hn:L.length=n)(hm:n<=16384)(hT:r9 w b off L):
 Calls prog 57 #[.slice (some ⟨b,off,none⟩) n cap,.int .i64 i] w λe w'=>e=.returned (.int .i64 (Sc.kF (L.drop i)))/\w=w':=by
 rcases gY L i with⟨h1,h2⟩|⟨c,t,h1,h2,h3⟩
 ·obtain rfl:i=n:=by omega
  rw[h1];exact J9 hm
 rw[h1];exact ru i c t hn (by omega) hT h1
theorem wW(a:Nat)(B v:Value)(at' row op base text:Int)(olyX:Bool)(w:World)(hM:lM w a B v at' row op base text olyX):
 Calls prog 36 #[.pointer (some ⟨a,0,none⟩)] w λe w'=>e=.returned (.tuple #[])/\w'=((w.setCell ⟨a,2,none⟩ (.int .i64 at')).setCell ⟨a,4,none⟩ (.int .i64 (-1))).setCell ⟨a,5,none⟩ (.bool true):=by
 obtain⟨c0,c1,c2,c3,c4,c5,c6,c7⟩:=hM.c;have f2:=hM.f 2;have f4:=hM.f 4;have f5:=hM.f 5;clear hM c0 c3 c6 c7
 go_enter func36,ntmps36
 go_wp2_with fail
 go_end0
 exact⟨rfl,rfl⟩
def lL(L:List Nat)(aa:List Tk)(a:Nat)(B:Value)(w:World)(p:Nat):Prop:=
 ∃(v:Value)(row:Nat)(l:List Tk)(st:Sc.St),lM w a B v p row st.op st.base (st.least-1) st.dash/\Row w a v l/\Sc.bu L aa l st p/\row+st.fo=p
theorem lL.fresh{L:List Nat}{aa l:List Tk}{a:Nat}{B v:Value}{w:World}{p op:Nat}(h:lM w a B v p p op (-1) (-2) true)(hO:Row w a v l)(hG:Sc.bu L aa l (Sc.fresh op (-1)) p):lL L aa a B w p:=
 ⟨v,p,l,Sc.fresh op (-1),by show lM w a B v p p op (-1) (-1-1) true;exact h,hO,hG,sO p⟩
theorem M5(D:List Nat):Sc.run Sc.blk D=Sc.run Sc.qw D+Sc.run Sc.blk (D.drop (Sc.run Sc.qw D)):=by
 induction D with
 |nil=>rfl
 |cons c t ih=>
  cases h:Sc.qw c with
  |true=>
   have hb:Sc.blk c=true:=by simp[Sc.qw,Sc.blk]at*;exact .inl h
   rw[Sc.iH,Sc.iH,eT hb,eT h,Hw,ih];omega
  |false=>rw[Sc.iH Sc.qw,eQ (by rw[h];simp)];simp
theorem Kb{L:List Nat}{aa l:List Tk}{op:Nat}{least:Int}{p:Nat}(h:Sc.qB L aa l op least p)(hd:L.drop p=[]):Sc.bu L aa l (Sc.fresh op (-1)) p:=by
 refine⟨?_,λ_=>rfl,h.op,⟨ji _,by show(-1:Int)<=(p:Int);omega⟩,ji _,h.len,gG _,λhc=>absurd rfl hc⟩;have:=h.tot;rw[hd]at this⊢;exact this
theorem M6(least:Int)(D:List Nat)(h0:0<=least)(hm:Sc.markT D=0):Sc.isText least (Sc.fO D)=true↔¬(Sc.run Sc.blk D<Sc.gL D/\(Sc.run Sc.qw D:Int)<=least-1):=by
 have h1:=Sc.tO Sc.blk Sc.rq D;unfold Sc.isText;rw[Sc.nI,Sc.l5 _ Sc.rq,Sc.l5 _ Sc.zQ,Sc.iV,Ic];constructor
 ·rintro⟨-,-,h⟩;omega
 intro h;exact⟨by omega,hm,by omega⟩
theorem Gv(least:Int)(D:List Nat)(hm:Sc.markT D≠0):Sc.isText least (Sc.fO D)=false:=by
 unfold Sc.isText;rw[Sc.nI];simp[hm]
end
section
open Go.RowKit
open Sg
open Sq
theorem r9.low{w w':World}{b off a:Nat}{L:List Nat}(h:r9 w b off L)(hb:Below a w w')(hab:b<a):r9 w' b off L:=λj c hj=>by
 rw[hb.cell (p:=⟨b,off+j,none⟩) hab];exact h j c hj
theorem PK(a b off cap n op:Nat)(bs:Int)(hbs:-1<=bs)(L:List Nat)(ai l0:List Tk)(p0:Nat)(v0:Value)(w:World)(hn:L.length=n)(hm:n<=16384)(hab:b<a)(hp0:p0<=n)
 (hM:lM w a (.slice (some ⟨b,off,none⟩) n cap) v0 p0 p0 op (-1) bs true) (hO:Row w a v0 l0) (hG:Sc.qB L ai l0 op (bs+1) p0) (hT:r9 w b off L):
 Calls prog 58 #[.pointer (some ⟨a,0,none⟩)] w λe w'=>e=.returned (.tuple #[])/\∃p',p0<=p'/\p'<=n/\lL L ai a (.slice (some ⟨b,off,none⟩) n cap) w' p'/\Below a w w':=by
 obtain⟨B,hB⟩:=eX (Value.slice (some ⟨b,off,none⟩) n cap);rw[hB]at hM⊢;obtain⟨c0,c1,c2,c3,c4,c5,c6,c7⟩:=hM.c;have f6:=hM.f 6;have aA:=eu (hM.Mc (-2));have aB:=eu (jE hO 6 (.int .i64 (-2)));have HB0:=eu (iC (fu a w) (fC a) 6 (.int .i64 (-2)));obtain⟨aC,HT,HN,aP⟩:=jk hG hT hn hB;clear hM hO hG hT hn hB c0 c1 c2 c3 c4 c5 c7
 go_enter func58,ntmps58
 go_wp2_with fail
 go_loopg [] n (λgf wr=>∃(v:Value)(l:List Tk)(p:Nat),Hid (lM wr a B v p p op (-1) (-2) true)/\Hid (Row wr a v l)/\Hid (Sc.qB L ai l op (bs+1) p)/\Hid (Below a w wr)/\p0<=p/\p<=n/\n<=p+gf)
 case atStart=>exact⟨v0,l0,p0,aA,aB,aC,HB0,fC _,hp0,by omega⟩
 case round=>
  obtain⟨v,l,p,HM,HO,HG,HB,hp1,hp2,hgf⟩:=hrel;clear aA aB HB0 aC c6 f6;obtain⟨c0,c1,c2,c3,c4,c5,c6,c7⟩:=HM.out.c;rw[<-aP.out]at c0;clear c2 c3 c4 c5 c6 c7;by_cases hpn:p<n
  ·have i1:(p:Int)<(n:Int):=by omega
   have ak:=eu (HT.out.low HB.out hab);have aa:=eu (λk=>gB (fu wr.heap.size wr) k);have hmk:=λW (hb:Below wr.heap.size wr W)=>NY (w:=W) (a:=a) (cap:=cap) p HN.out hm hpn (fe hb c0) (ak.out.below hb)
   obtain⟨mk,ae⟩:=eX (Sc.markT (L.drop p));rw[ae]at hmk;obtain⟨aD,av⟩:=fD hmk ae;clear hmk ae;go_wp2_with fail
   go_big_quiet (exact(aD.out _ (aa.out _)).mono λ_ _ h=>⟨h.1,_,h.2.symm⟩)
   have hbq:=aa.out nq;have c0:=fe hbq c0;have c1:=fe hbq c1;have af:=eu (HM.out.below hbq);have ag:=eu (show Row (wr.drewN nq) a v l from fI HO.out hbq);have HB1:=eu (HB.out.wP (fC a) (hbq.mono (uX HM.out.lt)));have aj:=eu (ak.out.below hbq);clear hbq aD aa ak HM HO HB;generalize wr.drewN nq=W at*;by_cases hmz:mk=0
   ·subst hmz;obtain⟨D,hD⟩:=eX (L.drop p);have hDl:D.length=n-p:=by rw[<-hD,iq,HN.out]
    have hrl:=Sc.kC D;have hs1:=Sc.tO _ Sc.zQ D;have hs2:=Sc.tO _ Sc.rq D;have hs3:=M5 D;obtain⟨rn,hrn⟩:=eX (Sc.gL D);obtain⟨sp,hsp⟩:=eX (Sc.run Sc.qw D);obtain⟨bl,hbl⟩:=eX (Sc.run Sc.blk D);rw[hrn]at hrl hs1 hs2;rw[hsp]at hs1 hs3;rw[hbl]at hs2 hs3;obtain⟨E,hE⟩:=eX (p+rn);obtain⟨N1,hN1⟩:=eX (p+sp);obtain⟨M1,hM1⟩:=eX (p+bl);have aQ:E<=n:=by omega
    have aF:N1<=E:=by omega
    have bf:p<=E:=by omega
    have aX:M1<=E:=by omega
    have aY:N1<=M1:=by omega
    have aG:=eu (zS (w:=W) (a:=a) (cap:=cap) p E HN.out hm hp2 (by rw[hD,hrn];exact hE) c0 aj.out);have HS2:=eu (show p+Sc.run Sc.qw (L.drop p)=N1 by rw[hD,hsp];exact hN1);have aH:=eu (show N1+Sc.run Sc.blk (L.drop N1)=M1 by rw[<-hN1,<-lH,hD];omega);have hti:=M6 (bs+1) D (by omega) (by rw[<-hD];exact av.out);rw[hbl,hrn,hsp,show bs+1-1=bs by omega]at hti;have ax:=eu (show Sc.isText (bs+1) (Sc.fO (L.drop p))=true↔¬(M1<E/\(sp:Int)<=bs)by rw[hD,hti];omega);obtain⟨Bk,ay⟩:=eX (Sc.kF (L.drop E));have hBr:=Ka (w:=W) (b:=b) (off:=off) (cap:=cap) E aQ HN.out hm aj.out;have hB2:=Bg (L.drop E);rw[ay]at hBr hB2;have aR:=eu hBr;have aS:=eu (show Sc.gL (L.drop p)+Sc.kF ((L.drop p).drop (Sc.gL (L.drop p)))=rn+Bk by rw[hD,hrn,<-ay,<-hE,<-lH,hD]);have e1:(N1:Int)-(p:Int)=(sp:Int):=by omega
    have w1:IntKind.i64.wrap (sp:Int)=(sp:Int):=jC _ (by omega);obtain⟨aI,HE⟩:=fD e1 hE;have aZ:sp<=n:=by omega
    clear e1 hD hDl hrl hs1 hs2 hs3 hrn hsp hbl hE hN1 hM1 hti ay hBr av;go_wp2_with fail
    refine aG.out.mono ?_;rintro e w2 ⟨rfl,rfl⟩;clear aG
    go_upto_block 2 with fail
    go_cut [4] (λq wx=>q=.int .i64 N1/\W=wx)
    case first=>
     go_wp2_with fail
     go_loopw [4] (λis wr=>∃k:Nat,is=.int .i64 k/\k<=E/\Hid (k+Sc.run Sc.qw (L.drop k)=N1)/\W=wr) (λis _=>E-(intOf is).toNat)
     case atStart=>exact⟨p,rfl,by omega,HS2,rfl⟩
     case round=>
      obtain⟨k,rfl,hk,HK,rfl⟩:=hrel;by_cases hke:k<E
      ·have j1:(k:Int)<(E:Int):=by omega
       have j2:(k:Int)<(n:Int):=by omega
       rcases gY L k with⟨h1,h2⟩|⟨x,u,h1,h2,h3⟩
       ·have:=HN.out;omega
       have d:=aj.out.at_ h1;by_cases q:x=32
       ·have g:((x:Int)==32)=true:=by simp;omega
        have HR:=eu (show(k+1)+Sc.run Sc.qw (L.drop (k+1))=N1 by have:=HK.out;rw[h1,Sc.iH,eT (by simp[Sc.qw,q])]at this;rw[h2];omega);clear h1 h2 h3 HK q;go_wp2_with fail
        go_roundw
        case rel=>exact⟨k+1,by go_num,by omega,HR,trivial⟩
        case measure=>simp[intOf];omega
       have g:((x:Int)==32)=false:=by simp;omega
       have HR:=eu (show N1=k by have:=HK.out;rw[h1,Sc.iH,eQ (by simp[Sc.qw,q])]at this;omega);clear h1 h2 h3 HK q;go_wp2_with fail
       go_meet
       exact⟨by rw[HR.out],rfl⟩
      obtain rfl:k=E:=by omega
      have HR:=eu (show N1=k by have:=HK.out;omega);clear HK;go_wp2_with fail
      go_meet
      exact⟨by rw[HR.out],rfl⟩
    case rest=>
    obtain⟨rfl,rfl⟩:=hcut
    go_upto_block 4 with fail
    go_cut [5] (λq wx=>q=.int .i64 M1/\W=wx)
    case first=>
     go_wp2_with fail
     go_loopw [5] (λis wr=>∃k:Nat,is=.int .i64 k/\k<=E/\Hid (k+Sc.run Sc.blk (L.drop k)=M1)/\W=wr) (λis _=>E-(intOf is).toNat)
     case atStart=>exact⟨N1,rfl,aF,aH,rfl⟩
     case round=>
      obtain⟨k,rfl,hk,HK,rfl⟩:=hrel;by_cases hke:k<E
      ·have j1:(k:Int)<(E:Int):=by omega
       have j2:(k:Int)<(n:Int):=by omega
       rcases gY L k with⟨h1,h2⟩|⟨x,u,h1,h2,h3⟩
       ·have:=HN.out;omega
       have d:=aj.out.at_ h1;have hbx:=nJ x W;obtain⟨Bx,hBx⟩:=eX (Sc.blk x);rw[hBx]at hbx;have aJ:=eu hbx;cases Bx with
       |true=>
        have HR:=eu (show(k+1)+Sc.run Sc.blk (L.drop (k+1))=M1 by have:=HK.out;rw[h1,Sc.iH,eT hBx]at this;rw[h2];omega);clear h1 h2 h3 HK hbx hBx;go_wp2_with fail
        refine aJ.out.mono ?_;rintro e w2 ⟨rfl,rfl⟩;go_wp2_with fail
        go_roundw
        case rel=>exact⟨k+1,by go_num,by omega,HR,trivial⟩
        case measure=>simp[intOf];omega
       |false=>
        have HR:=eu (show M1=k by have:=HK.out;rw[h1,Sc.iH,eQ (by rw[hBx];simp)]at this;omega);clear h1 h2 h3 HK hbx hBx;go_wp2_with fail
        refine aJ.out.mono ?_;rintro e w2 ⟨rfl,rfl⟩;go_wp2_with fail
        go_meet
        exact⟨by rw[HR.out],rfl⟩
      obtain rfl:k=E:=by omega
      have HR:=eu (show M1=k by have:=HK.out;omega);clear HK;go_wp2_with fail
      go_meet
      exact⟨by rw[HR.out],rfl⟩
    case rest=>
    obtain⟨rfl,rfl⟩:=hcut;clear HS2 aH;have HAdd:=eu (fun(T:Nat)(h1:T<=100000)=>yB 19 T 0 p p op (-1) (-2) true a B v l W af.out ag.out (sO p) h1 (by omega) (by have:=HG.out.len;omega) (ji _));have aK:=eu (λh=>HG.out.text (n:=rn+Bk) (by rw[HN.out];exact hpn) h aS.out);obtain⟨T,aT⟩:=eX (E+Bk);have e2:(E:Int)+(Bk:Int)=(T:Int):=by omega
    have w2:IntKind.i64.wrap (T:Int)=(T:Int):=jC _ (by omega);have HA2:=eu (HAdd.out T (by omega))
    have aL:=eu (λh=>show Sc.qB L ai (l++[(19,p,T)]) op (bs+1) T/\p<T/\T<=n by
     have h':=aK.out h;rw[HN.out,show p+(rn+Bk)=T by have:=HE.out;omega]at h';have h2:=h'.2.1
     exact⟨h'.1,by have:=HE.out;omega,h'.2.2⟩)
    have e1:=aI.out;obtain⟨R,hR⟩:=eX (decide (M1<E/\(sp:Int)<=bs));obtain⟨HR,HW,HE2⟩:=gW hR w2 e2;clear hR aT e2 w2 HAdd aK;go_upto_region 10 with fail
    go_cut [85] (λq wx=>q=.bool R/\W=wx)
    case first=>
     by_cases q1:M1<E
     ·have j1:(M1:Int)<(E:Int):=by omega
      by_cases q2:(sp:Int)<=bs
      ·have HX:=eu (show R=true by rw[<-HR.out];exact iO ⟨q1,q2⟩);have HY:=eu (iO q2);clear q1;go_wp2_with fail
       go_meet
       exact⟨by rw[HX.out],rfl⟩
      have HX:=eu (show R=false by rw[<-HR.out];exact iF (λh=>q2 h.2));have HY:=eu (iF q2);clear q1;go_wp2_with fail
      go_meet
      exact⟨by rw[HX.out],rfl⟩
     obtain rfl:M1=E:=by omega
     have HX:=eu (show R=false by rw[<-HR.out];exact iF (λh=>q1 h.1));clear q1;go_wp2_with fail
     go_meet
     exact⟨by rw[HX.out],rfl⟩
    case rest=>
    obtain⟨rfl,rfl⟩:=hcut;clear e1 w1 aI;cases R with
    |true=>
     have ah:=eu (HG.out.row (by
      rw[Al];intro h
      exact ax.out.1 h (zq HR.out)))
     go_wp2_with fail
     refine o8 (results_none rfl _ _ _) rfl ?_;exact⟨rfl,p,hp1,hp2,lL.fresh af.out ag.out ah.out,HB1.out⟩
    |false=>
     obtain⟨g1,g2,g3⟩:=aL.out (ax.out.2 (OL HR.out));have aU:=eu g1;have e2:=HE2.out;have w2:=HW.out;clear g1 HE2 HW aL ax HR;go_wp2_with fail
     refine aR.out.mono ?_;rintro e w3 ⟨rfl,rfl⟩;go_wp2_with fail
     refine HA2.out.mono ?_;rintro e w3 ⟨rfl,v2,az,hM2,hO2,hB2,-⟩;obtain⟨aM,aN,HB2⟩:=gW hM2 hO2 (HB1.out.trans hB2);have aO:=eu (wW a B v2 T p op az (-2) _ w3 hM2);clear hM2 hO2 hB2 e2 w2;go_wp2_with fail
     refine aO.out.mono ?_;rintro e w4 ⟨rfl,rfl⟩;have aV:=eu (((aM.out.set2 T).Ma (-1)).Mb true);have aW:=eu (jE (jE (jE aN.out 2 (.int .i64 T)) 4 (.int .i64 (-1))) 5 (.bool true));have HB3:=eu (iC (iC (iC HB2.out (fC a) 2 (.int .i64 T)) (fC a) 4 (.int .i64 (-1))) (fC a) 5 (.bool true));clear aM aN HB2 aO;generalize ((w3.setCell ⟨a,2,none⟩ (.int .i64 T)).setCell ⟨a,4,none⟩ (.int .i64 (-1))).setCell ⟨a,5,none⟩ (.bool true)=W4 at*;go_wp2_with fail
     go_roundg (gk-1)
     case measure=>omega
     case rel=>exact⟨v2,l++[(19,p,T)],T,aV,aW,aU,HB3,by omega,g3,by omega⟩
   have gm:((mk:Int)==0)=false:=by simp;omega
   have ah:=eu (HG.out.row (Gv (bs+1) _ (by rw[av.out];exact hmz)));clear hmz;go_wp2_with fail
   go_end0
   exact⟨rfl,p,hp1,hp2,lL.fresh af.out ag.out ah.out,HB1.out⟩
  have i1:¬((p:Int)<(n:Int)):=by omega
  have ah:=eu (Kb HG.out (nM (by rw[HN.out];omega)));have aa:=eu (λk=>gB (fu wr.heap.size wr) k);go_wp2_with fail
  go_big_quiet (fail)
  have hbq:=aa.out nq;have af:=eu (HM.out.below hbq);have ag:=eu (show Row (wr.drewN nq) a v l from fI HO.out hbq);have HB1:=eu (HB.out.wP (fC a) (hbq.mono (uX HM.out.lt)));clear hbq;generalize wr.drewN nq=W at*;go_wp2_with fail
  go_end0
  exact⟨rfl,p,hp1,hp2,lL.fresh af.out ag.out ah.out,HB1.out⟩
end
namespace Sc
theorem Kc(op:Nat)(dash blank:Bool)(r:List Nat)(hm:mark r=0)(hs:0<run qw r):next op dash blank true r=(2,run qw r):=by
 unfold next;rw[eQ (by omega),eT ⟨rfl,hs⟩]
theorem Dz(op:Nat)(dash blank first:Bool)(r:List Nat)(hm:first=true->mark r=0)(hs:first=true->run qw r=0)(hb:0<run blk r):next op dash blank first r=(3,run blk r):=by
 unfold next;rw[eQ (λh=>by have:=hm h.1;omega),eQ (λh=>by have:=hs h.1;omega),eT hb]
theorem Gw(op:Nat)(dash blank first:Bool)(r:List Nat)(hm:first=true->mark r=0)(hs:first=true->run qw r=0)(hb:run blk r=0)(hh:hsh r=true)(hf:first=true\/blank=true):next op dash blank first r=(4,r.length):=by
 unfold next;rw[eQ (λh=>by have:=hm h.1;omega),eQ (λh=>by have:=hs h.1;omega),eQ (by omega),eT ⟨hh,hf⟩]
theorem Gx(op:Nat)(dash blank first:Bool)(r:List Nat)(hm:first=true->mark r=0)(hs:first=true->run qw r=0)(hb:run blk r=0)(hh:¬(hsh r=true/\(first=true\/blank=true))):next op dash blank first r=word op dash r:=by
 unfold next;rw[eQ (λh=>by have:=hm h.1;omega),eQ (λh=>by have:=hs h.1;omega),eQ (by omega),eQ hh]
end Sc
section
open Go.RowKit
open Sg
open Sq
theorem lL.on{L:List Nat}{ae l:List Tk}{a:Nat}{B:Value}{w w':World}{p k m row:Nat}{st:Sc.St}{text:Int}(h:Sc.bu L ae l st p)(hr:Sc.gL (L.drop p)≠0)(hn:Sc.next st.op st.dash st.blank (st.fo==0) (Sc.fO (L.drop p))=(k,m))
 (hc:row+st.fo=p) (hA:AJ a B (p+m) st.fo k row (Sc.opens st.op k) st.base text st.dash (l++[(k,p,p+m)]) w w') (hk:k≠19) (ht:text=(Sc.take st k m).least-1):
 lL L ae a B w' (p+m):=by
 obtain⟨v2,aa,h1,h2,h3,h4⟩:=hA;obtain⟨g1,g2,g3⟩:=h.on hr hn;have hb:aa=(Sc.take st k m).base:=by
  rw[h4];show _=if st.base=-1/\Sc.counts k=true then(st.fo:Int)else st.base
  by_cases q:st.base=-1/\Sc.counts k=true
  ·rw[eT q,eT ⟨q.1,q.2,hk⟩]
  rw[eQ q,eQ (λg=>q ⟨g.1,g.2.1⟩)]
 refine⟨v2,row,l++[(k,p,p+m)],Sc.take st k m,?_,h2,g1,?_⟩
 ·rw[<-hb,<-ht];exact h1
 show row+(st.fo+m)=p+m;omega
def Md(k:Nat):Bool:=k==2||k==3||k==4||k==5||k==6||k==7||k==12||k==13||k==14||k==15||k==16||k==17||k==22
theorem M8{k:Nat}(h:Md k=true):k≠19/\k≠18/\k≠8/\k≠9/\k≠10/\k≠11/\k≠20/\k≠21:=by simp[Md]at h;omega
theorem Me{L:List Nat}{aa l:List Tk}{a n p k m T row:Nat}{B v:Value}{st:Sc.St}(w:World)(hn:L.length=n)(hm:n<=16384)(hM:lM w a B v p row st.op st.base (st.least-1) st.dash)(hO:Row w a v l)(hG:Sc.bu L aa l st p)(hc:row+st.fo=p)
 (hr:Sc.gL (L.drop p)≠0) (hx:Sc.next st.op st.dash st.blank (st.fo==0) (Sc.fO (L.drop p))=(k,m)) (hk:Md k=true) (hT:p+m=T):
 Calls prog 38 #[.pointer (some ⟨a,0,none⟩),.int .i64 k,.int .i64 T] w λe w'=>e=.returned (.tuple #[])/\lL L aa a B w' T/\Below a w w'/\p<T/\T<=n:=by
 obtain⟨ae,af,q8,q9,ah,ai,aj,ak⟩:=M8 hk;obtain⟨g1,g2,g3⟩:=hG.on hr hx;have hrl:=Sc.kC (L.drop p);rw[iq,hn]at hrl;subst hT;refine(yB k (p+m) st.fo p row st.op st.base (st.least-1) st.dash a B v l w hM hO hc (by omega) (by omega) (by have:=hG.len;omega) hG.base.1).mono ?_;rintro e w' ⟨rfl,hA⟩;have hop:Sc.opens st.op k=st.op:=by unfold Sc.opens;rw[eQ (by omega),eQ (by omega),eQ (by omega)]
 have hle:(Sc.take st k m).least=st.least:=by show(if k=18 then _ else st.least)=st.least;rw[eQ af]
 refine⟨rfl,lL.on hG hr hx hc (by rw[hop];exact hA) ae (by rw[hle]),?_,by omega,by omega⟩;obtain⟨v2,ag,-,-,h3,-⟩:=hA;exact h3
end
section
open Go.RowKit
open Sg
open Sq
def pM(L:List Nat)(aa:List Tk)(a:Nat)(B:Value)(n p:Nat)(st:Sc.St)(w:World)(e:Ending)(w':World):Prop:=
 (e=.returned (.bool true)/\∃p',lL L aa a B w' p'/\Below a w w'/\p<p'/\p'<=n)\/
 (e=.returned (.bool false)/\Below w.heap.size w w'/\(∃c t,L.drop p=c::t/\Sc.brk c=false/\Sc.blk c=false)/\Sc.next st.op st.dash st.blank (st.fo==0) (Sc.fO (L.drop p))=Sc.word st.op st.dash (Sc.fO (L.drop p)))
theorem PL(a b off cap n p row:Nat)(L:List Nat)(af l:List Tk)(v:Value)(st:Sc.St)(w:World)(hn:L.length=n)(hm:n<=16384)(hab:b<a)(hp:p<n)(hT:r9 w b off L)
 (hM:lM w a (.slice (some ⟨b,off,none⟩) n cap) v p row st.op st.base (st.least-1) st.dash) (hO:Row w a v l) (hG:Sc.bu L af l st p) (hc:row+st.fo=p) (hmk:st.fo=0->Sc.markT (L.drop p)=0):
 Calls prog 39 #[.pointer (some ⟨a,0,none⟩)] w (pM L af a (.slice (some ⟨b,off,none⟩) n cap) n p st w):=by
 obtain⟨c0,c1,c2,c3,c4,c5,c6,c7⟩:=hM.c;rcases gY L p with⟨h1,h2⟩|⟨c,t,h1,h2,h3⟩
 ·omega
 have d:=hT.at_ h1;obtain⟨B,hB⟩:=eX (Value.slice (some ⟨b,off,none⟩) n cap);have i1:(p:Int)<(n:Int):=by omega
 have HB:=eu (λk=>gB (fu w.heap.size w) k);have HM:=eu (λW (hb:Below w.heap.size w W)=>hM.below hb);have HO:=eu (λW (hb:Below w.heap.size w W)=>show Row W a v l from fI hO hb);have HT:=eu (λW (hb:Below w.heap.size w W)=>hT.below hb);have aj:=eu (λW (hb:Below w.heap.size w W)=>hb.mono (uX hM.lt));obtain⟨HG,HN⟩:=fD hG hn;have ay:=eu (λW (hb:Below w.heap.size w W)=>ru (w:=W) (b:=b) (off:=off) (cap:=cap) p c t hn (by omega) (hT.below hb) h1);obtain⟨H1,HC,aW,aa⟩:=jk h1 hc hmk hB;have hll:=hG.len;have HLen:=eu hll;obtain⟨F,hF⟩:=eX ((st.fo==0));have bn:((p:Int)==(row:Int))=F:=by rw[<-hF,uj];simp;omega
 have HF:=eu hF;have hz:=oQ c t;obtain⟨Z,hZ⟩:=eX (Sc.kF (c::t));rw[hZ]at hz ay;have HZ:=eu hZ;have hz2:=Bg (c::t);rw[hZ]at hz2;clear hT hM hO hG hn h1 h2 h3 hc hmk hF hll c3 c4 c5 hZ hB
 go_enter func39,ntmps39
 go_wp2_with fail
 go_big_quiet (fail)
 have hb:=HB.out nq;have c0:=fe hb c0;have c1:=fe hb c1;have c2:=fe hb c2;have c6:=fe hb c6;have c7:=fe hb c7;have ah:=eu hb;clear hb;generalize w.drewN nq=W at*;cases hbr:Sc.brk c with
 |true=>
  have gz:(0:Int)<(Z:Int):=by have:=mt hz.1 (by rw[hbr];simp);omega
  obtain⟨T,ae⟩:=eX (p+Z);have e1:(p:Int)+(Z:Int)=(T:Int):=by omega
  have w1:IntKind.i64.wrap (T:Int)=(T:Int):=jC _ (by omega);have hgb:=HG.out.brk (by rw[H1.out];exact(Sc.kM c t hbr).2) (by rw[H1.out,HZ.out];omega);rw[H1.out,HZ.out,ae,HN.out]at hgb;have az:=eu hgb;have HAdd:=eu (yB 1 T st.fo p row st.op st.base (st.least-1) st.dash a B v l W (by rw[<-aa.out];exact HM.out W ah.out) (HO.out W ah.out) HC.out (by omega) (by omega) (by have:=HLen.out;omega) HG.out.base.1);have aN:=eu (show p<T by omega);obtain⟨bs,hbs⟩:=eX (st.least-1);rw[hbs]at HAdd c6;obtain⟨aC,aX⟩:=fD hbs HG.out.least;clear ae hgb hz hbs;go_wp2_with fail
  refine(ay.out W ah.out).mono ?_;rintro e w2 ⟨rfl,rfl⟩;go_wp2_with fail
  refine HAdd.out.mono ?_;rintro e w2 ⟨rfl,v2,aD,hM2,hO2,hB2,-⟩;obtain⟨aO,aP⟩:=fD hM2 hO2;have HB2:=eu ((aj.out W ah.out).trans hB2);have ag:=eu (wW a B v2 T row st.op aD bs _ w2 hM2);have c6:=hM2.c.2.2.2.2.2.2.1;clear hM2 hO2 hB2 e1 w1 c0 c1 c2 c7;go_wp2_with fail
  refine ag.out.mono ?_;rintro e w4 ⟨rfl,rfl⟩;have aQ:=eu (((aO.out.set2 T).Ma (-1)).Mb true);have aR:=eu (jE (jE (jE aP.out 2 (.int .i64 T)) 4 (.int .i64 (-1))) 5 (.bool true));have HB3:=eu (iC (iC (iC HB2.out (fC a) 2 (.int .i64 T)) (fC a) 4 (.int .i64 (-1))) (fC a) 5 (.bool true));clear aO aP HB2 ag HAdd c6;generalize ((w2.setCell ⟨a,2,none⟩ (.int .i64 T)).setCell ⟨a,4,none⟩ (.int .i64 (-1))).setCell ⟨a,5,none⟩ (.bool true)=W4 at*;by_cases hl:-1<=bs
  ·have aS:=eu (PK a b off cap n st.op bs hl L af (l++[(1,p,T)]) T v2 W4 HN.out hm hab az.out.2 (by rw[aa.out];exact aQ.out) aR.out (by rw[show bs+1=st.least by have:=aC.out;omega];exact az.out.1) ((HT.out w (fu _ _)).low HB3.out hab));rw[aa.out]at aS;go_wp2_with fail
   refine aS.out.mono ?_;rintro e w5 ⟨rfl,p',g1,g2,g3,g4⟩;have HD:=eu (show pM L af a B n p st w (.returned (.bool true)) w5 from .inl ⟨rfl,p',g3,HB3.out.trans g4,by have:=aN.out;omega,g2⟩);clear g1 g2 g3 g4;go_wp2_with fail
   go_ret;rw[aa.out];exact HD.out
  have HD:=eu (show pM L af a B n p st w (.returned (.bool true)) W4 from .inl ⟨rfl,T,by
   obtain rfl:bs=-2:=by have:=aC.out;have:=aX.out;omega
   have hle:st.least=-1:=by have:=aC.out;omega
   refine lL.fresh aQ.out aR.out ?_;have hgb:=az.out.1;rw[hle]at hgb
   exact hgb.row (by simp[Sc.isText]),HB3.out,aN.out,az.out.2⟩)
  have hl2:bs< -1:=by omega
  clear hl;go_wp2_with fail
  go_ret;rw[aa.out];exact HD.out
 |false=>
  obtain rfl:Z=0:=hz.2 hbr;have hrow:=Sc.jm c t hbr;have aF:=eu (show Sc.gL (L.drop p)≠0 by rw[H1.out,hrow.2];omega);have ak:=eu (show Sc.fO (L.drop p)=c::Sc.fO t by rw[H1.out];exact hrow.1);have aA:=eu (fun(g:(st.fo==0)=true)=>show Sc.mark (Sc.fO (L.drop p))=0 by rw[Sc.nI];exact aW.out (by simpa using g));obtain⟨Sp,hSp⟩:=eX ((F&&(c==32)));have av:=eu hSp;clear hz hrow hSp;go_wp2_with fail
  refine(ay.out W ah.out).mono ?_;rintro e w2 ⟨rfl,rfl⟩;clear ay;go_upto_region 11 with fail
  go_cut [56] (λq wx=>q=.bool Sp/\Below W.heap.size W wx)
  case first=>
   cases F with
   |false=>
    have HX:=eu (show Sp=false by rw[<-av.out];rfl);go_wp2_with fail
    go_big_quiet (fail)
    have hbq:=gB (fu W.heap.size W) nq;go_wp2_with fail
    go_meet
    exact⟨by rw[HX.out],hbq⟩
   |true=>
    by_cases q:c=32
    ·have g:((c:Int)==32)=true:=by simp;omega
     have HX:=eu (show Sp=true by rw[<-av.out,q];rfl);clear q;go_wp2_with fail
     go_big_quiet (fail)
     have hbq:=gB (fu W.heap.size W) nq;go_wp2_with fail
     go_meet
     exact⟨by rw[HX.out],hbq⟩
    have g:((c:Int)==32)=false:=by simp;omega
    have HX:=eu (show Sp=false by rw[<-av.out];simp[q]);clear q;go_wp2_with fail
    go_big_quiet (fail)
    have hbq:=gB (fu W.heap.size W) nq;go_wp2_with fail
    go_meet
    exact⟨by rw[HX.out],hbq⟩
  case rest=>
  obtain⟨rfl,hb2⟩:=hcut;have c0:=fe hb2 c0;have c1:=fe hb2 c1;have c2:=fe hb2 c2;have c7:=fe hb2 c7;have HB2:=eu (ah.out.trans (hb2.mono ah.out.size));clear hb2 c6 d;generalize wc=W2 at*;cases Sp with
  |true=>
   have aG:F=true/\c=32:=by have:=av.out;simpa using this
   have aH:(st.fo==0)=true:=by rw[HF.out];exact aG.1
   have ag:=eu (show Sc.next st.op st.dash st.blank (st.fo==0) (Sc.fO (L.drop p))=(2,Sc.run Sc.qw (L.drop p))by
    rw[aH,Sc.Kc _ _ _ _ (aA.out aH) (by rw[ak.out,Sc.iH,eT (by rw[aG.2];rfl)];omega),Sc.l5 _ Sc.zQ])
   obtain⟨T,ae⟩:=eX (p+Sc.run Sc.qw (L.drop p));clear aG aH;have HS:=eu (show p+Sc.run Sc.qw (L.drop p)=T from ae);have aY:T<=n:=by have:=Sc.ow Sc.qw (L.drop p);rw[iq,HN.out]at this;omega
   have ai:=eu (Me (B:=B) (v:=v) (row:=row) W2 HN.out hm (by rw[<-aa.out];exact HM.out W2 HB2.out) (HO.out W2 HB2.out) HG.out HC.out aF.out ag.out rfl ae);have aI:=eu (HT.out W2 HB2.out);clear ae;go_wp2_with fail
   go_loopw [4] (λis wr=>∃k:Nat,is=.int .i64 k/\k<=n/\Hid (k+Sc.run Sc.qw (L.drop k)=T)/\W2=wr) (λis _=>n-(intOf is).toNat)
   case atStart=>exact⟨p,rfl,by omega,HS,rfl⟩
   case round=>
    obtain⟨k,rfl,hk,HK,rfl⟩:=hrel;rcases gY L k with⟨h1,h2⟩|⟨x,u,h1,h2,h3⟩
    ·have j1:¬((k:Int)<(n:Int)):=by have:=HN.out;omega
     obtain rfl:T=k:=by have:=HK.out;rw[h1,show Sc.run Sc.qw []=0 from rfl]at this;omega
     clear h1 h2 HK HS;go_wp2_with fail
     refine ai.out.mono ?_;rintro e w3 ⟨rfl,g1,g2,g3,g4⟩;have HD:=eu (show pM L af a B n p st w (.returned (.bool true)) w3 from .inl ⟨rfl,T,g1,(aj.out W2 HB2.out).trans g2,g3,g4⟩);clear g1 g2 g3 g4;go_wp2_with fail
     go_ret;rw[aa.out];exact HD.out
    have j1:(k:Int)<(n:Int):=by have:=HN.out;omega
    have dx:=aI.out.at_ h1;by_cases q:x=32
    ·have g:((x:Int)==32)=true:=by simp;omega
     have HR:=eu (show(k+1)+Sc.run Sc.qw (L.drop (k+1))=T by have:=HK.out;rw[h1,Sc.iH,eT (by simp[Sc.qw,q])]at this;rw[h2];omega);have hk2:k<n:=by omega
     clear h1 h2 h3 HK q;go_wp2_with fail
     go_roundw
     case rel=>exact⟨k+1,by go_num,by omega,HR,trivial⟩
     case measure=>simp[intOf];omega
    have g:((x:Int)==32)=false:=by simp;omega
    obtain rfl:T=k:=by have:=HK.out;rw[h1,Sc.iH,eQ (by simp[Sc.qw,q])]at this;omega
    clear h1 h2 h3 HK HS q;go_wp2_with fail
    refine ai.out.mono ?_;rintro e w3 ⟨rfl,g1,g2,g3,g4⟩;have HD:=eu (show pM L af a B n p st w (.returned (.bool true)) w3 from .inl ⟨rfl,T,g1,(aj.out W2 HB2.out).trans g2,g3,g4⟩);clear g1 g2 g3 g4;go_wp2_with fail
    go_ret;rw[aa.out];exact HD.out
  |false=>
   have aJ:=eu (fun(g:(st.fo==0)=true)=>show Sc.run Sc.qw (Sc.fO (L.drop p))=0 by
    have:=av.out;rw[<-HF.out,g]at this
    rw[ak.out,Sc.iH,eQ (by intro h;simp[Sc.qw]at h;simp[h]at this)])
   have hbl:=nJ c W2;obtain⟨Bl,hBl⟩:=eX (Sc.blk c);rw[hBl]at hbl;have aK:=eu hbl;clear hbl;cases Bl with
   |true=>
    have ag:=eu (show Sc.next st.op st.dash st.blank (st.fo==0) (Sc.fO (L.drop p))=(3,Sc.run Sc.blk (L.drop p))by
     rw[Sc.Dz _ _ _ _ _ aA.out aJ.out (by rw[ak.out,Sc.iH,eT hBl];omega),Sc.l5 _ Sc.rq])
    obtain⟨T,ae⟩:=eX (p+Sc.run Sc.blk (L.drop p));clear hBl;have HS:=eu (show p+Sc.run Sc.blk (L.drop p)=T from ae);have aY:T<=n:=by have:=Sc.ow Sc.blk (L.drop p);rw[iq,HN.out]at this;omega
    have ai:=eu (Me (B:=B) (v:=v) (row:=row) W2 HN.out hm (by rw[<-aa.out];exact HM.out W2 HB2.out) (HO.out W2 HB2.out) HG.out HC.out aF.out ag.out rfl ae);have aI:=eu (HT.out W2 HB2.out);clear ae;go_wp2_with fail
    refine aK.out.mono ?_;rintro e w3 ⟨rfl,rfl⟩;go_wp2_with fail
    go_loopw [4] (λis wr=>∃k:Nat,is=.int .i64 k/\k<=n/\Hid (k+Sc.run Sc.blk (L.drop k)=T)/\W2=wr) (λis _=>n-(intOf is).toNat)
    case atStart=>exact⟨p,rfl,by omega,HS,rfl⟩
    case round=>
     obtain⟨k,rfl,hk,HK,rfl⟩:=hrel;rcases gY L k with⟨h1,h2⟩|⟨x,u,h1,h2,h3⟩
     ·have j1:¬((k:Int)<(n:Int)):=by have:=HN.out;omega
      obtain rfl:T=k:=by have:=HK.out;rw[h1,show Sc.run Sc.blk []=0 from rfl]at this;omega
      clear h1 h2 HK HS;go_wp2_with fail
      refine ai.out.mono ?_;rintro e w3 ⟨rfl,g1,g2,g3,g4⟩;have HD:=eu (show pM L af a B n p st w (.returned (.bool true)) w3 from .inl ⟨rfl,T,g1,(aj.out W2 HB2.out).trans g2,g3,g4⟩);clear g1 g2 g3 g4;go_wp2_with fail
      go_ret;rw[aa.out];exact HD.out
     have j1:(k:Int)<(n:Int):=by have:=HN.out;omega
     have dx:=aI.out.at_ h1;have hbx:=nJ x W2;obtain⟨Bx,hBx⟩:=eX (Sc.blk x);rw[hBx]at hbx;have aT:=eu hbx;cases Bx with
     |true=>
      have HR:=eu (show(k+1)+Sc.run Sc.blk (L.drop (k+1))=T by have:=HK.out;rw[h1,Sc.iH,eT hBx]at this;rw[h2];omega);have hk2:k<n:=by omega
      clear h1 h2 h3 HK hbx hBx;go_wp2_with fail
      refine aT.out.mono ?_;rintro e w3 ⟨rfl,rfl⟩;go_wp2_with fail
      go_roundw
      case rel=>exact⟨k+1,by go_num,by omega,HR,trivial⟩
      case measure=>simp[intOf];omega
     |false=>
      obtain rfl:T=k:=by have:=HK.out;rw[h1,Sc.iH,eQ (by rw[hBx];simp)]at this;omega
      clear h1 h2 h3 HK HS hbx hBx;go_wp2_with fail
      refine aT.out.mono ?_;rintro e w3 ⟨rfl,rfl⟩;go_wp2_with fail
      refine ai.out.mono ?_;rintro e w3 ⟨rfl,g1,g2,g3,g4⟩;have HD:=eu (show pM L af a B n p st w (.returned (.bool true)) w3 from .inl ⟨rfl,T,g1,(aj.out W2 HB2.out).trans g2,g3,g4⟩);clear g1 g2 g3 g4;go_wp2_with fail
      go_ret;rw[aa.out];exact HD.out
   |false=>
    obtain⟨Cm,aU⟩:=eX ((c==35&&(F||st.blank)));have ax:=eu aU;have aB:=eu (show Sc.run Sc.blk (Sc.fO (L.drop p))=0 by rw[ak.out,Sc.iH,eQ (by rw[hBl];simp)]);have aZ:=eu hBl;clear aU hBl;go_wp2_with fail
    refine aK.out.mono ?_;rintro e w3 ⟨rfl,rfl⟩;clear aK;go_upto_region 21 with fail
    go_cut [147] (λq wx=>q=.bool Cm/\Below W2.heap.size W2 wx)
    case first=>
     by_cases q:c=35
     ·have g:((c:Int)==35)=true:=by simp;omega
      cases F with
      |true=>
       have HX:=eu (show Cm=true by rw[<-ax.out,q];rfl);clear q;go_wp2_with fail
       go_big_quiet (fail)
       have hbq:=gB (fu W2.heap.size W2) nq;go_wp2_with fail
       go_meet
       exact⟨by rw[HX.out],hbq⟩
      |false=>
       obtain⟨l0,⟨k,fr,tp⟩,hl0,hbk⟩:=HG.out.last (by have:=HF.out;simpa using this);have hR:=Reads.fJ (E:=iZ) (HO.out W2 HB2.out);rw[hl0]at hR;obtain⟨a',cap',rfl⟩:=hR.shape;obtain⟨tb,bg,rfl,d0,d1,d2⟩:=iG hR l0.length (k,fr,tp) (by simp);obtain⟨nl,hnl⟩:=eX (l0.length);have aL:(l0++[((k,fr,tp):Tk)]).length=nl+1:=by simp[hnl]
       rw[hnl]at d0;rw[aL]at c7;have hnb:nl+1<=20000:=by have:=HLen.out;rw[hl0,aL]at this;omega
       have e1:((nl+1:Nat):Int)-1=(nl:Int):=by omega
       have j1:(0:Int)<=(nl:Int):=by omega
       have j2:(nl:Int)<((nl+1:Nat):Int):=by omega
       simp only at d0 hbk;have aM:=eu (show Cm=(k==2||k==3)by rw[<-ax.out,q,hbk];rfl);clear hR hl0 hnl aL d1 d2 hbk q;by_cases k2:k=2
       ·have g2:((k:Int)==2)=true:=by simp;omega
        have HX:=eu (show Cm=true by rw[aM.out,k2];rfl);clear k2;go_wp2_with fail
        go_big_quiet (fail)
        have hbq:=gB (fu W2.heap.size W2) nq;go_wp2_with fail
        go_meet
        exact⟨by rw[HX.out],hbq⟩
       have g2:((k:Int)==2)=false:=by simp;omega
       by_cases k3:k=3
       ·have g3:((k:Int)==3)=true:=by simp;omega
        have HX:=eu (show Cm=true by rw[aM.out,k3];rfl);clear k2 k3;go_wp2_with fail
        go_big_quiet (fail)
        have hbq:=gB (fu W2.heap.size W2) nq;go_wp2_with fail
        go_meet
        exact⟨by rw[HX.out],hbq⟩
       have g3:((k:Int)==3)=false:=by simp;omega
       have HX:=eu (show Cm=false by rw[aM.out];simp[k2,k3]);clear k2 k3;go_wp2_with fail
       go_big_quiet (fail)
       have hbq:=gB (fu W2.heap.size W2) nq;go_wp2_with fail
       go_meet
       exact⟨by rw[HX.out],hbq⟩
     have g:((c:Int)==35)=false:=by simp;omega
     have HX:=eu (show Cm=false by rw[<-ax.out];simp[q]);clear q;go_wp2_with fail
     go_big_quiet (fail)
     have hbq:=gB (fu W2.heap.size W2) nq;go_wp2_with fail
     go_meet
     exact⟨by rw[HX.out],hbq⟩
    case rest=>
    obtain⟨rfl,hb3⟩:=hcut;have c0:=fe hb3 c0;have HB3:=eu (HB2.out.trans (hb3.mono HB2.out.size));clear hb3 c1 c2 c7;generalize wc=W3 at*;have aV:=eu (show Sc.hsh (Sc.fO (L.drop p))=(c==35)by rw[ak.out];rfl);cases Cm with
    |true=>
     have hq:c=35/\(F=true\/st.blank=true):=by have:=ax.out;simpa using this
     obtain⟨T,ae⟩:=eX (p+Sc.gL (L.drop p))
     have ag:=eu (show Sc.next st.op st.dash st.blank (st.fo==0) (Sc.fO (L.drop p))=(4,Sc.gL (L.drop p))by
      rw[Sc.Gw _ _ _ _ _ aA.out aJ.out aB.out (by rw[aV.out,hq.1];rfl) (by rw[HF.out];exact hq.2),Sc.iV])
     have ai:=eu (Me (B:=B) (v:=v) (row:=row) W3 HN.out hm (by rw[<-aa.out];exact HM.out W3 HB3.out) (HO.out W3 HB3.out) HG.out HC.out aF.out ag.out rfl ae);have bf:=eu (zS (w:=W3) (a:=a) (cap:=cap) p T HN.out hm (by omega) ae c0 (HT.out W3 HB3.out));clear hq ae;go_wp2_with fail
     refine bf.out.mono ?_;rintro e w4 ⟨rfl,rfl⟩;go_wp2_with fail
     refine ai.out.mono ?_;rintro e w4 ⟨rfl,g1,g2,g3,g4⟩;have HD:=eu (show pM L af a B n p st w (.returned (.bool true)) w4 from .inl ⟨rfl,T,g1,(aj.out W3 HB3.out).trans g2,g3,g4⟩);clear g1 g2 g3 g4;go_wp2_with fail
     go_ret;rw[aa.out];exact HD.out
    |false=>
     have HD:=eu (show pM L af a B n p st w (.returned (.bool false)) W3 from .inr ⟨rfl,HB3.out,⟨c,t,H1.out,hbr,aZ.out⟩,Sc.Gx _ _ _ _ _ aA.out aJ.out aB.out (by
      rw[aV.out,HF.out];intro h;have h2:=ax.out;rcases h.2 with g|g
      ·rw[h.1,g]at h2;cases h2
      rw[h.1,g]at h2;simp at h2)⟩)
     go_wp2_with fail
     go_ret;rw[aa.out];exact HD.out
end
end Go.Proofs.YtfbiffdmhcjhbaaGreat

import Derived.Test.YtfbiffdmhcjhbaaZa09
import Derived.Test.YtfbiffdmhcjhbaaZa10
import Derived.Deep.RegionLaw
import Derived.Deep.RegionWith
set_option linter.all false
set_option maxHeartbeats 16000000
set_option maxRecDepth 100000
namespace Go.Proofs.Ytfbiffdmhcjhbaa
open Go.RowKit Try
def Wu:=@wp_region_held_drew
def UM:=@wpAnyH_done
section
open Go.RowKit
open Sg
open Sq
def sO(w:World)(a:Nat)(B v:Value)(at' row op base text:Int)(olyX:Bool):Prop:=
 w.heap[a]?=some (.cells #[B,.int .i64 at',.int .i64 row,.int .i64 op,.int .i64 base,.bool olyX,.int .i64 text,v] 78 (0,0))
section
variable {w w':World}{a:Nat}{B v:Value}{at' row op base text:Int}{olyX:Bool}
theorem sO.c(h:sO w a B v at' row op base text olyX):w.cell? ⟨a,0,none⟩=some B/\w.cell? ⟨a,1,none⟩=some (.int .i64 at')/\w.cell? ⟨a,2,none⟩=some (.int .i64 row)/\w.cell? ⟨a,3,none⟩=some (.int .i64 op)/\w.cell? ⟨a,4,none⟩=some (.int .i64 base)/\w.cell? ⟨a,5,none⟩=some (.bool olyX)/\w.cell? ⟨a,6,none⟩=some (.int .i64 text)/\w.cell? ⟨a,7,none⟩=some v:=
 ⟨(nz h 0).trans rfl,(nz h 1).trans rfl,(nz h 2).trans rfl,(nz h 3).trans rfl,(nz h 4).trans rfl,(nz h 5).trans rfl,(nz h 6).trans rfl,(nz h 7).trans rfl⟩
theorem sO.f(h:sO w a B v at' row op base text olyX)(o:Nat):w.frozen? ⟨a,o,none⟩=false:=oI h o
theorem sO.lt(h:sO w a B v at' row op base text olyX):a<w.heap.size:=(Ng.1 h).1
theorem sO.below(h:sO w a B v at' row op base text olyX)(hb:Below w.heap.size w w'):sO w' a B v at' row op base text olyX:=(hb.block a h.lt).trans h
theorem sO.grown{r:Option Nat}(h:sO w a B v at' row op base text olyX)(hg:w.grownBy w' r)(hne:r≠some a):sO w' a B v at' row op base text olyX:=(hg.block a h.lt (λe=>hne e.symm)).trans h
theorem sO.set1(h:sO w a B v at' row op base text olyX)(u:Int):sO (w.setCell ⟨a,1,none⟩ (.int .i64 u)) a B v u row op base text olyX:=uq h _
theorem sO.set2(h:sO w a B v at' row op base text olyX)(u:Int):sO (w.setCell ⟨a,2,none⟩ (.int .i64 u)) a B v at' u op base text olyX:=uq h _
theorem sO.UN(h:sO w a B v at' row op base text olyX)(u:Int):sO (w.setCell ⟨a,3,none⟩ (.int .i64 u)) a B v at' row u base text olyX:=uq h _
theorem sO.Ru(h:sO w a B v at' row op base text olyX)(u:Int):sO (w.setCell ⟨a,4,none⟩ (.int .i64 u)) a B v at' row op u text olyX:=uq h _
theorem sO.Rv(h:sO w a B v at' row op base text olyX)(u:Bool):sO (w.setCell ⟨a,5,none⟩ (.bool u)) a B v at' row op base text u:=uq h _
theorem sO.Rx(h:sO w a B v at' row op base text olyX)(u:Int):sO (w.setCell ⟨a,6,none⟩ (.int .i64 u)) a B v at' row op base u olyX:=uq h _
theorem sO.Wv(h:sO w a B v at' row op base text olyX)(u:Value):sO (w.setCell ⟨a,7,none⟩ u) a B u at' row op base text olyX:=uq h u
end
def Gd(a:Nat)(B:Value)(T C k row op:Nat)(base text:Int)(olyX:Bool)(l':List Tk)(w w':World):Prop:=
 ∃v2 aa,sO w' a B v2 T row op aa text (olyX&&Sc.leaves k)/\Row w' a v2 l'/\Below a w w'/\aa=if base=-1/\Sc.counts k=true/\k≠19 then(C:Int)else base
theorem Ec(k T C at' row op:Nat)(base text:Int)(olyX:Bool)(a:Nat)(B v:Value)(l:List Tk)(w:World)(hM:sO w a B v at' row op base text olyX)(hO:Row w a v l)(hC:row+C=at')(ha:T<=100000)(hat:at'<=100000)(hl:l.length<=100000)(hb1:-1<=base):
 Calls prog 34 #[.pointer (some ⟨a,0,none⟩),.int .i64 k,.int .i64 T] w λe w'=>e=.returned (.tuple #[])/\Gd a B T C k row op base text olyX (l++[(k,at',T)]) w w':=by
 obtain⟨c0,c1,c2,c3,c4,c5,c6,c7⟩:=hM.c;have ah:((at':Int)-(row:Int))=(C:Int):=by omega
 have hcw:IntKind.i64.wrap (C:Int)=(C:Int):=qA _ (by omega);have hne:v.ownBlock≠some a:=λe=>by have:=(hO.lt a e).1;omega
 obtain⟨ak,aj,aF,aC,az⟩:=BN hM hO hne hM.lt (yj k w);obtain⟨cn,hcn⟩:=my (Sc.counts k);rw[hcn]at az;obtain⟨D,hD⟩:=my (decide (base=-1/\cn=true/\k≠19));obtain⟨aa,ai⟩:∃aa,aa=if D=true then(C:Int)else base:=⟨_,rfl⟩
 obtain⟨ae,ay⟩:∃ae,ae=(olyX&&Sc.leaves k):=⟨_,rfl⟩
 have aO:=eu (show aa=if base=-1/\Sc.counts k=true/\k≠19 then(C:Int)else base by
  rw[ai,<-hD,hcn];simp only[Nv])
 obtain⟨HD,HB2,av,HL⟩:=qg hD ai ay hl;clear hM hO hne hcn hD ai ay hC hl c0 c3 c6
 go_enter func34,ntmps34
 go_upto_region 0 with fail
 go_cut [18] (λq wx=>q=.bool D/\w=wx)
 case first=>
  cases cn with
  |false=>
   have HE:=eu (show D=false by rw[<-HD.out];simp);clear ah hcw;go_wp2_with fail
   refine az.out.mono ?_;rintro e w1 ⟨rfl,rfl⟩;go_wp2_with fail
   go_meet
   exact⟨by rw[HE.out],rfl⟩
  |true=>
   by_cases k1:k=19
   ·have g1:((k:Int) !=19)=false:=by simp;omega
    have HE:=eu (show D=false by rw[<-HD.out];simp[k1]);clear ah hcw k1;go_wp2_with fail
    refine az.out.mono ?_;rintro e w1 ⟨rfl,rfl⟩;go_wp2_with fail
    go_meet
    exact⟨by rw[HE.out],rfl⟩
   have g1:((k:Int) !=19)=true:=by simp;omega
   by_cases b1:base<0
   ·have HE:=eu (show D=true by rw[<-HD.out];exact oP ⟨by omega,rfl,k1⟩);clear ah hcw k1;go_wp2_with fail
    refine az.out.mono ?_;rintro e w1 ⟨rfl,rfl⟩;go_wp2_with fail
    go_meet
    exact⟨by rw[HE.out],rfl⟩
   have HE:=eu (show D=false by rw[<-HD.out];exact nK (by omega));have HB3:=eu (nK b1);clear ah hcw k1;go_wp2_with fail
   refine az.out.mono ?_;rintro e w1 ⟨rfl,rfl⟩;go_wp2_with fail
   go_meet
   exact⟨by rw[HE.out,HB3.out],rfl⟩
 case rest=>
 obtain⟨rfl,rfl⟩:=hcut
 go_upto_if 18 with fail
 go_cut [] (λwx=>sO wx a B v at' row op aa text olyX/\Row wx a v l/\Below a w wx)
 case first=>
  cases D with
  |true=>
   have HE:=eu (show aa=(C:Int)by rw[HB2.out,gu rfl]);go_wp2_with fail
   refine Wu (S:=λwx=>wx.cell? ⟨a,1,none⟩=some (.int .i64 at')/\wx.cell? ⟨a,2,none⟩=some (.int .i64 row)) (by kernel_rfl) (⟨c1,c2⟩) (λhH=>?_);refine zg 0 (.pointer (some ⟨a,0,none⟩)) rfl (by kernel_rfl) rfl mD (λW hW=>by go_simp) hH ?_;refine zg 1 (.pointer (some ⟨a,0,none⟩)) rfl (by kernel_rfl) rfl mD (λW hW=>by go_simp) hH ?_;refine zg 2 (.pointer (some ⟨a,0,none⟩)) rfl (by kernel_rfl) rfl mD (λW hW=>by go_simp) hH ?_;refine zg 3 (.pointer (some ⟨a,1,none⟩)) rfl (by kernel_rfl) rfl mD (λW hW=>by go_simp) hH ?_;refine zg 4 (.int .i64 at') rfl (by kernel_rfl) rfl mD (λW hW=>?_) hH ?_
   ·obtain⟨z1,z2⟩:=hW;go_simp
   refine zg 5 (.pointer (some ⟨a,0,none⟩)) rfl (by kernel_rfl) rfl mD (λW hW=>by go_simp) hH ?_;refine zg 6 (.pointer (some ⟨a,0,none⟩)) rfl (by kernel_rfl) rfl mD (λW hW=>by go_simp) hH ?_;refine zg 7 (.pointer (some ⟨a,2,none⟩)) rfl (by kernel_rfl) rfl mD (λW hW=>by go_simp) hH ?_;refine zg 8 (.int .i64 row) rfl (by kernel_rfl) rfl mD (λW hW=>?_) hH ?_
   ·obtain⟨z1,z2⟩:=hW;go_simp
   refine zg 9 (.int .i64 C) rfl (by kernel_rfl) rfl mD (λW hW=>by go_simp) hH ?_;refine zg 10 (.pointer (some ⟨a,0,none⟩)) rfl (by kernel_rfl) rfl mD (λW hW=>by go_simp) hH ?_;refine zg 11 (.pointer (some ⟨a,4,none⟩)) rfl (by kernel_rfl) rfl mD (λW hW=>by go_simp) hH ?_;refine Uh 12 (by kernel_rfl) rfl λK hK=>?_
   have c4:=ak.out.c.2.2.2.2.1;have f4:=ak.out.f 4;go_simp;refine hK.out _ _ (⟨Ca (o:=4) (by decide) c1,Ca (o:=4) (by decide) c2⟩) (λhH2=>?_);clear hK K;try simp only[Act.put,mM,mP,mO]
   refine UM (by kernel_rfl) ?_ _;go_wp2_with fail
   go_meet
   exact⟨by rw[HE.out];exact ak.out.Ru _,qw aj.out 4 _,oL ((mF a w).drew) (mJ a) 4 _⟩
  |false=>
   have HE:=eu (show aa=base by rw[HB2.out,fu (by simp)]);clear ah hcw;go_wp2_with fail
   go_meet
   exact⟨by rw[HE.out];exact ak.out,aj.out,mF _ _⟩
 case rest=>
 obtain⟨af,hOb,hBb⟩:=hcut;obtain⟨aG,aH,aI⟩:=nY af hOb hBb;obtain⟨c0,c1,c2,c3,c4,c5,c6,c7⟩:=af.c;have f5:=af.f 5;clear af hOb hBb ak aj az HD HB2 c0 c2 c3 c4 c6 ah hcw;obtain⟨NL,aP⟩:=my ((!Sc.leaves k));have ax:=eu aP;clear aP;go_upto_region 2 with fail
 go_cut [44] (λq wx=>q=.bool NL/\wc=wx)
 case first=>
  by_cases k1:k=2
  ·have g1:((k:Int) !=2)=false:=by simp;omega
   have HE:=eu (show NL=false by rw[<-ax.out,k1];rfl);clear k1;go_wp2_with fail
   go_meet
   exact⟨by rw[HE.out],rfl⟩
  have g1:((k:Int) !=2)=true:=by simp;omega
  by_cases k2:k=3
  ·have g2:((k:Int) !=3)=false:=by simp;omega
   have HE:=eu (show NL=false by rw[<-ax.out,k2];rfl);clear k1 k2;go_wp2_with fail
   go_meet
   exact⟨by rw[HE.out],rfl⟩
  have g2:((k:Int) !=3)=true:=by simp;omega
  by_cases k3:k=5
  ·have g3:((k:Int) !=5)=false:=by simp;omega
   have HE:=eu (show NL=false by rw[<-ax.out,k3];rfl);clear k1 k2 k3;go_wp2_with fail
   go_meet
   exact⟨by rw[HE.out],rfl⟩
  have g3:((k:Int) !=5)=true:=by simp;omega
  by_cases k4:k=20
  ·have g4:((k:Int) !=20)=false:=by simp;omega
   have HE:=eu (show NL=false by rw[<-ax.out,k4];rfl);clear k1 k2 k3 k4;go_wp2_with fail
   go_meet
   exact⟨by rw[HE.out],rfl⟩
  have g4:((k:Int) !=20)=true:=by simp;omega
  have HE:=eu (show NL=true by rw[<-ax.out];simp[Sc.leaves,k1,k2,k3,k4]);clear k1 k2 k3 k4;go_wp2_with fail
  go_meet
  exact⟨by rw[HE.out],rfl⟩
 case rest=>
 obtain⟨rfl,rfl⟩:=hcut
 go_upto_if 44 with fail
 go_cut [] (λwx=>sO wx a B v at' row op aa text ae/\Row wx a v l/\Below a w wx)
 case first=>
  cases NL with
  |true=>
   have HE:=eu (show ae=false by rw[av.out,show Sc.leaves k=false by simpa using ax.out];simp);go_wp2_with fail
   go_meet
   exact⟨by rw[HE.out];exact aG.out.Rv _,qw aH.out 5 _,oL aI.out (mJ a) 5 _⟩
  |false=>
   have HE:=eu (show ae=olyX by rw[av.out,show Sc.leaves k=true by simpa using ax.out];simp);go_wp2_with fail
   go_meet
   exact⟨by rw[HE.out];exact aG.out,aH.out,aI.out⟩
 case rest=>
 clear aG aH aI c1 c5 c7 f5;obtain⟨af,hOb,hBb⟩:=hcut;generalize wc=W at*;obtain⟨ak,aj,aQ⟩:=nY af hOb hBb;have hlt:=af.lt;have hne0:a≠W.heap.size:=by omega
 have aA:=eu (Sk W.drew (k,at',T) 73);have aD:=af.below ((mF W.heap.size W).drew.alloc (mJ _) (.cells #[.int .i64 k,.int .i64 at',.int .i64 (T:Nat)] 73));have aJ:=eu aD;have aK:=eu ((mF W.heap.size W).drew.alloc (mJ _) (.cells #[.int .i64 k,.int .i64 at',.int .i64 (T:Nat)] 73));have d7:W.drew.cell? ⟨a,7,none⟩=some v:=af.c.2.2.2.2.2.2.2;have d1:W.drew.cell? ⟨a,1,none⟩=some (.int .i64 at'):=af.c.2.1;have x1:=aD.c.2.1;have x7:=aD.c.2.2.2.2.2.2.2;have x3:=(af.below (mr W (.cells #[.int .i64 k,.int .i64 at',.int .i64 (T:Nat)] 73))).c.2.2.2.2.2.2.2;have aC:=eu hlt;have hl3:a+1<=(W.drew.alloc (.cells #[.int .i64 k,.int .i64 at',.int .i64 (T:Nat)] 73)).heap.size:=by simp;omega
 have aL:=eu (show l.length+1<=maxLen by have:=HL.out;unfold maxLen;omega);have HL2:=eu (show(l.length+1)*24<=140737488355328 by have:=HL.out;omega);have aB:=eu hl3;have aM:=eu (show Row (W.drew.alloc (.cells #[.int .i64 k,.int .i64 at',.int .i64 (T:Nat)] 73)) a v l from World.ownsRow.alloc (w:=W.drew) aj.out _);clear af hOb hBb hlt aD hl3;go_upto_region 4 with fail
 go_cut [] (λwx=>∃v2,sO wx a B v2 at' row op aa text ae/\Row wx a v2 (l++[((k,at',T):Tk)])/\Below a W wx)
 case first=>
  go_wp2_with fail
  refine Wu (S:=λwx=>wx.cell? ⟨a,1,none⟩=some (.int .i64 at')) (by kernel_rfl) (d1) (λhH=>?_);refine zg 0 (.pointer (some ⟨a,0,none⟩)) rfl (by kernel_rfl) rfl mD (λW hW=>by go_simp) hH ?_;refine zg 1 (.pointer (some ⟨a,0,none⟩)) rfl (by kernel_rfl) rfl mD (λW hW=>by go_simp) hH ?_;refine zg 2 (.pointer (some ⟨a,0,none⟩)) rfl (by kernel_rfl) rfl mD (λW hW=>by go_simp) hH ?_;refine zg 3 (.pointer (some ⟨a,7,none⟩)) rfl (by kernel_rfl) rfl mD (λW hW=>by go_simp) hH ?_;refine zg 5 (.int .i64 k) rfl (by kernel_rfl) rfl mD (λW hW=>by go_simp) hH ?_;refine zg 6 (.pointer (some ⟨a,0,none⟩)) rfl (by kernel_rfl) rfl mD (λW hW=>by go_simp) hH ?_;refine zg 7 (.pointer (some ⟨a,0,none⟩)) rfl (by kernel_rfl) rfl mD (λW hW=>by go_simp) hH ?_;refine zg 8 (.pointer (some ⟨a,1,none⟩)) rfl (by kernel_rfl) rfl mD (λW hW=>by go_simp) hH ?_;refine zg 9 (.int .i64 at') rfl (by kernel_rfl) rfl mD (λW hW=>by go_simp) hH ?_;refine zg 10 (.int .i64 (T:Nat)) rfl (by kernel_rfl) rfl mD (λW hW=>by go_simp) hH ?_;refine zg 11 (.agg #[.int .i64 k,.int .i64 at',.int .i64 (T:Nat)]) rfl (by kernel_rfl) rfl mD (λW hW=>by go_simp) hH ?_;refine wpAnyH_ready (rs:=[4,12]) (by kernel_rfl) (by simp) ?_;refine UI (o:=⟨_,_,_,_,_,_⟩) rfl (λK hK=>?_) (UI (o:=⟨_,_,_,_,_,_⟩) rfl (λK hK=>?_) (AllReadyH.nil))
  ·skip
   go_simp;refine hK.out _ _ (d1) (λhH2=>?_);clear hK K;try simp only[Act.put,mM,mP,mO]
   refine Uh 12 (by kernel_rfl) rfl λK hK=>?_
   go_simp;refine hK.out _ _ (x1) (λhH2=>?_);clear hK K;try simp only[Act.put,mM,mP,mO]
   refine Uh 13 (by kernel_rfl) rfl λK hK=>?_
   refine vX XG rfl (.tmp 52) (.tmp 60) rfl (a+1) v l rfl aM.out W.heap.size 1 [((k,at',T):Tk)] rfl rfl aA.out aL.out HL2.out aB.out ?_;intro v2 w2 hown2 hg2;obtain⟨a2,cap2,rfl⟩:=(Reads.mW (E:=qB) hown2).shape;have ag:=eu (aJ.out.grown hg2 aF.out);have y1:=ag.out.c.2.1;have y7:=ag.out.c.2.2.2.2.2.2.2;have y3:=ag.out.f 7;obtain⟨av,aN⟩:=mR hown2 hg2;clear hown2 hg2;refine hK.out _ _ (y1) (λhH2=>?_);clear hK K;try simp only[Act.put,mM,mP,mO]
   refine zg 14 (.pointer (some ⟨a,0,none⟩)) rfl (by kernel_rfl) rfl mD (λW hW=>by go_simp) hH2 ?_;refine zg 15 (.pointer (some ⟨a,7,none⟩)) rfl (by kernel_rfl) rfl mD (λW hW=>by go_simp) hH2 ?_;refine Uh 16 (by kernel_rfl) rfl λK hK=>?_
   go_simp;refine hK.out _ _ (Ca (o:=7) (by decide) y1) (λhH2=>?_);clear hK K;try simp only[Act.put,mM,mP,mO]
   refine UM (by kernel_rfl) ?_ _;go_wp2_with fail
   go_meet
   exact⟨_,ag.out.Wv _,(by rw[show l.length+1=(l++[((k,at',T):Tk)]).length from by simp];exact qw av.out 7 _),oL (Below.grown (aK.out.mono (AV aC.out)) aN.out (Rj aB.out) (λq hq=>Rj (aj.out.lt q hq).1)) (mJ a) 7 _⟩
  skip
  go_simp;refine hK.out _ _ (x1) (λhH2=>?_);clear hK K;try simp only[Act.put,mM,mP,mO]
  refine Uh 4 (by kernel_rfl) rfl λK hK=>?_
  go_simp;refine hK.out _ _ (x1) (λhH2=>?_);clear hK K;try simp only[Act.put,mM,mP,mO]
  refine Uh 13 (by kernel_rfl) rfl λK hK=>?_
  refine vX XG rfl (.tmp 52) (.tmp 60) rfl (a+1) v l rfl aM.out W.heap.size 1 [((k,at',T):Tk)] rfl rfl aA.out aL.out HL2.out aB.out ?_;intro v2 w2 hown2 hg2;obtain⟨a2,cap2,rfl⟩:=(Reads.mW (E:=qB) hown2).shape;have ag:=eu (aJ.out.grown hg2 aF.out);have y1:=ag.out.c.2.1;have y7:=ag.out.c.2.2.2.2.2.2.2;have y3:=ag.out.f 7;obtain⟨av,aN⟩:=mR hown2 hg2;clear hown2 hg2;refine hK.out _ _ (y1) (λhH2=>?_);clear hK K;try simp only[Act.put,mM,mP,mO]
  refine zg 14 (.pointer (some ⟨a,0,none⟩)) rfl (by kernel_rfl) rfl mD (λW hW=>by go_simp) hH2 ?_;refine zg 15 (.pointer (some ⟨a,7,none⟩)) rfl (by kernel_rfl) rfl mD (λW hW=>by go_simp) hH2 ?_;refine Uh 16 (by kernel_rfl) rfl λK hK=>?_
  go_simp;refine hK.out _ _ (Ca (o:=7) (by decide) y1) (λhH2=>?_);clear hK K;try simp only[Act.put,mM,mP,mO]
  refine UM (by kernel_rfl) ?_ _;go_wp2_with fail
  go_meet
  exact⟨_,ag.out.Wv _,(by rw[show l.length+1=(l++[((k,at',T):Tk)]).length from by simp];exact qw av.out 7 _),oL (Below.grown (aK.out.mono (AV aC.out)) aN.out (Rj aB.out) (λq hq=>Rj (aj.out.lt q hq).1)) (mJ a) 7 _⟩
 case rest=>
  obtain⟨v2,hM2,hO2,hB2⟩:=hcut;obtain⟨ag,aR,HB3⟩:=nY hM2 hO2 (aQ.out.trans hB2);obtain⟨c0,c1,c2,c3,c4,c5,c6,c7⟩:=hM2.c;have f1:=hM2.f 1;clear hM2 hO2 hB2 ak aj aA aJ aK aL HL2 aB aF aC aM d1 d7 x1 x7 x3 hne0 c0 c2 c3 c4 c5 c6 c7;go_wp2_with fail
  go_end0
  exact⟨rfl,v2,aa,by rw[<-av.out];exact ag.out.set1 T,qw aR.out 1 _,oL HB3.out (mJ a) 1 _,aO.out⟩
end
section
open Go.RowKit
open Sg
open Sq
theorem Pq{w:World}{b off cap n:Nat}(hn:n<=16384):
 Calls prog 54 #[.slice (some ⟨b,off,none⟩) n cap,.int .i64 n] w λe w'=>e=.returned (.int .i64 (0:Nat))/\w=w':=by
 go_enter func54,ntmps54
 go_wp2_with fail
 go_ret;exact⟨rfl,rfl⟩
theorem Pt{w:World}{b off cap n:Nat}{L:List Nat}(i:Nat)(hi:i<=n)(hn:L.length=n)(hm:n<=16384)(hT:yO w b off L):
 Calls prog 54 #[.slice (some ⟨b,off,none⟩) n cap,.int .i64 i] w λe w'=>e=.returned (.int .i64 (Sc.rz (L.drop i)))/\w=w':=by
 rcases oh L i with⟨h1,h2⟩|⟨c,t,h1,h2,h3⟩
 ·obtain rfl:i=n:=by omega
  rw[h1];exact Pq hm
 rw[h1];exact x8 i c t hn (by omega) hT h1
theorem CG(a:Nat)(B v:Value)(at' row op base text:Int)(olyX:Bool)(w:World)(hM:sO w a B v at' row op base text olyX):
 Calls prog 32 #[.pointer (some ⟨a,0,none⟩)] w λe w'=>e=.returned (.tuple #[])/\w'=((w.setCell ⟨a,2,none⟩ (.int .i64 at')).setCell ⟨a,4,none⟩ (.int .i64 (-1))).setCell ⟨a,5,none⟩ (.bool true):=by
 obtain⟨c0,c1,c2,c3,c4,c5,c6,c7⟩:=hM.c;have f2:=hM.f 2;have f4:=hM.f 4;have f5:=hM.f 5;clear hM c0 c3 c6 c7
 go_enter func32,ntmps32
 go_wp2_with fail
 go_end0
 exact⟨rfl,rfl⟩
def sN(L:List Nat)(aa:List Tk)(a:Nat)(B:Value)(w:World)(p:Nat):Prop:=
 ∃(v:Value)(row:Nat)(l:List Tk)(st:Sc.St),sO w a B v p row st.op st.base (st.least-1) st.dash/\Row w a v l/\Sc.bu L aa l st p/\row+st.mE=p
theorem sN.fresh{L:List Nat}{aa l:List Tk}{a:Nat}{B v:Value}{w:World}{p op:Nat}(h:sO w a B v p p op (-1) (-2) true)(hO:Row w a v l)(hG:Sc.bu L aa l (Sc.fresh op (-1)) p):sN L aa a B w p:=
 ⟨v,p,l,Sc.fresh op (-1),by show sO w a B v p p op (-1) (-1-1) true;exact h,hO,hG,xh p⟩
theorem SH(D:List Nat):Sc.run Sc.blk D=Sc.run Sc.wZ D+Sc.run Sc.blk (D.drop (Sc.run Sc.wZ D)):=by
 induction D with
 |nil=>rfl
 |cons c t ih=>
  cases h:Sc.wZ c with
  |true=>
   have hb:Sc.blk c=true:=by simp[Sc.wZ,Sc.blk]at*;exact .inl h
   rw[Sc.oO,Sc.oO,gu hb,gu h,Ld,ih];omega
  |false=>rw[Sc.oO Sc.wZ,fu (by rw[h];simp)];simp
theorem Pv{L:List Nat}{aa l:List Tk}{op:Nat}{least:Int}{p:Nat}(h:Sc.xq L aa l op least p)(hd:L.drop p=[]):Sc.bu L aa l (Sc.fresh op (-1)) p:=by
 refine⟨?_,λ_=>rfl,h.op,⟨pW _,by show(-1:Int)<=(p:Int);omega⟩,pW _,h.len,nO _,λhc=>absurd rfl hc⟩;have:=h.tot;rw[hd]at this⊢;exact this
theorem SI(least:Int)(D:List Nat)(h0:0<=least)(hm:Sc.markT D=0):Sc.isText least (Sc.ni D)=true↔¬(Sc.run Sc.blk D<Sc.nP D/\(Sc.run Sc.wZ D:Int)<=least-1):=by
 have h1:=Sc.zB Sc.blk Sc.xZ D;unfold Sc.isText;rw[Sc.uL,Sc.tu _ Sc.xZ,Sc.tu _ Sc.FC,Sc.pN,Nv];constructor
 ·rintro⟨-,-,h⟩;omega
 intro h;exact⟨by omega,hm,by omega⟩
theorem Mj(least:Int)(D:List Nat)(hm:Sc.markT D≠0):Sc.isText least (Sc.ni D)=false:=by
 unfold Sc.isText;rw[Sc.uL];simp[hm]
end
section
open Go.RowKit
open Sg
open Sq
theorem yO.low{w w':World}{b off a:Nat}{L:List Nat}(h:yO w b off L)(hb:Below a w w')(hab:b<a):yO w' b off L:=λj c hj=>by
 rw[hb.cell (p:=⟨b,off+j,none⟩) hab];exact h j c hj
theorem Vl(a b off cap n op:Nat)(bs:Int)(hbs:-1<=bs)(L:List Nat)(ai l0:List Tk)(p0:Nat)(v0:Value)(w:World)(hn:L.length=n)(hm:n<=16384)(hab:b<a)(hp0:p0<=n)
 (hM:sO w a (.slice (some ⟨b,off,none⟩) n cap) v0 p0 p0 op (-1) bs true) (hO:Row w a v0 l0) (hG:Sc.xq L ai l0 op (bs+1) p0) (hT:yO w b off L):
 Calls prog 55 #[.pointer (some ⟨a,0,none⟩)] w λe w'=>e=.returned (.tuple #[])/\∃p',p0<=p'/\p'<=n/\sN L ai a (.slice (some ⟨b,off,none⟩) n cap) w' p'/\Below a w w':=by
 obtain⟨B,hB⟩:=my (Value.slice (some ⟨b,off,none⟩) n cap);rw[hB]at hM⊢;obtain⟨c0,c1,c2,c3,c4,c5,c6,c7⟩:=hM.c;have f6:=hM.f 6;have aA:=eu (hM.Rx (-2));have aB:=eu (qw hO 6 (.int .i64 (-2)));have HB0:=eu (oL (mF a w) (mJ a) 6 (.int .i64 (-2)));obtain⟨aC,HT,HN,aP⟩:=qg hG hT hn hB;clear hM hO hG hT hn hB c0 c1 c2 c3 c4 c5 c7
 go_enter func55,ntmps55
 go_wp2_with fail
 go_loopg [] n (λgf wr=>∃(v:Value)(l:List Tk)(p:Nat),Hid (sO wr a B v p p op (-1) (-2) true)/\Hid (Row wr a v l)/\Hid (Sc.xq L ai l op (bs+1) p)/\Hid (Below a w wr)/\p0<=p/\p<=n/\n<=p+gf)
 case atStart=>exact⟨v0,l0,p0,aA,aB,aC,HB0,mJ _,hp0,by omega⟩
 case round=>
  obtain⟨v,l,p,HM,HO,HG,HB,hp1,hp2,hgf⟩:=hrel;clear aA aB HB0 aC c6 f6;obtain⟨c0,c1,c2,c3,c4,c5,c6,c7⟩:=HM.out.c;rw[<-aP.out]at c0;clear c2 c3 c4 c5 c6 c7;by_cases hpn:p<n
  ·have i1:(p:Int)<(n:Int):=by omega
   have ak:=eu (HT.out.low HB.out hab);have aa:=eu (λk=>nG (mF wr.heap.size wr) k);have hmk:=λW (hb:Below wr.heap.size wr W)=>Ua (w:=W) (a:=a) (cap:=cap) p HN.out hm hpn (ku hb c0) (ak.out.below hb)
   obtain⟨mk,ae⟩:=my (Sc.markT (L.drop p));rw[ae]at hmk;obtain⟨aD,av⟩:=mR hmk ae;clear hmk ae;go_wp2_with fail
   go_big_quiet (exact(aD.out _ (aa.out _)).mono λ_ _ h=>⟨h.1,_,h.2.symm⟩)
   have hbq:=aa.out nq;have c0:=ku hbq c0;have c1:=ku hbq c1;have af:=eu (HM.out.below hbq);have ag:=eu (show Row (wr.drewN nq) a v l from mU HO.out hbq);have HB1:=eu (HB.out.Cy (mJ a) (hbq.mono (AV HM.out.lt)));have aj:=eu (ak.out.below hbq);clear hbq aD aa ak HM HO HB;generalize wr.drewN nq=W at*;by_cases hmz:mk=0
   ·subst hmz;obtain⟨D,hD⟩:=my (L.drop p);have hDl:D.length=n-p:=by rw[<-hD,oz,HN.out]
    have hrl:=Sc.ru D;have hs1:=Sc.zB _ Sc.FC D;have hs2:=Sc.zB _ Sc.xZ D;have hs3:=SH D;obtain⟨rn,hrn⟩:=my (Sc.nP D);obtain⟨sp,hsp⟩:=my (Sc.run Sc.wZ D);obtain⟨bl,hbl⟩:=my (Sc.run Sc.blk D);rw[hrn]at hrl hs1 hs2;rw[hsp]at hs1 hs3;rw[hbl]at hs2 hs3;obtain⟨E,hE⟩:=my (p+rn);obtain⟨N1,hN1⟩:=my (p+sp);obtain⟨M1,hM1⟩:=my (p+bl);have aQ:E<=n:=by omega
    have aF:N1<=E:=by omega
    have bf:p<=E:=by omega
    have aX:M1<=E:=by omega
    have aY:N1<=M1:=by omega
    have aG:=eu (FD (w:=W) (a:=a) (cap:=cap) p E HN.out hm hp2 (by rw[hD,hrn];exact hE) c0 aj.out);have HS2:=eu (show p+Sc.run Sc.wZ (L.drop p)=N1 by rw[hD,hsp];exact hN1);have aH:=eu (show N1+Sc.run Sc.blk (L.drop N1)=M1 by rw[<-hN1,<-sG,hD];omega);have hti:=SI (bs+1) D (by omega) (by rw[<-hD];exact av.out);rw[hbl,hrn,hsp,show bs+1-1=bs by omega]at hti;have ax:=eu (show Sc.isText (bs+1) (Sc.ni (L.drop p))=true↔¬(M1<E/\(sp:Int)<=bs)by rw[hD,hti];omega);obtain⟨Bk,ay⟩:=my (Sc.rz (L.drop E));have hBr:=Pt (w:=W) (b:=b) (off:=off) (cap:=cap) E aQ HN.out hm aj.out;have hB2:=Gw (L.drop E);rw[ay]at hBr hB2;have aR:=eu hBr;have aS:=eu (show Sc.nP (L.drop p)+Sc.rz ((L.drop p).drop (Sc.nP (L.drop p)))=rn+Bk by rw[hD,hrn,<-ay,<-hE,<-sG,hD]);have e1:(N1:Int)-(p:Int)=(sp:Int):=by omega
    have w1:IntKind.i64.wrap (sp:Int)=(sp:Int):=qA _ (by omega);obtain⟨aI,HE⟩:=mR e1 hE;have aZ:sp<=n:=by omega
    clear e1 hD hDl hrl hs1 hs2 hs3 hrn hsp hbl hE hN1 hM1 hti ay hBr av;go_wp2_with fail
    refine aG.out.mono ?_;rintro e w2 ⟨rfl,rfl⟩;clear aG
    go_upto_block 2 with fail
    go_cut [4] (λq wx=>q=.int .i64 N1/\W=wx)
    case first=>
     go_wp2_with fail
     go_loopw [4] (λis wr=>∃k:Nat,is=.int .i64 k/\k<=E/\Hid (k+Sc.run Sc.wZ (L.drop k)=N1)/\W=wr) (λis _=>E-(intOf is).toNat)
     case atStart=>exact⟨p,rfl,by omega,HS2,rfl⟩
     case round=>
      obtain⟨k,rfl,hk,HK,rfl⟩:=hrel;by_cases hke:k<E
      ·have j1:(k:Int)<(E:Int):=by omega
       have j2:(k:Int)<(n:Int):=by omega
       rcases oh L k with⟨h1,h2⟩|⟨x,u,h1,h2,h3⟩
       ·have:=HN.out;omega
       have d:=aj.out.at_ h1;by_cases q:x=32
       ·have g:((x:Int)==32)=true:=by simp;omega
        have HR:=eu (show(k+1)+Sc.run Sc.wZ (L.drop (k+1))=N1 by have:=HK.out;rw[h1,Sc.oO,gu (by simp[Sc.wZ,q])]at this;rw[h2];omega);clear h1 h2 h3 HK q;go_wp2_with fail
        go_roundw
        case rel=>exact⟨k+1,by go_num,by omega,HR,trivial⟩
        case measure=>simp[intOf];omega
       have g:((x:Int)==32)=false:=by simp;omega
       have HR:=eu (show N1=k by have:=HK.out;rw[h1,Sc.oO,fu (by simp[Sc.wZ,q])]at this;omega);clear h1 h2 h3 HK q;go_wp2_with fail
       go_meet
       exact⟨by rw[HR.out],rfl⟩
      obtain rfl:k=E:=by omega
      have HR:=eu (show N1=k by have:=HK.out;omega);clear HK;go_wp2_with fail
      go_meet
      exact⟨by rw[HR.out],rfl⟩
    case rest=>
    obtain⟨rfl,rfl⟩:=hcut
    go_upto_block 4 with fail
    go_cut [5] (λq wx=>q=.int .i64 M1/\W=wx)
    case first=>
     go_wp2_with fail
     go_loopw [5] (λis wr=>∃k:Nat,is=.int .i64 k/\k<=E/\Hid (k+Sc.run Sc.blk (L.drop k)=M1)/\W=wr) (λis _=>E-(intOf is).toNat)
     case atStart=>exact⟨N1,rfl,aF,aH,rfl⟩
     case round=>
      obtain⟨k,rfl,hk,HK,rfl⟩:=hrel;by_cases hke:k<E
      ·have j1:(k:Int)<(E:Int):=by omega
       have j2:(k:Int)<(n:Int):=by omega
       rcases oh L k with⟨h1,h2⟩|⟨x,u,h1,h2,h3⟩
       ·have:=HN.out;omega
       have d:=aj.out.at_ h1;have hbx:=uM x W;obtain⟨Bx,hBx⟩:=my (Sc.blk x);rw[hBx]at hbx;have aJ:=eu hbx;cases Bx with
       |true=>
        have HR:=eu (show(k+1)+Sc.run Sc.blk (L.drop (k+1))=M1 by have:=HK.out;rw[h1,Sc.oO,gu hBx]at this;rw[h2];omega);clear h1 h2 h3 HK hbx hBx;go_wp2_with fail
        refine aJ.out.mono ?_;rintro e w2 ⟨rfl,rfl⟩;go_wp2_with fail
        go_roundw
        case rel=>exact⟨k+1,by go_num,by omega,HR,trivial⟩
        case measure=>simp[intOf];omega
       |false=>
        have HR:=eu (show M1=k by have:=HK.out;rw[h1,Sc.oO,fu (by rw[hBx];simp)]at this;omega);clear h1 h2 h3 HK hbx hBx;go_wp2_with fail
        refine aJ.out.mono ?_;rintro e w2 ⟨rfl,rfl⟩;go_wp2_with fail
        go_meet
        exact⟨by rw[HR.out],rfl⟩
      obtain rfl:k=E:=by omega
      have HR:=eu (show M1=k by have:=HK.out;omega);clear HK;go_wp2_with fail
      go_meet
      exact⟨by rw[HR.out],rfl⟩
    case rest=>
    obtain⟨rfl,rfl⟩:=hcut;clear HS2 aH;have HAdd:=eu (fun(T:Nat)(h1:T<=100000)=>Ec 19 T 0 p p op (-1) (-2) true a B v l W af.out ag.out (xh p) h1 (by omega) (by have:=HG.out.len;omega) (pW _));have aK:=eu (λh=>HG.out.text (n:=rn+Bk) (by rw[HN.out];exact hpn) h aS.out);obtain⟨T,aT⟩:=my (E+Bk);have e2:(E:Int)+(Bk:Int)=(T:Int):=by omega
    have w2:IntKind.i64.wrap (T:Int)=(T:Int):=qA _ (by omega);have HA2:=eu (HAdd.out T (by omega))
    have aL:=eu (λh=>show Sc.xq L ai (l++[(19,p,T)]) op (bs+1) T/\p<T/\T<=n by
     have h':=aK.out h;rw[HN.out,show p+(rn+Bk)=T by have:=HE.out;omega]at h';have h2:=h'.2.1
     exact⟨h'.1,by have:=HE.out;omega,h'.2.2⟩)
    have e1:=aI.out;obtain⟨R,hR⟩:=my (decide (M1<E/\(sp:Int)<=bs));obtain⟨HR,HW,HE2⟩:=nY hR w2 e2;clear hR aT e2 w2 HAdd aK;go_upto_region 10 with fail
    go_cut [85] (λq wx=>q=.bool R/\W=wx)
    case first=>
     by_cases q1:M1<E
     ·have j1:(M1:Int)<(E:Int):=by omega
      by_cases q2:(sp:Int)<=bs
      ·have HX:=eu (show R=true by rw[<-HR.out];exact oP ⟨q1,q2⟩);have HY:=eu (oP q2);clear q1;go_wp2_with fail
       go_meet
       exact⟨by rw[HX.out],rfl⟩
      have HX:=eu (show R=false by rw[<-HR.out];exact nK (λh=>q2 h.2));have HY:=eu (nK q2);clear q1;go_wp2_with fail
      go_meet
      exact⟨by rw[HX.out],rfl⟩
     obtain rfl:M1=E:=by omega
     have HX:=eu (show R=false by rw[<-HR.out];exact nK (λh=>q1 h.1));clear q1;go_wp2_with fail
     go_meet
     exact⟨by rw[HX.out],rfl⟩
    case rest=>
    obtain⟨rfl,rfl⟩:=hcut;clear e1 w1 aI;cases R with
    |true=>
     have ah:=eu (HG.out.row (by
      rw[Im];intro h
      exact ax.out.1 h (xS HR.out)))
     go_wp2_with fail
     refine yJ (results_none rfl _ _ _) rfl ?_;exact⟨rfl,p,hp1,hp2,sN.fresh af.out ag.out ah.out,HB1.out⟩
    |false=>
     obtain⟨g1,g2,g3⟩:=aL.out (ax.out.2 (UG HR.out));have aU:=eu g1;have e2:=HE2.out;have w2:=HW.out;clear g1 HE2 HW aL ax HR;go_wp2_with fail
     refine aR.out.mono ?_;rintro e w3 ⟨rfl,rfl⟩;go_wp2_with fail
     refine HA2.out.mono ?_;rintro e w3 ⟨rfl,v2,az,hM2,hO2,hB2,-⟩;obtain⟨aM,aN,HB2⟩:=nY hM2 hO2 (HB1.out.trans hB2);have aO:=eu (CG a B v2 T p op az (-2) _ w3 hM2);clear hM2 hO2 hB2 e2 w2;go_wp2_with fail
     refine aO.out.mono ?_;rintro e w4 ⟨rfl,rfl⟩;have aV:=eu (((aM.out.set2 T).Ru (-1)).Rv true);have aW:=eu (qw (qw (qw aN.out 2 (.int .i64 T)) 4 (.int .i64 (-1))) 5 (.bool true));have HB3:=eu (oL (oL (oL HB2.out (mJ a) 2 (.int .i64 T)) (mJ a) 4 (.int .i64 (-1))) (mJ a) 5 (.bool true));clear aM aN HB2 aO;generalize ((w3.setCell ⟨a,2,none⟩ (.int .i64 T)).setCell ⟨a,4,none⟩ (.int .i64 (-1))).setCell ⟨a,5,none⟩ (.bool true)=W4 at*;go_wp2_with fail
     go_roundg (gk-1)
     case measure=>omega
     case rel=>exact⟨v2,l++[(19,p,T)],T,aV,aW,aU,HB3,by omega,g3,by omega⟩
   have gm:((mk:Int)==0)=false:=by simp;omega
   have ah:=eu (HG.out.row (Mj (bs+1) _ (by rw[av.out];exact hmz)));clear hmz;go_wp2_with fail
   go_end0
   exact⟨rfl,p,hp1,hp2,sN.fresh af.out ag.out ah.out,HB1.out⟩
  have i1:¬((p:Int)<(n:Int)):=by omega
  have ah:=eu (Pv HG.out (uQ (by rw[HN.out];omega)));have aa:=eu (λk=>nG (mF wr.heap.size wr) k);go_wp2_with fail
  go_big_quiet (fail)
  have hbq:=aa.out nq;have af:=eu (HM.out.below hbq);have ag:=eu (show Row (wr.drewN nq) a v l from mU HO.out hbq);have HB1:=eu (HB.out.Cy (mJ a) (hbq.mono (AV HM.out.lt)));clear hbq;generalize wr.drewN nq=W at*;go_wp2_with fail
  go_end0
  exact⟨rfl,p,hp1,hp2,sN.fresh af.out ag.out ah.out,HB1.out⟩
end
namespace Sc
theorem Pw(op:Nat)(dash blank:Bool)(r:List Nat)(hm:mark r=0)(hs:0<run wZ r):next op dash blank true r=(2,run wZ r):=by
 unfold next;rw[fu (by omega),gu ⟨rfl,hs⟩]
theorem Jj(op:Nat)(dash blank first:Bool)(r:List Nat)(hm:first=true->mark r=0)(hs:first=true->run wZ r=0)(hb:0<run blk r):next op dash blank first r=(3,run blk r):=by
 unfold next;rw[fu (λh=>by have:=hm h.1;omega),fu (λh=>by have:=hs h.1;omega),gu hb]
theorem Mk(op:Nat)(dash blank first:Bool)(r:List Nat)(hm:first=true->mark r=0)(hs:first=true->run wZ r=0)(hb:run blk r=0)(hh:hsh r=true)(hf:first=true\/blank=true):next op dash blank first r=(4,r.length):=by
 unfold next;rw[fu (λh=>by have:=hm h.1;omega),fu (λh=>by have:=hs h.1;omega),fu (by omega),gu ⟨hh,hf⟩]
theorem Ml(op:Nat)(dash blank first:Bool)(r:List Nat)(hm:first=true->mark r=0)(hs:first=true->run wZ r=0)(hb:run blk r=0)(hh:¬(hsh r=true/\(first=true\/blank=true))):next op dash blank first r=word op dash r:=by
 unfold next;rw[fu (λh=>by have:=hm h.1;omega),fu (λh=>by have:=hs h.1;omega),fu (by omega),fu hh]
end Sc
section
open Go.RowKit
open Sg
open Sq
theorem sN.on{L:List Nat}{ae l:List Tk}{a:Nat}{B:Value}{w w':World}{p k m row:Nat}{st:Sc.St}{text:Int}(h:Sc.bu L ae l st p)(hr:Sc.nP (L.drop p)≠0)(hn:Sc.next st.op st.dash st.blank (st.mE==0) (Sc.ni (L.drop p))=(k,m))
 (hc:row+st.mE=p) (hA:Gd a B (p+m) st.mE k row (Sc.opens st.op k) st.base text st.dash (l++[(k,p,p+m)]) w w') (hk:k≠19) (ht:text=(Sc.take st k m).least-1):
 sN L ae a B w' (p+m):=by
 obtain⟨v2,aa,h1,h2,h3,h4⟩:=hA;obtain⟨g1,g2,g3⟩:=h.on hr hn;have hb:aa=(Sc.take st k m).base:=by
  rw[h4];show _=if st.base=-1/\Sc.counts k=true then(st.mE:Int)else st.base
  by_cases q:st.base=-1/\Sc.counts k=true
  ·rw[gu q,gu ⟨q.1,q.2,hk⟩]
  rw[fu q,fu (λg=>q ⟨g.1,g.2.1⟩)]
 refine⟨v2,row,l++[(k,p,p+m)],Sc.take st k m,?_,h2,g1,?_⟩
 ·rw[<-hb,<-ht];exact h1
 show row+(st.mE+m)=p+m;omega
def Ry(k:Nat):Bool:=k==2||k==3||k==4||k==5||k==6||k==7||k==12||k==13||k==14||k==15||k==16||k==17||k==22
theorem SK{k:Nat}(h:Ry k=true):k≠19/\k≠18/\k≠8/\k≠9/\k≠10/\k≠11/\k≠20/\k≠21:=by simp[Ry]at h;omega
theorem Rz{L:List Nat}{aa l:List Tk}{a n p k m T row:Nat}{B v:Value}{st:Sc.St}(w:World)(hn:L.length=n)(hm:n<=16384)(hM:sO w a B v p row st.op st.base (st.least-1) st.dash)(hO:Row w a v l)(hG:Sc.bu L aa l st p)(hc:row+st.mE=p)
 (hr:Sc.nP (L.drop p)≠0) (hx:Sc.next st.op st.dash st.blank (st.mE==0) (Sc.ni (L.drop p))=(k,m)) (hk:Ry k=true) (hT:p+m=T):
 Calls prog 34 #[.pointer (some ⟨a,0,none⟩),.int .i64 k,.int .i64 T] w λe w'=>e=.returned (.tuple #[])/\sN L aa a B w' T/\Below a w w'/\p<T/\T<=n:=by
 obtain⟨ae,af,q8,q9,ah,ai,aj,ak⟩:=SK hk;obtain⟨g1,g2,g3⟩:=hG.on hr hx;have hrl:=Sc.ru (L.drop p);rw[oz,hn]at hrl;subst hT;refine(Ec k (p+m) st.mE p row st.op st.base (st.least-1) st.dash a B v l w hM hO hc (by omega) (by omega) (by have:=hG.len;omega) hG.base.1).mono ?_;rintro e w' ⟨rfl,hA⟩;have hop:Sc.opens st.op k=st.op:=by unfold Sc.opens;rw[fu (by omega),fu (by omega),fu (by omega)]
 have hle:(Sc.take st k m).least=st.least:=by show(if k=18 then _ else st.least)=st.least;rw[fu af]
 refine⟨rfl,sN.on hG hr hx hc (by rw[hop];exact hA) ae (by rw[hle]),?_,by omega,by omega⟩;obtain⟨v2,ag,-,-,h3,-⟩:=hA;exact h3
end
section
open Go.RowKit
open Sg
open Sq
def wF(L:List Nat)(aa:List Tk)(a:Nat)(B:Value)(n p:Nat)(st:Sc.St)(w:World)(e:Ending)(w':World):Prop:=
 (e=.returned (.bool true)/\∃p',sN L aa a B w' p'/\Below a w w'/\p<p'/\p'<=n)\/
 (e=.returned (.bool false)/\Below w.heap.size w w'/\(∃c t,L.drop p=c::t/\Sc.brk c=false/\Sc.blk c=false)/\Sc.next st.op st.dash st.blank (st.mE==0) (Sc.ni (L.drop p))=Sc.word st.op st.dash (Sc.ni (L.drop p)))
theorem Vm(a b off cap n p row:Nat)(L:List Nat)(af l:List Tk)(v:Value)(st:Sc.St)(w:World)(hn:L.length=n)(hm:n<=16384)(hab:b<a)(hp:p<n)(hT:yO w b off L)
 (hM:sO w a (.slice (some ⟨b,off,none⟩) n cap) v p row st.op st.base (st.least-1) st.dash) (hO:Row w a v l) (hG:Sc.bu L af l st p) (hc:row+st.mE=p) (hmk:st.mE=0->Sc.markT (L.drop p)=0):
 Calls prog 35 #[.pointer (some ⟨a,0,none⟩)] w (wF L af a (.slice (some ⟨b,off,none⟩) n cap) n p st w):=by
 obtain⟨c0,c1,c2,c3,c4,c5,c6,c7⟩:=hM.c;rcases oh L p with⟨h1,h2⟩|⟨c,t,h1,h2,h3⟩
 ·omega
 have d:=hT.at_ h1;obtain⟨B,hB⟩:=my (Value.slice (some ⟨b,off,none⟩) n cap);have i1:(p:Int)<(n:Int):=by omega
 have HB:=eu (λk=>nG (mF w.heap.size w) k);have HM:=eu (λW (hb:Below w.heap.size w W)=>hM.below hb);have HO:=eu (λW (hb:Below w.heap.size w W)=>show Row W a v l from mU hO hb);have HT:=eu (λW (hb:Below w.heap.size w W)=>hT.below hb);have aj:=eu (λW (hb:Below w.heap.size w W)=>hb.mono (AV hM.lt));obtain⟨HG,HN⟩:=mR hG hn;have ay:=eu (λW (hb:Below w.heap.size w W)=>x8 (w:=W) (b:=b) (off:=off) (cap:=cap) p c t hn (by omega) (hT.below hb) h1);obtain⟨H1,HC,aW,aa⟩:=qg h1 hc hmk hB;have hll:=hG.len;have HLen:=eu hll;obtain⟨F,hF⟩:=my ((st.mE==0));have bn:((p:Int)==(row:Int))=F:=by rw[<-hF,zS];simp;omega
 have HF:=eu hF;have hz:=vR c t;obtain⟨Z,hZ⟩:=my (Sc.rz (c::t));rw[hZ]at hz ay;have HZ:=eu hZ;have hz2:=Gw (c::t);rw[hZ]at hz2;clear hT hM hO hG hn h1 h2 h3 hc hmk hF hll c3 c4 c5 hZ hB
 go_enter func35,ntmps35
 go_wp2_with fail
 go_big_quiet (fail)
 have hb:=HB.out nq;have c0:=ku hb c0;have c1:=ku hb c1;have c2:=ku hb c2;have c6:=ku hb c6;have c7:=ku hb c7;have ah:=eu hb;clear hb;generalize w.drewN nq=W at*;cases hbr:Sc.brk c with
 |true=>
  have gz:(0:Int)<(Z:Int):=by have:=mt hz.1 (by rw[hbr];simp);omega
  obtain⟨T,ae⟩:=my (p+Z);have e1:(p:Int)+(Z:Int)=(T:Int):=by omega
  have w1:IntKind.i64.wrap (T:Int)=(T:Int):=qA _ (by omega);have hgb:=HG.out.brk (by rw[H1.out];exact(Sc.rJ c t hbr).2) (by rw[H1.out,HZ.out];omega);rw[H1.out,HZ.out,ae,HN.out]at hgb;have az:=eu hgb;have HAdd:=eu (Ec 1 T st.mE p row st.op st.base (st.least-1) st.dash a B v l W (by rw[<-aa.out];exact HM.out W ah.out) (HO.out W ah.out) HC.out (by omega) (by omega) (by have:=HLen.out;omega) HG.out.base.1);have aN:=eu (show p<T by omega);obtain⟨bs,hbs⟩:=my (st.least-1);rw[hbs]at HAdd c6;obtain⟨aC,aX⟩:=mR hbs HG.out.least;clear ae hgb hz hbs;go_wp2_with fail
  refine(ay.out W ah.out).mono ?_;rintro e w2 ⟨rfl,rfl⟩;go_wp2_with fail
  refine HAdd.out.mono ?_;rintro e w2 ⟨rfl,v2,aD,hM2,hO2,hB2,-⟩;obtain⟨aO,aP⟩:=mR hM2 hO2;have HB2:=eu ((aj.out W ah.out).trans hB2);have ag:=eu (CG a B v2 T row st.op aD bs _ w2 hM2);have c6:=hM2.c.2.2.2.2.2.2.1;clear hM2 hO2 hB2 e1 w1 c0 c1 c2 c7;go_wp2_with fail
  refine ag.out.mono ?_;rintro e w4 ⟨rfl,rfl⟩;have aQ:=eu (((aO.out.set2 T).Ru (-1)).Rv true);have aR:=eu (qw (qw (qw aP.out 2 (.int .i64 T)) 4 (.int .i64 (-1))) 5 (.bool true));have HB3:=eu (oL (oL (oL HB2.out (mJ a) 2 (.int .i64 T)) (mJ a) 4 (.int .i64 (-1))) (mJ a) 5 (.bool true));clear aO aP HB2 ag HAdd c6;generalize ((w2.setCell ⟨a,2,none⟩ (.int .i64 T)).setCell ⟨a,4,none⟩ (.int .i64 (-1))).setCell ⟨a,5,none⟩ (.bool true)=W4 at*;by_cases hl:-1<=bs
  ·have aS:=eu (Vl a b off cap n st.op bs hl L af (l++[(1,p,T)]) T v2 W4 HN.out hm hab az.out.2 (by rw[aa.out];exact aQ.out) aR.out (by rw[show bs+1=st.least by have:=aC.out;omega];exact az.out.1) ((HT.out w (mF _ _)).low HB3.out hab));rw[aa.out]at aS;go_wp2_with fail
   refine aS.out.mono ?_;rintro e w5 ⟨rfl,p',g1,g2,g3,g4⟩;have HD:=eu (show wF L af a B n p st w (.returned (.bool true)) w5 from .inl ⟨rfl,p',g3,HB3.out.trans g4,by have:=aN.out;omega,g2⟩);clear g1 g2 g3 g4;go_wp2_with fail
   go_ret;rw[aa.out];exact HD.out
  have HD:=eu (show wF L af a B n p st w (.returned (.bool true)) W4 from .inl ⟨rfl,T,by
   obtain rfl:bs=-2:=by have:=aC.out;have:=aX.out;omega
   have hle:st.least=-1:=by have:=aC.out;omega
   refine sN.fresh aQ.out aR.out ?_;have hgb:=az.out.1;rw[hle]at hgb
   exact hgb.row (by simp[Sc.isText]),HB3.out,aN.out,az.out.2⟩)
  have hl2:bs< -1:=by omega
  clear hl;go_wp2_with fail
  go_ret;rw[aa.out];exact HD.out
 |false=>
  obtain rfl:Z=0:=hz.2 hbr;have hrow:=Sc.qd c t hbr;have aF:=eu (show Sc.nP (L.drop p)≠0 by rw[H1.out,hrow.2];omega);have ak:=eu (show Sc.ni (L.drop p)=c::Sc.ni t by rw[H1.out];exact hrow.1);have aA:=eu (fun(g:(st.mE==0)=true)=>show Sc.mark (Sc.ni (L.drop p))=0 by rw[Sc.uL];exact aW.out (by simpa using g));obtain⟨Sp,hSp⟩:=my ((F&&(c==32)));have av:=eu hSp;clear hz hrow hSp;go_wp2_with fail
  refine(ay.out W ah.out).mono ?_;rintro e w2 ⟨rfl,rfl⟩;clear ay;go_upto_region 11 with fail
  go_cut [56] (λq wx=>q=.bool Sp/\Below W.heap.size W wx)
  case first=>
   cases F with
   |false=>
    have HX:=eu (show Sp=false by rw[<-av.out];rfl);go_wp2_with fail
    go_big_quiet (fail)
    have hbq:=nG (mF W.heap.size W) nq;go_wp2_with fail
    go_meet
    exact⟨by rw[HX.out],hbq⟩
   |true=>
    by_cases q:c=32
    ·have g:((c:Int)==32)=true:=by simp;omega
     have HX:=eu (show Sp=true by rw[<-av.out,q];rfl);clear q;go_wp2_with fail
     go_big_quiet (fail)
     have hbq:=nG (mF W.heap.size W) nq;go_wp2_with fail
     go_meet
     exact⟨by rw[HX.out],hbq⟩
    have g:((c:Int)==32)=false:=by simp;omega
    have HX:=eu (show Sp=false by rw[<-av.out];simp[q]);clear q;go_wp2_with fail
    go_big_quiet (fail)
    have hbq:=nG (mF W.heap.size W) nq;go_wp2_with fail
    go_meet
    exact⟨by rw[HX.out],hbq⟩
  case rest=>
  obtain⟨rfl,hb2⟩:=hcut;have c0:=ku hb2 c0;have c1:=ku hb2 c1;have c2:=ku hb2 c2;have c7:=ku hb2 c7;have HB2:=eu (ah.out.trans (hb2.mono ah.out.size));clear hb2 c6 d;generalize wc=W2 at*;cases Sp with
  |true=>
   have aG:F=true/\c=32:=by have:=av.out;simpa using this
   have aH:(st.mE==0)=true:=by rw[HF.out];exact aG.1
   have ag:=eu (show Sc.next st.op st.dash st.blank (st.mE==0) (Sc.ni (L.drop p))=(2,Sc.run Sc.wZ (L.drop p))by
    rw[aH,Sc.Pw _ _ _ _ (aA.out aH) (by rw[ak.out,Sc.oO,gu (by rw[aG.2];rfl)];omega),Sc.tu _ Sc.FC])
   obtain⟨T,ae⟩:=my (p+Sc.run Sc.wZ (L.drop p));clear aG aH;have HS:=eu (show p+Sc.run Sc.wZ (L.drop p)=T from ae);have aY:T<=n:=by have:=Sc.vw Sc.wZ (L.drop p);rw[oz,HN.out]at this;omega
   have ai:=eu (Rz (B:=B) (v:=v) (row:=row) W2 HN.out hm (by rw[<-aa.out];exact HM.out W2 HB2.out) (HO.out W2 HB2.out) HG.out HC.out aF.out ag.out rfl ae);have aI:=eu (HT.out W2 HB2.out);clear ae;go_wp2_with fail
   go_loopw [4] (λis wr=>∃k:Nat,is=.int .i64 k/\k<=n/\Hid (k+Sc.run Sc.wZ (L.drop k)=T)/\W2=wr) (λis _=>n-(intOf is).toNat)
   case atStart=>exact⟨p,rfl,by omega,HS,rfl⟩
   case round=>
    obtain⟨k,rfl,hk,HK,rfl⟩:=hrel;rcases oh L k with⟨h1,h2⟩|⟨x,u,h1,h2,h3⟩
    ·have j1:¬((k:Int)<(n:Int)):=by have:=HN.out;omega
     obtain rfl:T=k:=by have:=HK.out;rw[h1,show Sc.run Sc.wZ []=0 from rfl]at this;omega
     clear h1 h2 HK HS;go_wp2_with fail
     refine ai.out.mono ?_;rintro e w3 ⟨rfl,g1,g2,g3,g4⟩;have HD:=eu (show wF L af a B n p st w (.returned (.bool true)) w3 from .inl ⟨rfl,T,g1,(aj.out W2 HB2.out).trans g2,g3,g4⟩);clear g1 g2 g3 g4;go_wp2_with fail
     go_ret;rw[aa.out];exact HD.out
    have j1:(k:Int)<(n:Int):=by have:=HN.out;omega
    have dx:=aI.out.at_ h1;by_cases q:x=32
    ·have g:((x:Int)==32)=true:=by simp;omega
     have HR:=eu (show(k+1)+Sc.run Sc.wZ (L.drop (k+1))=T by have:=HK.out;rw[h1,Sc.oO,gu (by simp[Sc.wZ,q])]at this;rw[h2];omega);have hk2:k<n:=by omega
     clear h1 h2 h3 HK q;go_wp2_with fail
     go_roundw
     case rel=>exact⟨k+1,by go_num,by omega,HR,trivial⟩
     case measure=>simp[intOf];omega
    have g:((x:Int)==32)=false:=by simp;omega
    obtain rfl:T=k:=by have:=HK.out;rw[h1,Sc.oO,fu (by simp[Sc.wZ,q])]at this;omega
    clear h1 h2 h3 HK HS q;go_wp2_with fail
    refine ai.out.mono ?_;rintro e w3 ⟨rfl,g1,g2,g3,g4⟩;have HD:=eu (show wF L af a B n p st w (.returned (.bool true)) w3 from .inl ⟨rfl,T,g1,(aj.out W2 HB2.out).trans g2,g3,g4⟩);clear g1 g2 g3 g4;go_wp2_with fail
    go_ret;rw[aa.out];exact HD.out
  |false=>
   have aJ:=eu (fun(g:(st.mE==0)=true)=>show Sc.run Sc.wZ (Sc.ni (L.drop p))=0 by
    have:=av.out;rw[<-HF.out,g]at this
    rw[ak.out,Sc.oO,fu (by intro h;simp[Sc.wZ]at h;simp[h]at this)])
   have hbl:=uM c W2;obtain⟨Bl,hBl⟩:=my (Sc.blk c);rw[hBl]at hbl;have aK:=eu hbl;clear hbl;cases Bl with
   |true=>
    have ag:=eu (show Sc.next st.op st.dash st.blank (st.mE==0) (Sc.ni (L.drop p))=(3,Sc.run Sc.blk (L.drop p))by
     rw[Sc.Jj _ _ _ _ _ aA.out aJ.out (by rw[ak.out,Sc.oO,gu hBl];omega),Sc.tu _ Sc.xZ])
    obtain⟨T,ae⟩:=my (p+Sc.run Sc.blk (L.drop p));clear hBl;have HS:=eu (show p+Sc.run Sc.blk (L.drop p)=T from ae);have aY:T<=n:=by have:=Sc.vw Sc.blk (L.drop p);rw[oz,HN.out]at this;omega
    have ai:=eu (Rz (B:=B) (v:=v) (row:=row) W2 HN.out hm (by rw[<-aa.out];exact HM.out W2 HB2.out) (HO.out W2 HB2.out) HG.out HC.out aF.out ag.out rfl ae);have aI:=eu (HT.out W2 HB2.out);clear ae;go_wp2_with fail
    refine aK.out.mono ?_;rintro e w3 ⟨rfl,rfl⟩;go_wp2_with fail
    go_loopw [4] (λis wr=>∃k:Nat,is=.int .i64 k/\k<=n/\Hid (k+Sc.run Sc.blk (L.drop k)=T)/\W2=wr) (λis _=>n-(intOf is).toNat)
    case atStart=>exact⟨p,rfl,by omega,HS,rfl⟩
    case round=>
     obtain⟨k,rfl,hk,HK,rfl⟩:=hrel;rcases oh L k with⟨h1,h2⟩|⟨x,u,h1,h2,h3⟩
     ·have j1:¬((k:Int)<(n:Int)):=by have:=HN.out;omega
      obtain rfl:T=k:=by have:=HK.out;rw[h1,show Sc.run Sc.blk []=0 from rfl]at this;omega
      clear h1 h2 HK HS;go_wp2_with fail
      refine ai.out.mono ?_;rintro e w3 ⟨rfl,g1,g2,g3,g4⟩;have HD:=eu (show wF L af a B n p st w (.returned (.bool true)) w3 from .inl ⟨rfl,T,g1,(aj.out W2 HB2.out).trans g2,g3,g4⟩);clear g1 g2 g3 g4;go_wp2_with fail
      go_ret;rw[aa.out];exact HD.out
     have j1:(k:Int)<(n:Int):=by have:=HN.out;omega
     have dx:=aI.out.at_ h1;have hbx:=uM x W2;obtain⟨Bx,hBx⟩:=my (Sc.blk x);rw[hBx]at hbx;have aT:=eu hbx;cases Bx with
     |true=>
      have HR:=eu (show(k+1)+Sc.run Sc.blk (L.drop (k+1))=T by have:=HK.out;rw[h1,Sc.oO,gu hBx]at this;rw[h2];omega);have hk2:k<n:=by omega
      clear h1 h2 h3 HK hbx hBx;go_wp2_with fail
      refine aT.out.mono ?_;rintro e w3 ⟨rfl,rfl⟩;go_wp2_with fail
      go_roundw
      case rel=>exact⟨k+1,by go_num,by omega,HR,trivial⟩
      case measure=>simp[intOf];omega
     |false=>
      obtain rfl:T=k:=by have:=HK.out;rw[h1,Sc.oO,fu (by rw[hBx];simp)]at this;omega
      clear h1 h2 h3 HK HS hbx hBx;go_wp2_with fail
      refine aT.out.mono ?_;rintro e w3 ⟨rfl,rfl⟩;go_wp2_with fail
      refine ai.out.mono ?_;rintro e w3 ⟨rfl,g1,g2,g3,g4⟩;have HD:=eu (show wF L af a B n p st w (.returned (.bool true)) w3 from .inl ⟨rfl,T,g1,(aj.out W2 HB2.out).trans g2,g3,g4⟩);clear g1 g2 g3 g4;go_wp2_with fail
      go_ret;rw[aa.out];exact HD.out
   |false=>
    obtain⟨Cm,aU⟩:=my ((c==35&&(F||st.blank)));have ax:=eu aU;have aB:=eu (show Sc.run Sc.blk (Sc.ni (L.drop p))=0 by rw[ak.out,Sc.oO,fu (by rw[hBl];simp)]);have aZ:=eu hBl;clear aU hBl;go_wp2_with fail
    refine aK.out.mono ?_;rintro e w3 ⟨rfl,rfl⟩;clear aK;go_upto_region 21 with fail
    go_cut [147] (λq wx=>q=.bool Cm/\Below W2.heap.size W2 wx)
    case first=>
     by_cases q:c=35
     ·have g:((c:Int)==35)=true:=by simp;omega
      cases F with
      |true=>
       have HX:=eu (show Cm=true by rw[<-ax.out,q];rfl);clear q;go_wp2_with fail
       go_big_quiet (fail)
       have hbq:=nG (mF W2.heap.size W2) nq;go_wp2_with fail
       go_meet
       exact⟨by rw[HX.out],hbq⟩
      |false=>
       obtain⟨l0,⟨k,fr,tp⟩,hl0,hbk⟩:=HG.out.last (by have:=HF.out;simpa using this);have hR:=Reads.mW (E:=qB) (HO.out W2 HB2.out);rw[hl0]at hR;obtain⟨a',cap',rfl⟩:=hR.shape;obtain⟨tb,bg,rfl,d0,d1,d2⟩:=o8 hR l0.length (k,fr,tp) (by simp);obtain⟨nl,hnl⟩:=my (l0.length);have aL:(l0++[((k,fr,tp):Tk)]).length=nl+1:=by simp[hnl]
       rw[hnl]at d0;rw[aL]at c7;have hnb:nl+1<=20000:=by have:=HLen.out;rw[hl0,aL]at this;omega
       have e1:((nl+1:Nat):Int)-1=(nl:Int):=by omega
       have j1:(0:Int)<=(nl:Int):=by omega
       have j2:(nl:Int)<((nl+1:Nat):Int):=by omega
       simp only at d0 hbk;have aM:=eu (show Cm=(k==2||k==3)by rw[<-ax.out,q,hbk];rfl);clear hR hl0 hnl aL d1 d2 hbk q;by_cases k2:k=2
       ·have g2:((k:Int)==2)=true:=by simp;omega
        have HX:=eu (show Cm=true by rw[aM.out,k2];rfl);clear k2;go_wp2_with fail
        go_big_quiet (fail)
        have hbq:=nG (mF W2.heap.size W2) nq;go_wp2_with fail
        go_meet
        exact⟨by rw[HX.out],hbq⟩
       have g2:((k:Int)==2)=false:=by simp;omega
       by_cases k3:k=3
       ·have g3:((k:Int)==3)=true:=by simp;omega
        have HX:=eu (show Cm=true by rw[aM.out,k3];rfl);clear k2 k3;go_wp2_with fail
        go_big_quiet (fail)
        have hbq:=nG (mF W2.heap.size W2) nq;go_wp2_with fail
        go_meet
        exact⟨by rw[HX.out],hbq⟩
       have g3:((k:Int)==3)=false:=by simp;omega
       have HX:=eu (show Cm=false by rw[aM.out];simp[k2,k3]);clear k2 k3;go_wp2_with fail
       go_big_quiet (fail)
       have hbq:=nG (mF W2.heap.size W2) nq;go_wp2_with fail
       go_meet
       exact⟨by rw[HX.out],hbq⟩
     have g:((c:Int)==35)=false:=by simp;omega
     have HX:=eu (show Cm=false by rw[<-ax.out];simp[q]);clear q;go_wp2_with fail
     go_big_quiet (fail)
     have hbq:=nG (mF W2.heap.size W2) nq;go_wp2_with fail
     go_meet
     exact⟨by rw[HX.out],hbq⟩
    case rest=>
    obtain⟨rfl,hb3⟩:=hcut;have c0:=ku hb3 c0;have HB3:=eu (HB2.out.trans (hb3.mono HB2.out.size));clear hb3 c1 c2 c7;generalize wc=W3 at*;have aV:=eu (show Sc.hsh (Sc.ni (L.drop p))=(c==35)by rw[ak.out];rfl);cases Cm with
    |true=>
     have hq:c=35/\(F=true\/st.blank=true):=by have:=ax.out;simpa using this
     obtain⟨T,ae⟩:=my (p+Sc.nP (L.drop p))
     have ag:=eu (show Sc.next st.op st.dash st.blank (st.mE==0) (Sc.ni (L.drop p))=(4,Sc.nP (L.drop p))by
      rw[Sc.Mk _ _ _ _ _ aA.out aJ.out aB.out (by rw[aV.out,hq.1];rfl) (by rw[HF.out];exact hq.2),Sc.pN])
     have ai:=eu (Rz (B:=B) (v:=v) (row:=row) W3 HN.out hm (by rw[<-aa.out];exact HM.out W3 HB3.out) (HO.out W3 HB3.out) HG.out HC.out aF.out ag.out rfl ae);have bf:=eu (FD (w:=W3) (a:=a) (cap:=cap) p T HN.out hm (by omega) ae c0 (HT.out W3 HB3.out));clear hq ae;go_wp2_with fail
     refine bf.out.mono ?_;rintro e w4 ⟨rfl,rfl⟩;go_wp2_with fail
     refine ai.out.mono ?_;rintro e w4 ⟨rfl,g1,g2,g3,g4⟩;have HD:=eu (show wF L af a B n p st w (.returned (.bool true)) w4 from .inl ⟨rfl,T,g1,(aj.out W3 HB3.out).trans g2,g3,g4⟩);clear g1 g2 g3 g4;go_wp2_with fail
     go_ret;rw[aa.out];exact HD.out
    |false=>
     have HD:=eu (show wF L af a B n p st w (.returned (.bool false)) W3 from .inr ⟨rfl,HB3.out,⟨c,t,H1.out,hbr,aZ.out⟩,Sc.Ml _ _ _ _ _ aA.out aJ.out aB.out (by
      rw[aV.out,HF.out];intro h;have h2:=ax.out;rcases h.2 with g|g
      ·rw[h.1,g]at h2;cases h2
      rw[h.1,g]at h2;simp at h2)⟩)
     go_wp2_with fail
     go_ret;rw[aa.out];exact HD.out
end
end Go.Proofs.Ytfbiffdmhcjhbaa

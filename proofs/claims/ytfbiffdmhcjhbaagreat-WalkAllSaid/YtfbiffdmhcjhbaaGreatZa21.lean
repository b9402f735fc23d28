import Derived.Test.YtfbiffdmhcjhbaaGreatZa16
import Derived.Test.YtfbiffdmhcjhbaaGreatZa18
set_option linter.all false
set_option maxHeartbeats 16000000
set_option maxRecDepth 100000
set_option synthInstance.maxSize 4000
set_option synthInstance.maxHeartbeats 0
namespace Go.Proofs.YtfbiffdmhcjhbaaGreat
open Go.RowKit Tryz
section
open Go.RowKit
open Sq
open Ar
open Fl (Tk raw kd jh cnt ends opens gF gM begins back blanks fq pair item gI key iN jW jB jr)
def CL(w0 w wr:World)(rb:Nat)(tv:Value)(e:Nat)(l:List Tk)(s:Fl.St)(R:Nat->Prop):Prop:=∃R',GS w0 wr rb tv e l s R'/\FP w wr rb R R'
theorem vW(w0 w:World)(rb:Nat)(tv:Value)(e:Nat)(l:List Tk)(s:Fl.St)(R:Nat->Prop)(up:Int)(f t code:Nat)(hS:GS w0 w rb tv e l s R)(hr:jD s.t)(hm:iL s.t up 11 f t=true)(hft:f<t)(ht:t<=l.length)(hd:s.d.length<=800000000000):
 ∃v,Calls prog 47 #[RG rb,.int .i64 up,.int .i64 f,.int .i64 t,.int .i64 code] w (fU w0 w rb tv e l R (.int .i64 v) (Fl.err l s up f t code)):=by
 obtain⟨j,rfl⟩:∃j,t=j+1:=⟨t-1,by omega⟩
 exact⟨_,Jc w0 w rb tv e l s R up f j code hS hr hm (by omega) (by omega) hd⟩
theorem QF(l:List Tk)(d:Nat)(HV:VG l d)(aO:d<=1000)(w0 w:World)(rb:Nat)(tv:Value)(e:Nat)(s:Fl.St)(R:Nat->Prop)(c op:Nat)(x:Nd)(Z:Nat×Fl.St)(hS:GS w0 w rb tv e l s R)(bN:op<e)
 (hxk:(x.k==10)=(raw l op==9)) (hI:CI l e d c op x.k Z (op+1) false s):
 Calls prog 94 #[RG rb,.int .i64 c,.int .i64 op,.int .i64 ((d:Int)+1)] w (fU w0 w rb tv e l R (.int .i64 (Z.1:Nat)) Z.2):=by
 have hel:=hS.gt.ends;have hls:=hS.gt.size;have hes:e<=100000:=jN hel hls;obtain⟨y,hy⟩:=iT l op (by omega);have aJ:=Fl.kR hy;obtain⟨Y,hY⟩:=eX (y.1);rw[hY]at aJ;obtain⟨mine,ay⟩:∃m:Nat,(if raw l op=9 then 11 else 10)=m:=⟨_,rfl⟩
 have aP:(if Y=9 then 11 else 10)=mine:=by rw[<-ay,aJ]
 have ae:=eu (λW (h:Reads iZ W tv l)=>show∃tb off tc,tv=.slice (some ⟨tb,off,none⟩) l.length tc/\W.cell? ⟨tb,off+op*3,none⟩=some (.int .i64 (Y:Int))/\W.cell? ⟨tb,off+op*3+1,none⟩=some (.int .i64 (Fl.pF l op:Int))/\W.cell? ⟨tb,off+op*3+2,none⟩=some (.int .i64 (Fl.too l op:Int))from by
  obtain⟨ta,tc,rfl⟩:=h.shape;obtain⟨tb,off,rfl,x0,x1,x2⟩:=iG h op y hy;have ef:Fl.pF l op=y.2.1:=by unfold Fl.pF;rw[hy]
  have et:Fl.too l op=y.2.2:=by unfold Fl.too;rw[hy]
  exact⟨tb,off,tc,rfl,by rw[<-hY];exact x0,by rw[ef];exact x1,by rw[et];exact x2⟩)
 obtain⟨tb,off,tc,aA,t0,-,-⟩:=ae.out w hS.gt.reads;have c0:=hS.gt.cell;rw[aA]at c0;have aQ:=eu aA;have HQ:=eu (λW R' (h:GS w0 W rb tv e l Z.2 R')(h2:FP w W rb R R')=>show fU w0 w rb tv e l R (.int .i64 (Z.1:Nat)) Z.2 (.returned (.int .i64 (Z.1:Nat))) W from⟨rfl,R',h,h2⟩);obtain⟨Q,hQ⟩:=eX (fU w0 w rb tv e l R (.int .i64 (Z.1:Nat)) Z.2);rw[hQ]at HQ⊢;have aR:=eu (show CL w0 w w rb tv e l s R from⟨R,hS,FP.refl _ _ _⟩);obtain⟨HI0,ax,aa,aS⟩:=jk hI hxk ay aP;obtain⟨N,hN⟩:=eX (l.length);have HN:=eu hN;rw[hN]at c0 hel hls;have bO:(op:Int)<(N:Int):=by omega
 clear hS hI hxk hy aJ hY ay aP aA hQ hN
 go_enter func94,ntmps94
 obtain⟨b9,g9⟩:=eX (((Y:Int)==9))
 go_upto_if 24 with fail
 go_cut [11] (λmv wx=>mv=.int .i64 (mine:Int)/\w=wx)
 case first=>
  have hm:=aS.out;cases b9 with
  |true=>
   rw[eT (by simp at g9;omega)]at hm;subst hm;go_wp2_with fail
   go_meet
   exact⟨rfl,rfl⟩
  |false=>
   rw[eQ (by simp at g9;omega)]at hm;subst hm;go_wp2_with fail
   go_meet
   exact⟨rfl,rfl⟩
 case rest=>
 obtain⟨rfl,rfl⟩:=hcut;clear g9 t0 c0 aS;go_wp2_with fail
 go_loopw [9,10] (λhv iv wr=>∃(h:Bool)(p:Nat)(s1:Fl.St),hv=.bool h/\iv=.int .i64 p/\p<=e/\Hid (CI l e d c op x.k Z p h s1)/\Hid (CL w0 w wr rb tv e l s1 R)) (λ_ iv _=>e-(intOf iv).toNat)
 case atStart=>exact⟨false,op+1,s,rfl,by go_num,by omega,HI0,aR⟩
 case round=>
  clear HI0 aR;obtain⟨h,p,s1,rfl,rfl,hpe,HI,HS⟩:=hrel;obtain⟨R1,hS,hF⟩:=HS.out;have hg:=hS.gt;obtain⟨j,hj⟩:=eX (fq l e p);obtain⟨K,hK⟩:=eX (kd l e j);have ai:=eu (show Calls prog 101 #[RG rb,.int .i64 p] wr λen w'=>en=.returned (.int .i64 (j:Nat))/\wr=w' from hj▸zT rb tv e l p wr hg (by omega));have aj:=eu (show Calls prog 90 #[RG rb,.int .i64 j] wr λen w'=>en=.returned (.int .i64 (K:Nat))/\wr=w' from hK▸yA rb tv e l j wr hg);obtain⟨E,hE⟩:=eX (ends K);have ak:=eu (show Calls prog 100 #[.int .i64 K] wr λe w'=>e=.returned (.bool E)/\wr=w' from hE▸Ec K wr);by_cases k0:K=0
  ·
   have aA:=aQ.out;rw[HN.out]at aA;subst aA;have hst:=HI.out.QR (by rw[hj,hK];exact k0);obtain⟨hZ,hbk⟩:=hst;subst hZ;have g0:((K:Int)==0)=true:=by simp;omega
   have hlo:=HI.out.lo;have hdz:=HI.out.dz
   have aF:=eu (λW R2 s2 (h:GS w0 W rb (.slice (some ⟨tb,off,none⟩) N tc) e l s2 R2)=>show Calls prog 95 #[RG rb,.int .i64 p,.int .i64 ((op:Int)+1)] W λen w'=>en=.returned (.int .i64 (p:Nat))/\W=w' from by
    have h1:=Ed rb _ e l p (op+1) W h.gt (by rw[HN.out];omega) (by omega);rw[hbk,show((op+1:Nat):Int)=(op:Int)+1 from by omega]at h1
    exact h1)
   obtain⟨nv,dv,L,hM,hL,rfl⟩:=hS;obtain⟨bn,off',bq,he,-,x1,y2⟩:=ae.out wr (hM.toks.below hM.kE);have he1:=(mq he).1;clear he;injection he1 with he1
   injection he1 with e1 e2
   subst e1 e2;obtain⟨F,aT⟩:=eX (Fl.pF l op);obtain⟨T,aU⟩:=eX (Fl.too l op);rw[aT]at x1 ae HQ;rw[aU]at y2 ae HQ;have c0:=hM.cell 0 _ rfl;have c2:=hM.cell 2 _ rfl;have hown0:=hM.told;obtain⟨da,dc,hdv⟩:=(Reads.fJ (E:=gD) hown0).shape;subst hdv;obtain⟨DN,aC⟩:=eX (s1.d.length);have bz:=eu (show s1.d.length+1<=maxLen by simp only[maxLen];omega);have bA:=eu (show(s1.d.length+1)*24<=140737488355328 by omega);have bP:=eu aC;rw[aC]at c2 hM hF;have HM:=eu hM;obtain⟨wx,hwx⟩:=eX ((wr.alloc (.cells #[.int .i64 9,.int .i64 F,.int .i64 T] 89)).drew);have hbx:Below wr.heap.size wr wx:=by rw[<-hwx];exact(eZ wr _).drew
   have bB:=eu hbx;have bC:=eu (show wx.ownsRow w0.heap.size 89 gD.k (.slice da DN dc) s1.d.length (gD.all s1.d)by rw[<-aC];exact fI hown0 hbx);have aD:∀jj c,(gD.all [(⟨9,F,T⟩:Fl.Dg)])[jj]?=some c->wx.cell? ⟨wr.heap.size,jj,none⟩=some c:=by
    intro jj c hj;rw[<-hwx];show(wr.alloc _).cell? ⟨wr.heap.size,jj,none⟩=_;rw[o6]
    simpa [jV.all,gD,qC]using hj
   have aV:=eu aD;have bD:=fe hbx c0;have bE:=fe hbx c2;have bF:=fe hbx x1;have bG:=fe hbx y2;have hws:w0.heap.size<=wx.heap.size:=jN hM.kE.size hbx.size
   have bH:=eu (λw6 (hg:wx.grownBy w6 (Value.slice da DN dc).ownBlock)=>show w6.cell? ⟨tb,off+op*3+1,none⟩=some (.int .i64 (F:Int))/\w6.cell? ⟨tb,off+op*3+2,none⟩=some (.int .i64 (T:Int))from by
    have hb:=((HM.out.kE.trans (hbx.mono HM.out.kE.size)).grown hg hws (λq hq=>by rw[<-aC]at hq;exact(hown0.lt q hq).1))
    obtain⟨bn,off',bq,he,-,k1,k2⟩:=ae.out w6 (HM.out.toks.below hb);have he1:=(mq he).1;injection he1 with he1
    injection he1 with e1 e2
    subst e1 e2
    exact⟨k1,k2⟩)
   have bI:=eu hwx
   have bJ:=eu (λW aB (h1:GM w0 W rb (.slice (some ⟨tb,off,none⟩) N tc) nv aB e l L (s1.d++[⟨9,F,T⟩]))(h2:FP wr W rb (DR (.slice da DN dc)) (DR aB))=>show Calls prog 95 #[RG rb,.int .i64 p,.int .i64 ((op:Int)+1)] W (λen w'=>en=.returned (.int .i64 (p:Nat))/\W=w')/\Q (.returned (.int .i64 (p:Nat))) W from
    ⟨aF.out W (DR aB) ⟨s1.t,s1.d++[⟨9,F,T⟩]⟩ ⟨nv,aB,L,h1,hL,rfl⟩,HQ.out W (DR aB) ⟨nv,aB,L,h1,hL,rfl⟩ (hF.trans h2)⟩)
   clear hM hown0 aC hwx aD hbx hL hF hg hj hK hE ak aF HQ HI HS hbk aT aU hdz ae aQ HN;go_upto_region 11 with(first|(with_reducible refine ai.out.mono ?_;rintro e w1 ⟨rfl,rfl⟩)|(with_reducible refine aj.out.mono ?_;rintro e w1 ⟨rfl,rfl⟩)|fail)
   refine fB (λwx=>wx.cell? ⟨rb,0,none⟩=some (.slice (some ⟨tb,off,none⟩) N tc)/\wx.cell? ⟨rb,2,none⟩=some (.slice da DN dc)/\wx.cell? ⟨tb,off+op*3+1,none⟩=some (.int .i64 (F:Int))/\wx.cell? ⟨tb,off+op*3+2,none⟩=some (.int .i64 (T:Int))) 26 (by kernel_rfl) ?_;have hH:(λwx:World=>wx.cell? ⟨rb,0,none⟩=some (.slice (some ⟨tb,off,none⟩) N tc)/\wx.cell? ⟨rb,2,none⟩=some (.slice da DN dc)/\wx.cell? ⟨tb,off+op*3+1,none⟩=some (.int .i64 (F:Int))/\wx.cell? ⟨tb,off+op*3+2,none⟩=some (.int .i64 (T:Int))) wr.drew:=⟨iY c0,iY c2,iY x1,iY y2⟩
   refine fw 0 (.pointer (some ⟨rb,0,none⟩)) rfl (by kernel_rfl) rfl eY (λW hW=>by go_simp) hH ?_;refine fw 1 (.pointer (some ⟨rb,0,none⟩)) rfl (by kernel_rfl) rfl eY (λW hW=>by go_simp) hH ?_;refine fw 2 (.pointer (some ⟨rb,0,none⟩)) rfl (by kernel_rfl) rfl eY (λW hW=>by go_simp) hH ?_;refine fw 3 (.pointer (some ⟨rb,2,none⟩)) rfl (by kernel_rfl) rfl eY (λW hW=>by go_simp) hH ?_;refine fw 4 (.slice da DN dc) rfl (by kernel_rfl) rfl eY (λW hW=>?_) hH ?_
   ·obtain⟨z0,z1,z2,z3⟩:=hW;go_simp
   refine fw 5 (.pointer (some ⟨rb,0,none⟩)) rfl (by kernel_rfl) rfl eY (λW hW=>by go_simp) hH ?_;refine fw 6 (.pointer (some ⟨rb,0,none⟩)) rfl (by kernel_rfl) rfl eY (λW hW=>by go_simp) hH ?_;refine fw 7 (.pointer (some ⟨rb,0,none⟩)) rfl (by kernel_rfl) rfl eY (λW hW=>by go_simp) hH ?_;refine fw 8 (.slice (some ⟨tb,off,none⟩) N tc) rfl (by kernel_rfl) rfl eY (λW hW=>?_) hH ?_
   ·obtain⟨z0,z1,z2,z3⟩:=hW;go_simp
   refine fw 9 (.int .i64 (op:Int)) rfl (by kernel_rfl) rfl eY (λW hW=>by go_simp) hH ?_;refine fw 10 (.pointer (some ⟨tb,off+op*3,none⟩)) rfl (by kernel_rfl) rfl eY (λW hW=>by go_simp) hH ?_;refine fw 11 (.pointer (some ⟨tb,off+op*3+1,none⟩)) rfl (by kernel_rfl) rfl eY (λW hW=>by go_simp) hH ?_;refine fw 12 (.int .i64 (F:Int)) rfl (by kernel_rfl) rfl eY (λW hW=>?_) hH ?_
   ·obtain⟨z0,z1,z2,z3⟩:=hW;go_simp
   refine fw 13 (.pointer (some ⟨rb,0,none⟩)) rfl (by kernel_rfl) rfl eY (λW hW=>by go_simp) hH ?_;refine fw 14 (.pointer (some ⟨rb,0,none⟩)) rfl (by kernel_rfl) rfl eY (λW hW=>by go_simp) hH ?_;refine fw 15 (.pointer (some ⟨rb,0,none⟩)) rfl (by kernel_rfl) rfl eY (λW hW=>by go_simp) hH ?_;refine fw 16 (.slice (some ⟨tb,off,none⟩) N tc) rfl (by kernel_rfl) rfl eY (λW hW=>?_) hH ?_
   ·obtain⟨z0,z1,z2,z3⟩:=hW;go_simp
   refine fw 17 (.int .i64 (op:Int)) rfl (by kernel_rfl) rfl eY (λW hW=>by go_simp) hH ?_;refine fw 18 (.pointer (some ⟨tb,off+op*3,none⟩)) rfl (by kernel_rfl) rfl eY (λW hW=>by go_simp) hH ?_;refine fw 19 (.pointer (some ⟨tb,off+op*3+2,none⟩)) rfl (by kernel_rfl) rfl eY (λW hW=>by go_simp) hH ?_;refine fw 20 (.int .i64 (T:Int)) rfl (by kernel_rfl) rfl eY (λW hW=>?_) hH ?_
   ·obtain⟨z0,z1,z2,z3⟩:=hW;go_simp
   refine fw 21 (.agg #[.int .i64 (9:Int),.int .i64 (F:Int),.int .i64 (T:Int)]) rfl (by kernel_rfl) rfl eY (λW hW=>by go_simp) hH ?_;refine iD 22 (by kernel_rfl) rfl λK hK=>?_
   go_simp;rw[bI.out];refine hK.out _ _ (λ_=>⟨bD,bE,bF,bG⟩) (λhH2=>?_);clear hK K;replace hH:=hH2 (by kernel_rfl);clear hH2;try simp only[Act.put,fF,fH,fG]
   refine iD 23 (by kernel_rfl) rfl λK hK=>?_
   refine gT Ll rfl (.tmp 46) (.tmp 64) rfl w0.heap.size (.slice da DN dc) s1.d rfl bC.out wr.heap.size 1 [(⟨9,F,T⟩:Fl.Dg)] rfl rfl aV.out bz.out bA.out hws ?_;intro v6 w6 hown6 aK aI;obtain⟨a6,c6,hv6⟩:=(Reads.fJ (E:=gD) hown6).shape;obtain⟨n6,aW⟩:=eX ((s1.d++[(⟨9,F,T⟩:Fl.Dg)]).length);rw[aW]at hv6;clear aW;subst hv6;obtain⟨av,aX,aY⟩:=HM.out.more bB.out aK hown6 aI;have bK:w6.cell? ⟨rb,2,none⟩=some (.slice da DN dc):=(gQ av 2).trans rfl;have f26:w6.frozen? ⟨rb,2,none⟩=false:=rW av 2;have bL:w6.cell? ⟨rb,0,none⟩=some (.slice (some ⟨tb,off,none⟩) N tc):=(gQ av 0).trans rfl;have hb6:=bH.out w6 aK;have aZ:w6.cell? ⟨tb,off+op*3+1,none⟩=some (.int .i64 (F:Int)):=hb6.1;have bf:w6.cell? ⟨tb,off+op*3+2,none⟩=some (.int .i64 (T:Int)):=hb6.2;have HD:=eu (bJ.out _ _ aX aY);clear hown6 aK aI av aX aY hb6;refine hK.out _ _ (λ_=>⟨bL,bK,aZ,bf⟩) (λhH2=>?_);clear hK K;replace hH:=hH2 (by kernel_rfl);clear hH2;try simp only[Act.put,fF,fH,fG]
   refine fM 24 (.pointer (some ⟨rb,0,none⟩)) rfl (by kernel_rfl) rfl eY (λW=>by go_simp) (λ_=>hH) ?_;refine fw 25 (.pointer (some ⟨rb,2,none⟩)) rfl (by kernel_rfl) rfl eY (λW hW=>by go_simp) hH ?_;refine iD 26 (by kernel_rfl) rfl λK hK=>?_
   go_simp;refine hK.out _ _ (jg (by kernel_rfl)) (λ_=>?_);clear hK K;try simp only[Act.put,fF,fH,fG]
   refine fA (by kernel_rfl) ?_ _;obtain⟨aF,HD2⟩:=fD HD.out.1 HD.out.2;clear HD ai aj;go_wp2_with (with_reducible refine aF.out.mono ?_;rintro e w1 ⟨rfl,rfl⟩)
   exact HD2.out
  have hat:=HI.out.at_ (by rw[hj,hK];exact k0);rw[hj]at hat;have g0:((K:Int)==0)=false:=by simp;omega
  have bQ:j<e:=hat.2.1
  have bR:p<=j:=hat.1;by_cases km:K=mine
  ·have hZ:=HI.out.QS (by rw[hj,hK,aa.out];exact km);have az:=HI.out.grow (by rw[hj,hK];exact k0);rw[hj]at hZ az;subst hZ;have gm:((K:Int)==(mine:Int))=true:=by simp;omega
   obtain⟨nv,c1,hgr⟩:=hS.grow c ((j+1:Nat):Int) (jD.of HI.out.ck (by have:=HI.out.sz;omega)) az;rw[show((j+1:Nat):Int)=(j:Int)+1 from by omega]at hgr;obtain⟨HG,HF⟩:=fD hgr hF
   have bg:=eu (λW R' h h2=>show Q (.returned (.int .i64 ((j:Int)+1))) W from by
    have h3:=HQ.out W R' h h2;rw[show(((j+1,(⟨gJ s1.t c ((j+1:Nat):Int),s1.d⟩:Fl.St)).1:Nat):Int)=(j:Int)+1 from by show((j+1:Nat):Int)=_;omega]at h3
    exact h3)
   clear hg hj hK hE ak HI HS hat az hS hF hgr k0 km ae aa HQ ax;go_wp2_with (first|(with_reducible refine ai.out.mono ?_;rintro e w1 ⟨rfl,rfl⟩)|(with_reducible refine aj.out.mono ?_;rintro e w1 ⟨rfl,rfl⟩)|fail)
   refine HG.out.mono ?_;rintro e1 w2 ⟨ua,un,uc,rfl,d1,f1,R2,hS2,hF2⟩;have HD:=eu (bg.out _ R2 hS2 (HF.out.trans hF2));clear hS2 hF2 HG bg;go_wp2_with fail
   exact HD.out
  have gm:((K:Int)==(mine:Int))=false:=by simp;omega
  cases E with
  |true=>
   have hnx:=HI.out.bad (by rw[hj,hK];exact k0) (λg=>by rw[kL,hj,hK,eQ k0,eQ (by rw[aa.out];exact km),eT hE]);have af:=HI.out.err (by rw[hj,hK];exact k0) (t:=j+1) (by rw[hj];omega) (by omega);rw[hj]at hnx af;obtain⟨v,hev⟩:=vW w0 wr rb tv e l s1 R1 c j (j+1) 8 hS (jD.of HI.out.ck (by have:=HI.out.sz;omega)) af.2 (by omega) (by rw[HN.out];omega) (by have:=HI.out.dz;omega);rw[show((j+1:Nat):Int)=(j:Int)+1 from by omega]at hev;obtain⟨ah,HF,ag⟩:=gW hev hF hnx;clear hg hj hK hE HI HS hat hS hF hev k0 km ae aa HQ ax hnx af;go_wp2_with (first|(with_reducible refine ai.out.mono ?_;rintro e w1 ⟨rfl,rfl⟩)|(with_reducible refine aj.out.mono ?_;rintro e w1 ⟨rfl,rfl⟩)|(with_reducible refine ak.out.mono ?_;rintro e w1 ⟨rfl,rfl⟩)|fail)
   refine ah.out.mono ?_;rintro e1 w2 ⟨rfl,R2,hS2,hF2⟩;have HD:=eu (show CL w0 w w2 rb tv e l (Fl.err l s1 c j (j+1) 8) R from⟨R2,hS2,HF.out.trans hF2⟩);clear hS2 hF2 ah;go_wp2_with fail
   go_roundw
   case rel=>exact⟨_,j+1,_,rfl,by go_num,by omega,ag,HD⟩
   case measure=>simp[intOf];omega
  |false=>
  by_cases k7:K=7
  ·have g7:((K:Int)==7)=true:=by simp;omega
   cases h with
   |true=>
    have hnx:=HI.out.more (by rw[hj,hK];exact k0) (λg=>by rw[kL,hj,hK,eQ k0,eQ (by rw[aa.out];exact km),eQ (by rw[hE];decide),eT k7,eT rfl]);have az:=HI.out.grow (by rw[hj,hK];exact k0);rw[hj]at hnx az;obtain⟨nv,c1,hgr⟩:=hS.grow c ((j+1:Nat):Int) (jD.of HI.out.ck (by have:=HI.out.sz;omega)) az;rw[show((j+1:Nat):Int)=(j:Int)+1 from by omega]at hgr;obtain⟨HG,HF,ag⟩:=gW hgr hF hnx;clear hg hj hK hE HI HS hat az hS hF hgr k0 km ae aa HQ ax hnx k7;go_wp2_with (first|(with_reducible refine ai.out.mono ?_;rintro e w1 ⟨rfl,rfl⟩)|(with_reducible refine aj.out.mono ?_;rintro e w1 ⟨rfl,rfl⟩)|(with_reducible refine ak.out.mono ?_;rintro e w1 ⟨rfl,rfl⟩)|fail)
    refine HG.out.mono ?_;rintro e1 w2 ⟨ua,un,uc,rfl,d1,f1,R2,hS2,hF2⟩;have HD:=eu (show CL w0 w (w2.setCell ⟨rb,1,none⟩ (.slice ua un uc)) rb tv e l ⟨gJ s1.t c ((j+1:Nat):Int),s1.d⟩ R from⟨R2,by rw[show((j+1:Nat):Int)=(j:Int)+1 from by omega];exact hS2,HF.out.trans hF2⟩);clear hS2 hF2 HG;go_wp2_with fail
    go_roundw
    case rel=>exact⟨false,j+1,_,rfl,by go_num,by omega,ag,HD⟩
    case measure=>simp[intOf];omega
   |false=>
    have hnx:=HI.out.bad (by rw[hj,hK];exact k0) (λg=>by rw[kL,hj,hK,eQ k0,eQ (by rw[aa.out];exact km),eQ (by rw[hE];decide),eT k7,eQ (by decide)]);have af:=HI.out.err (by rw[hj,hK];exact k0) (t:=j+1) (by rw[hj];omega) (by omega);rw[hj]at hnx af;obtain⟨v,hev⟩:=vW w0 wr rb tv e l s1 R1 c j (j+1) 8 hS (jD.of HI.out.ck (by have:=HI.out.sz;omega)) af.2 (by omega) (by rw[HN.out];omega) (by have:=HI.out.dz;omega);rw[show((j+1:Nat):Int)=(j:Int)+1 from by omega]at hev;obtain⟨ah,HF,ag⟩:=gW hev hF hnx;clear hg hj hK hE HI HS hat hS hF hev k0 km ae aa HQ ax hnx af k7;go_wp2_with (first|(with_reducible refine ai.out.mono ?_;rintro e w1 ⟨rfl,rfl⟩)|(with_reducible refine aj.out.mono ?_;rintro e w1 ⟨rfl,rfl⟩)|(with_reducible refine ak.out.mono ?_;rintro e w1 ⟨rfl,rfl⟩)|fail)
    refine ah.out.mono ?_;rintro e1 w2 ⟨rfl,R2,hS2,hF2⟩;have HD:=eu (show CL w0 w w2 rb tv e l (Fl.err l s1 c j (j+1) 8) R from⟨R2,hS2,HF.out.trans hF2⟩);clear hS2 hF2 ah;go_wp2_with fail
    go_roundw
    case rel=>exact⟨false,j+1,_,rfl,by go_num,by omega,ag,HD⟩
    case measure=>simp[intOf];omega
  have g7:((K:Int)==7)=false:=by simp;omega
  cases h with
  |true=>
   obtain⟨hnx,hj1,hj2⟩:=HI.out.second (by rw[hj,hK];exact k0) (by rw[hj,hK];exact hE) (by rw[hj,hK];exact k7) (by rw[hj,hK,aa.out];exact km);have af:=HI.out.err (by rw[hj,hK];exact k0) hj1 hj2;have aL:=Py rb tv e l j wr hg (by omega);rw[hj]at hnx af hj1 hj2;obtain⟨t,ht⟩:=eX (jr l e j);rw[ht]at hnx af hj1 hj2 aL;obtain⟨v,hev⟩:=vW w0 wr rb tv e l s1 R1 c j t 8 hS (jD.of HI.out.ck (by have:=HI.out.sz;omega)) af.2 hj1 (by rw[HN.out];omega) (by have:=HI.out.dz;omega);obtain⟨ah,bM,HF,ag⟩:=jk hev aL hF hnx;clear hg hj hK hE HI HS hat hS hF hev aL k0 km ae aa HQ ax hnx af k7 ht;go_wp2_with (first|(with_reducible refine ai.out.mono ?_;rintro e w1 ⟨rfl,rfl⟩)|(with_reducible refine aj.out.mono ?_;rintro e w1 ⟨rfl,rfl⟩)|(with_reducible refine ak.out.mono ?_;rintro e w1 ⟨rfl,rfl⟩)|(with_reducible refine bM.out.mono ?_;rintro e w1 ⟨rfl,rfl⟩)|fail)
   refine ah.out.mono ?_;rintro e1 w2 ⟨rfl,R2,hS2,hF2⟩;have HD:=eu (show CL w0 w w2 rb tv e l (Fl.err l s1 c j t 8) R from⟨R2,hS2,HF.out.trans hF2⟩);clear hS2 hF2 ah;go_wp2_with fail
   go_roundw
   case rel=>exact⟨true,t,_,rfl,rfl,hj2,ag,HD⟩
   case measure=>simp[intOf];omega
  |false=>
   have aG:=Je rb tv e l j wr hg (by omega);obtain⟨q,hq⟩:=eX (key l e j);rw[hq]at aG;have aM:=eu aG;obtain⟨B,hB⟩:=eX (begins K);have aN:=eu (show Calls prog 104 #[.int .i64 K] wr λe w'=>e=.returned (.bool B)/\wr=w' from hB▸MV K wr);by_cases kb:0<q\/B=true
   ·obtain⟨hnx,hj1⟩:=HI.out.item (by rw[hj,hK];exact k0) (by rw[hj,hK];exact hE) (by rw[hj,hK];exact k7) (by rw[hj,hK,aa.out];exact km) (by rw[hj,hK,hq,hB];exact kb);obtain⟨x1,hx1,hx2⟩:=HI.out.kd;have hit:=QQ l d HV aO w0 wr rb tv e s1 R1 c j p x1 hS HI.out.ck (HI.out.fits.le (by omega) (ji _)) HI.out.lf HI.out.no (by omega) (by rw[hK];exact k0) (by rw[hK,hq,hB];exact kb) hx1 (by have:=HI.out.sz;omega) (by have:=HI.out.dz;omega);rw[hx2,ax.out]at hit;rw[hj]at hnx hj1;obtain⟨I,hI⟩:=eX (item l e (gI l e d) (raw l op==9) c j s1);rw[hI]at hit hnx hj1;obtain⟨i1,i2⟩:=I;dsimp only at hit hnx hj1;obtain⟨aH,HF,ag⟩:=gW hit hF hnx;have hi1:i1<=e:=hnx.hi;clear hg hj hK hE HI HS hat hS hF hit k0 km ae aa HQ ax hnx k7 hx1 hx2 hq hB aG hI;by_cases kq:0<q
    ·have gq:(0:Int)<(q:Int):=by omega
     clear kb kq;go_wp2_with (first|(with_reducible refine ai.out.mono ?_;rintro e w1 ⟨rfl,rfl⟩)|(with_reducible refine aj.out.mono ?_;rintro e w1 ⟨rfl,rfl⟩)|(with_reducible refine ak.out.mono ?_;rintro e w1 ⟨rfl,rfl⟩)|(with_reducible refine aM.out.mono ?_;rintro e w1 ⟨rfl,rfl⟩)|(with_reducible refine aN.out.mono ?_;rintro e w1 ⟨rfl,rfl⟩)|fail)
     refine aH.out.mono ?_;rintro e1 w2 ⟨rfl,R2,hS2,hF2⟩;have HD:=eu (show CL w0 w w2 rb tv e l i2 R from⟨R2,hS2,HF.out.trans hF2⟩);clear hS2 hF2 aH;go_wp2_with fail
     go_roundw
     case rel=>exact⟨true,i1,_,rfl,rfl,hi1,ag,HD⟩
     case measure=>simp[intOf];omega
    obtain rfl:q=0:=by omega
    obtain rfl:B=true:=kb.resolve_left kq;clear kb kq;go_wp2_with (first|(with_reducible refine ai.out.mono ?_;rintro e w1 ⟨rfl,rfl⟩)|(with_reducible refine aj.out.mono ?_;rintro e w1 ⟨rfl,rfl⟩)|(with_reducible refine ak.out.mono ?_;rintro e w1 ⟨rfl,rfl⟩)|(with_reducible refine aM.out.mono ?_;rintro e w1 ⟨rfl,rfl⟩)|(with_reducible refine aN.out.mono ?_;rintro e w1 ⟨rfl,rfl⟩)|fail)
    refine aH.out.mono ?_;rintro e1 w2 ⟨rfl,R2,hS2,hF2⟩;have HD:=eu (show CL w0 w w2 rb tv e l i2 R from⟨R2,hS2,HF.out.trans hF2⟩);clear hS2 hF2 aH;go_wp2_with fail
    go_roundw
    case rel=>exact⟨true,i1,_,rfl,rfl,hi1,ag,HD⟩
    case measure=>simp[intOf];omega
   obtain rfl:q=0:=by omega
   obtain rfl:B=false:=by simpa using(λh=>kb (.inr h):¬B=true)
   have hnx:=HI.out.bad (by rw[hj,hK];exact k0) (λg=>by rw[kL,hj,hK,eQ k0,eQ (by rw[aa.out];exact km),eQ (by rw[hE];decide),eQ k7,eQ (by decide),eQ (by rw[hq,hB];exact kb)]);have af:=HI.out.err (by rw[hj,hK];exact k0) (t:=j+1) (by rw[hj];omega) (by omega);rw[hj]at hnx af;clear hq hB aG kb;obtain⟨v,hev⟩:=vW w0 wr rb tv e l s1 R1 c j (j+1) 8 hS (jD.of HI.out.ck (by have:=HI.out.sz;omega)) af.2 (by omega) (by rw[HN.out];omega) (by have:=HI.out.dz;omega);rw[show((j+1:Nat):Int)=(j:Int)+1 from by omega]at hev;obtain⟨ah,HF,ag⟩:=gW hev hF hnx;clear hg hj hK hE HI HS hat hS hF hev k0 km ae aa HQ ax hnx af k7;go_wp2_with (first|(with_reducible refine ai.out.mono ?_;rintro e w1 ⟨rfl,rfl⟩)|(with_reducible refine aj.out.mono ?_;rintro e w1 ⟨rfl,rfl⟩)|(with_reducible refine ak.out.mono ?_;rintro e w1 ⟨rfl,rfl⟩)|(with_reducible refine aM.out.mono ?_;rintro e w1 ⟨rfl,rfl⟩)|(with_reducible refine aN.out.mono ?_;rintro e w1 ⟨rfl,rfl⟩)|fail)
   refine ah.out.mono ?_;rintro e1 w2 ⟨rfl,R2,hS2,hF2⟩;have HD:=eu (show CL w0 w w2 rb tv e l (Fl.err l s1 c j (j+1) 8) R from⟨R2,hS2,HF.out.trans hF2⟩);clear hS2 hF2 ah;go_wp2_with fail
   go_roundw
   case rel=>exact⟨false,j+1,_,rfl,by go_num,by omega,ag,HD⟩
   case measure=>simp[intOf];omega
end
namespace Ps
open Ar Fl
open Rw (R E)
theorem kX:∀(f:Nat)(l:List Nd)(k t:Int),(jK f l k t).length=l.length
 |0,_,_,_=>rfl
 |f+1,l,k,t=>by
  rw[jK];split
  ·rfl
  split
  ·rfl
  rw[kX f,qU]
theorem mf(l:List Nd)(up kind f t:Int):(addN l up kind f t).1.length<=l.length+1:=by
 unfold addN;split
 ·split
  ·exact Au _
  show(gP _ _ _).length<=_;unfold gP;rw[kX,qU,ig];exact fC _
 exact Au _
theorem oO(l:List Nd)(i t:Int):(gJ l i t).length=l.length:=by
 unfold gJ gP;split
 ·rw[kX]
 rfl
theorem iB(l:List Nd)(i:Int):(keyed l i).length=l.length:=(lQ l i).1
theorem iU(s:St)(up:Int)(k f t:Nat):(add s up k f t).1.t.length<=s.t.length+1:=mf _ _ _ _ _
theorem lZ(l:List Tk)(s:St)(up:Int)(f t code:Nat):(err l s up f t code).t.length<=s.t.length+1:=mf _ _ _ _ _
theorem nG(l:List Tk)(s:St)(c:Int)(j q:Nat):(pair l s c j q).1.t.length<=s.t.length+2:=by
 unfold pair;dsimp only;split
 ·have:=iU s c 6 j q;omega
 show(keyed _ _).length<=_;rw[iB];have h1:=iU s c 6 j q;have h2:=iU (add s c 6 j q).1 (add s c 6 j q).2 (if(List.range (q-j)).any (λx=>raw l (j+x)==13)=true then 8 else 7) j (back l (q-1) (j+1));omega
theorem EY(l:List Tk)(s:St)(node:Int)(en:E):(cur l s node en).1.t.length<=s.t.length+2:=by
 unfold cur;split
 ·have:=iU s node 4 en.from' en.au;omega
 exact nG _ _ _ _ _
theorem yU(l:List Tk)(p:PS)(o:Op)(r:List Op)(en:E):(again l p o r en).2.s.t.length<=p.s.t.length+3:=by
 have:=EY l p.s o.node en;show(cur l p.s o.node en).1.t.length<=_;omega
theorem uN(l:List Tk)(depth:Nat)(p:PS)(up:Int)(root:Bool)(st:List Op)(en:E):(fresh l depth p up root st en).2.s.t.length<=p.s.t.length+3:=by
 unfold fresh;split
 ·show p.s.t.length<=_;omega
 have h1:=iU p.s up (kindOf en) en.from' en.au;have h2:=EY l (add p.s up (kindOf en) en.from' en.au).1 (add p.s up (kindOf en) en.from' en.au).2 en;show(cur l _ _ en).1.t.length<=_;omega
theorem yV(l:List Tk)(depth:Nat)(p:PS)(en:E):(place l depth p en).2.s.t.length<=p.s.t.length+3:=by
 have hr:(place l depth p en)=(match p.st.dropWhile (λo=>decide (en.fo<o.fo))with
  |[]=>if p.root=true then(7,p)else fresh l depth p p.doc true [] en
  |o::r=>
   if o.fo=en.fo then
    if o.kind=kindOf en then again l p o r en
    else if kindOf en=3 then(if o.has=true then(5,p)else fresh l depth p o.cur p.root ({o with has:=true}::r) en)
    else match r with
     |o2::r2=>if o2.fo=en.fo/\o2.kind=5 then again l p o2 r2 en else(5,p)
     |[]=>(5,p)
   else if o.has=true then(6,p)else fresh l depth p o.cur p.root ({o with has:=true}::r) en):=rfl
 rw[hr];have h0:∀code:Nat,(code,p).2.s.t.length<=p.s.t.length+3:=λ_=>Nat.le_add_right _ _
 cases p.st.dropWhile (λo=>decide (en.fo<o.fo))with
 |nil=>
  dsimp only;split
  ·exact h0 7
  exact uN ..
 |cons o r=>
  dsimp only;split
  ·split
   ·exact yU ..
   split
   ·split
    ·exact h0 5
    exact uN ..
   cases r with
   |nil=>exact h0 5
   |cons o2 r2=>
    dsimp only;split
    ·exact yU ..
    exact h0 5
  split
  ·exact h0 6
  exact uN ..
theorem xI(l:List Tk)(depth b:Nat):∀(es:List E)(p:PS)(up:Int),(places l depth b p up es).2.s.t.length<=p.s.t.length+3*es.length
 |[],p,_=>fC _
 |en::es,p,up=>by
  rw[places,gy];have h1:=yV l depth p en;split
  ·have:=xI l depth b es (place l depth p en).2 (zA (place l depth p en).2.st);omega
  have:=lZ l p.s up en.from' b (place l depth p en).1;show(err l p.s up en.from' b (place l depth p en).1).t.length<=_;omega
theorem oW(p:PS)(i:Nat):(gu p i).s.t.length<=p.s.t.length+1:=by
 unfold gu;split
 ·exact iU ..
 omega
theorem yX(l:List Tk)(s:St)(up:Int)(a b code:Nat):(jo l s up a b code).t.length<=s.t.length+1:=by
 unfold jo;split
 ·exact lZ ..
 omega
theorem GD(l:List Tk)(next:Nat)(h1:next<l.length):next<qg (Rw.fE l) next true:=by
 unfold qg;cases hf:(Rw.fE l).find? (λr=>!(decide (r.au<next)||(true&&r.au==next)))with
 |some r=>
  have hp:=List.find?_some hf;simp at hp;show next<r.au
  omega
 |none=>
  exfalso;rw[List.find?_eq_none]at hf;obtain⟨r,hr,he⟩:=wT l (by omega);have:=hf r hr;simp[he]at this;omega
theorem p8{l:List Tk}{B:Bs}{k e i depth:Nat}{p:PS}(h:OK l B k e p.s)(aa:e<=i)(hi:i<l.length):
 (value l (Rw.fE l) depth p k i).1.s.t.length<=p.s.t.length+2*((value l (Rw.fE l) depth p k i).1.read-i)+1/\i<(value l (Rw.fE l) depth p k i).1.read:=by
 have hlim:i<=limit l i/\limit l i<=l.length:=by
  have h1:=lg (λj=>raw l j !=20&&raw l j !=21) (l.length-i) i;have h2:=iM (λj=>raw l j !=20&&raw l j !=21) (l.length-i) i;unfold limit;omega
 obtain⟨z1,z2,z3⟩:=Ft.J8 (l:=l) (e:=limit l i) (n:=(l.length:Int)) (by omega) (depth-p.st.length) i e p.s h.ck (h.fits.le (by omega) (ji _)) (by omega) hlim.1;have hv:=Fe.rf l (limit l i) l.length (by omega) (depth-p.st.length) k i p.s e h.ck (h.fits.le (by omega) (ji _)) h.lf h.no (by omega) hlim.1;have key:∀(s:St)(next:Nat)(none':Bool)(q:Nat),qg (Rw.fE l) next none'=q->(rest l (Rw.fE l) {p with s:=s} k next none').s.t.length<=s.t.length+1/\(rest l (Rw.fE l) {p with s:=s} k next none').read=q:=by
  intro s next none' q hq;unfold rest;dsimp only;rw[hq];exact⟨yX ..,rfl⟩
 unfold value;dsimp only;rcases hv with⟨v1,_⟩|⟨next,s',v1,v2,v3,_,_⟩
 ·rw[v1]at z1⊢;dsimp only at z1⊢;rw[eT (by omega),show decide ((-1:Int)<0)=true from rfl];obtain⟨k1,k2⟩:=key p.s i true _ rfl;have:=GD l i hi;rw[k2];omega
 rw[v1]at z1 z2 z3⊢;dsimp only at z1 z2 z3⊢;rw[eQ (by omega),show decide (((p.s.t.length:Nat):Int)<0)=false from iF (by omega),Nat.max_eq_left (by omega)];obtain⟨k1,k2⟩:=key s' next false _ rfl;have:=(CV l next false (by omega) (λh=>by cases h) (by omega)).1;rw[k2];omega
theorem xe{l:List Tk}{b:Nat}:∀(es:List E)(p:Nat),qD l b p es->p+es.length<=b\/es=[]
 |[],_,_=>.inr rfl
 |en::es,p,⟨h1,h2,h3,h4⟩=>by
  left;rw[gy];rcases xe es en.au h4 with h|h
  ·omega
  subst h;simp;omega
theorem yY{l:List Tk}{b:Nat}:∀(es:List E)(p:Nat)(x:E),qD l b p es->es.getLast?=some x->p+es.length<=x.au
 |[],_,_=>λ_ h=>by cases h
 |[en],p,x=>fun⟨h1,h2,h3,h4⟩ h=>by
  obtain rfl:en=x:=by simpa using h
  simp;omega
 |en::e2::es,p,x=>fun⟨h1,h2,h3,h4⟩ h=>by
  have:=yY (e2::es) en.au x h4 (by rw[Oq]at h;exact h);rw[gy];omega
theorem Bu{l:List Tk}{B:Bs}{depth:Nat}{p:PS}{r:R}(ht:Rw.jl 0 l)(h:Inv l B p.read p)(hr:l8 l r)(hB:B.1<=r.from')(he:p.read<=r.from'):
 (row l (Rw.fE l) depth p r).s.t.length<=p.s.t.length+5*((row l (Rw.fE l) depth p r).read-r.from')/\r.from'<(row l (Rw.fE l) depth p r).read:=by
 have hlt:=hr.lt;have hle:=hr.le;have h0:Inv l B p.read {p with read:=r.au}:=h;unfold row;dsimp only;split
 ·rename_i h4;obtain⟨m1,m2⟩:=hr.mark h4;have hge:=jJ l r.from' r.au;unfold mark;dsimp only;obtain⟨a,ha⟩:=eX (lo l r.from' r.au);rw[ha]at m1 m2 hge⊢;split
  ·obtain⟨s',a1,_,a3,_,_⟩:=Fe.iW (kind:=2) (f:=a) (t:=a+1) h0.root (by omega) (by omega) (by omega) (by omega) (by omega);have a1:add p.s 0 2 a (a+1)=(s',(p.s.t.length:Int)):=a1;have hal:=iU p.s 0 2 a (a+1);rw[a1]at hal⊢;dsimp only at hal⊢;have a3':OK l B p.s.t.length (a+1) s':=a3.le (by omega) (by omega);have hb:=fQ l r.au (lo l (a+1) r.au);have af:=jJ l (a+1) r.au;split
   ·rename_i hx;obtain⟨v1,v2⟩:=p8 (depth:=depth) (p:={p with read:=r.au,s:=s',doc:=(p.s.t.length:Int),root:=false,st:=[]}) (i:=lo l (a+1) r.au) a3' af (by omega);dsimp only at v1 v2⊢;omega
   show s'.t.length<=_+5*(r.au-_)/\_<r.au
   omega
  show(jo l _ _ _ _ _).t.length<=_+5*(r.au-_)/\_<r.au
  refine⟨jN (yX ..) ?_,hlt⟩;split
  ·show(gJ _ _ _).length+1<=_;rw[oO];omega
  omega
 split
 ·rename_i h5;have hlo:=hr.body h5;have hge:=jJ l r.from' r.au;obtain⟨n1,n2,n3,n4⟩:=tq ht hr h5;unfold body;dsimp only;obtain⟨a,ha⟩:=eX (lo l r.from' r.au);rw[ha]at hlo hge n1 n3⊢;obtain⟨b,hb⟩:=eX (back l r.au a);have hbl:=fQ l r.au a;have hbg:=pW l r.au a a (fC _) hlo (by have:=wE l (a:=r.from') (b:=r.au) (by omega);rw[ha]at this;exact this);rw[hb]at n1 hbl hbg⊢;obtain⟨o1,o2⟩:=nK h0 (i:=a) (by omega) (by omega);have aa:=oW {p with read:=r.au} a;have aa:(gu {p with read:=r.au} a).s.t.length<=p.s.t.length+1:=aa;have o2:(gu {p with read:=r.au} a).read=r.au:=o2;obtain⟨p1,hp1⟩:=eX (gu {p with read:=r.au} a);rw[hp1]at o1 o2 aa⊢;obtain⟨es,hes⟩:=eX (Rw.lC l r);rw[hes]at n1 n2 n3 n4⊢;split
  ·
   obtain⟨d,hd,hc,hh⟩:=o1;obtain⟨hc',hh'⟩:=jT.drop (λo=>decide (r.fo<=o.fo)) hc hh
   have hbr:bare l (Rw.fE l) depth p1 r a b=(match p1.st.dropWhile (λo=>decide (r.fo<=o.fo))with
    |[]=>if p1.root=true then{p1 with s:=err l p1.s (holder p1) a b 7}
     else
      let v:=value l (Rw.fE l) depth {p1 with st:=[]} p1.doc a
      {v.1 with root:=v.2}
    |o::q=>if o.has=true then{p1 with s:=err l p1.s (holder p1) a b 7}
     else
      let v:=value l (Rw.fE l) depth {p1 with st:=o::q} o.cur a
      {v.1 with st:={o with has:=v.2}::q}):=rfl
   rw[hbr];have ae:({p1 with s:=err l p1.s (holder p1) a b 7}:PS).s.t.length<=p.s.t.length+5*(({p1 with s:=err l p1.s (holder p1) a b 7}:PS).read-r.from')/\r.from'<({p1 with s:=err l p1.s (holder p1) a b 7}:PS).read:=by
    have:=lZ l p1.s (holder p1) a b 7;show(err l p1.s (holder p1) a b 7).t.length<=_+5*(p1.read-_)/\_<p1.read
    omega
   cases hdw:p1.st.dropWhile (λo=>decide (r.fo<=o.fo))with
   |nil=>
    rw[hdw]at hc' hh';dsimp only;split
    ·exact ae
    obtain⟨m,e1,e2⟩:=hh';obtain rfl:m=d:=by omega
    rw[hd];obtain⟨P,hP⟩:∃P:PS,{p1 with st:=[],doc:=(m:Int)}=P:=⟨_,rfl⟩
    have hP1:P.s=p1.s:=by rw[<-hP]
    rw[<-hP1]at e2 aa;obtain⟨v1,v2⟩:=p8 (depth:=depth) (p:=P) (i:=a) (k:=m) e2 (fC _) (by omega);rw[hP];dsimp only;omega
   |cons o q=>
    rw[hdw]at hc' hh';dsimp only;split
    ·exact ae
    rename_i ho;obtain⟨m,e1,e2⟩:=hh'.2 (by simpa using ho);obtain⟨P,hP⟩:∃P:PS,{p1 with st:=o::q}=P:=⟨_,rfl⟩
    have hP1:P.s=p1.s:=by rw[<-hP]
    rw[<-hP1]at e2 aa;obtain⟨v1,v2⟩:=p8 (depth:=depth) (p:=P) (i:=a) (k:=m) e2 (fC _) (by omega);rw[hP,e1];dsimp only;omega
  rename_i hne;have hpl:=xI l depth b es.1 p1 (holder p1);obtain⟨e',k1,k2,k3,k4,k5⟩:=rG (depth:=depth) (b:=b) (by omega) es.1 a p1 (holder p1) o1 (by omega) rfl n1 (by omega);have hel:=xe es.1 a n1;obtain⟨q,hq⟩:=eX (places l depth b p1 (holder p1) es.1);rw[hq]at hpl k3 k4 k5⊢;have ah:q.2.read=r.au:=by rw[k4,o2]
  have ag:a+es.1.length<=b:=hel.resolve_right hne;have stay:q.2.s.t.length<=p.s.t.length+5*(q.2.read-r.from')/\r.from'<q.2.read:=by omega
  split
  ·rename_i hall;split
   ·rename_i hx;obtain⟨_,m1,m2⟩:=k5 hall;obtain⟨t,k,m3,m4⟩:=m2 hne;have hlast:∃z,es.1.getLast?=some z:=by
     cases hz:es.1.getLast? with
     |none=>rw[LJ]at hz;exact absurd hz hne
     |some z=>exact⟨z,rfl⟩
    obtain⟨z,hz⟩:=hlast;have hzl:=yY es.1 a z n1 hz;have hrest:es.2=e':=by rw[n2 z hz,m1 z hz]
    have ai:es.2=z.au:=n2 z hz;have hxg:=jJ l es.2 r.au;have hxb:=fQ l r.au (lo l es.2 r.au);obtain⟨d,d1,d2,d3⟩:=k3;obtain⟨x,af⟩:=eX (lo l es.2 r.au);rw[af]at hx hxg hxb⊢;rw[m3]at d2 d3⊢;dsimp only;obtain⟨m,e1,e2⟩:=d3.2 m4;rw[e1];obtain⟨v1,v2⟩:=p8 (depth:=depth) (p:=q.2) (i:=x) (k:=m) e2 (by omega) (by omega);omega
   exact stay
  exact stay
 split
 ·split
  ·have h1:=oW {p with read:=r.au} (lo l r.from' r.au);have h1:(gu {p with read:=r.au} (lo l r.from' r.au)).s.t.length<=p.s.t.length+1:=h1;have h2:=lZ l (gu {p with read:=r.au} (lo l r.from' r.au)).s (holder (gu {p with read:=r.au} (lo l r.from' r.au))) (lo l r.from' r.au) (back l r.au (lo l r.from' r.au)) 8;have h3:(gu {p with read:=r.au} (lo l r.from' r.au)).read=r.au:=by unfold gu;split<;>rfl
   show(err l _ _ _ _ 8).t.length<=_+5*((gu {p with read:=r.au} (lo l r.from' r.au)).read-_)/\_<(gu {p with read:=r.au} (lo l r.from' r.au)).read
   rw[h3];omega
  show p.s.t.length<=_+5*(r.au-_)/\_<r.au
  omega
 show p.s.t.length<=_+5*(r.au-_)/\_<r.au
 omega
theorem sI{l:List Tk}{B:Bs}{depth:Nat}(ht:Rw.jl 0 l):∀(rs:List R)(p:PS),(∀r∈rs,l8 l r/\B.1<=r.from')->Inv l B p.read p->p.s.t.length<=1+5*p.read->
 (jf l (Rw.fE l) depth p rs).s.t.length<=1+5*(jf l (Rw.fE l) depth p rs).read
 |[],p=>λ_ _ h=>h
 |r::rs,p=>λhrs h hl=>by
  rw[jf];by_cases hr:p.read<=r.from'
  ·rw[eT hr];obtain⟨h1,h2⟩:=CW (depth:=depth) ht h (hrs r (by simp)).1 (hrs r (by simp)).2 hr;obtain⟨z1,z2⟩:=Bu (depth:=depth) ht h (hrs r (by simp)).1 (hrs r (by simp)).2 hr;exact sI ht rs _ (λx hx=>hrs x (by simp[hx])) h1 (by omega)
  rw[eQ hr];exact sI ht rs p (λx hx=>hrs x (by simp[hx])) h hl
end Ps
end Go.Proofs.YtfbiffdmhcjhbaaGreat

import Derived.Test.YtmkkdjpebbdikaaGreatDoorZb01
import Derived.Tactics
import Derived.Tactics2
import Derived.KernelRfl
import Derived.LoopTactic
import Derived.IntWalk
import Derived.WalkMore
import Derived.OwnWalk
import Derived.RegionTactic
import Derived.Deep.DeepMust
import Derived.Deep.LoopGhost
import Derived.Deep.Cut
import Derived.BigQuiet
import Derived.Deep.CutBlock
set_option linter.all false
set_option maxHeartbeats 16000000
set_option maxRecDepth 100000
namespace Go.Proofs.YtmkkdjpebbdikaaGreatDoor
open Go.RowKit
def O9:=@Calls.mono
def ah0:=@Code.wp_mono
def Pb:=@Exit.noGoto_ret
def sj:=@IntWalk.i64_in
def AF:=@IntWalk.wrap64_in
def aeG:=@Result.andThen_ok
def ah1:=@Sem.run_bind
def ah2:=@Sem.run_pure
def lX:=@Value.slice.inj
def akr:=@World.cell?_alloc_new
def XX:=@World.cell?_of_block
def ah3:=@World.cell?_setCell_other
def Pd:=@World.ownsRow_nil
def vK:=@bodyPost_ret
def Pe:=@info_parts
def Vh:=@shut_bool
def aeH:=@wpList_append_own
def LP:=@wpQuiet_nil
theorem dV{p:Prop}(h:p:=by kernel_rfl):p:=h
theorem fH{p:Prop}(h:p:=by go_num):p:=h
theorem ZE{p:Prop}(h:p:=by rw[HS.out,dX e];go_num):p:=h
theorem ZF{p:Prop}(h:p:=by rw[HS.out,dW e];go_num):p:=h
theorem ZG{p:Prop}(h:p:=by rw[HS.out];go_num):p:=h
theorem JQ{p:Prop}(h:p:=by
 refine HPr.out.mono ?_;rintro e w2 ⟨rfl,rfl⟩;by_cases hre:r=N
 ·subst hre;have hr:V=-1:=by rw[<-HVr.out];exact Rw.abN ts r wD
  subst hr;have hnr:¬((r:Int)<(r:Int)):=dS
  clear H HPr HVr HN;go_wp2_with fail
  simp only[Exit.jump];go_ret;exact⟨rfl,rfl⟩
 have hri:(r:Int)<(N:Int):=dS
 obtain⟨y,hy⟩:∃y,ts[r]?=some y:=⟨_,fu mP⟩
 obtain⟨b9,ah4,he,d0,-,-⟩:=H.out r y hy;injection he with he
 injection he with e1 e2
 subst e1 e2;have hV:=HVr.out;rw[Rw.TP ts r y hy]at hV;obtain⟨Y,hY⟩:=eu (y.1);rw[hY]at d0 hV;by_cases q6:Y=6
 ·rw[dX q6]at hV;subst q6;subst hV;clear H HPr HVr HN hY hy;go_wp2_with fail
  simp only[Exit.jump];go_ret;exact⟨fH,rfl⟩
 ·rw[dW q6]at hV;subst hV;have g6:((Y:Int)==6)=false:=by simp;omega
  clear H HPr HVr HN hY hy q6;go_wp2_with fail
  simp only[Exit.jump];go_ret;exact⟨rfl,rfl⟩):p:=h
theorem ZH{p:Prop}(h:p:=by
 have he1:=HE.out;refine fO (λwx=>wx.cell? ⟨ib,k,none⟩=some tv0) 14 dV ?_;have hH:(λwx:World=>wx.cell? ⟨ib,k,none⟩=some tv0) wr.drew:=eP hc1;refine iE 0 (.slice (some ⟨ib,0,none⟩) 2 2) hH ?_;refine iE 1 (.int .i64 (k:Int)) hH ?_;refine iE 2 (.pointer (some ⟨ib,k,none⟩)) hH ?_;refine iE 3 tv0 hH ?_;refine iE 4 (.int .i64 dp) hH ?_;refine nN (i:=5) (oi:=⟨_,_,_,_,_,_⟩) (v:=.int .i64 (m:Int)) rfl dV dV dV dV dV (λ_ _ _ h=>h) (Or.inl ⟨rfl,λW hW=>?_⟩) hH ?_
 ·refine lJ.CF (f:=13) (args:=#[.int .i64 dp,.int .i64 20]) ?_ ?_
  ·go_simp
  ·exact HW1.out W
 try simp only[Act.put,fG,fB,fC]
 refine iE 6 (.int .i64 (d:Int)) hH ?_;refine mM (rs:=[7,12]) dV eG ?_;refine gU.cons (o:=⟨_,_,_,_,_,_⟩) rfl (λK hK=>?_) (gU.cons (o:=⟨_,_,_,_,_,_⟩) rfl (λK hK=>?_) (gU.nil));go_simp;refine(Pv.out wr.drew ((Below.refl wr.heap.size wr).drew)).mono ?_;intro e wt1 pN;obtain⟨tv,nv,dv,rfl,aks,alO⟩:=pN.three;clear pN;obtain⟨ta,tc,na,nc,da,dc,rfl,rfl,rfl⟩:=aks.shapes HLen.out.1 HLen.out.2.1 HLen.out.2.2;have ah5:=eD (Below.refl wr.heap.size wr).drew alO;have hB5:wr.heap.size<=wr.drew.heap.size:=(Below.refl wr.heap.size wr).drew.size;refine hK.out _ _ (λ_=>eB ah5 hc1) (λhH2=>?_);clear hK K;replace hH:=hH2 dV;clear hH2;try simp only[Act.put,fG,fB,fC]
 refine iE 8 (.tuple #[.slice ta NT tc,.agg #[.slice na NN nc],.slice da ND dc]) hH ?_;refine iE 9 (.slice ta NT tc) hH ?_;refine iE 10 (.agg #[.slice na NN nc]) hH ?_;refine gZ 11 (.slice da ND dc) (λ_=>hH) ?_;refine mY 12 λK hK=>?_
 obtain⟨bt6,hbt⟩:∃bt,wt1.heap.size=bt:=⟨_,rfl⟩
 obtain⟨wa7,oN⟩:∃w6,wt1.alloc (.cells #[.slice none 0 0] 31)=w6:=⟨_,rfl⟩
 have agZ:Below wt1.heap.size wt1 wa7:=oN▸dZ wt1 _;have ah6:wa7.heap[bt6]?=some (.cells #[.slice none 0 0] 31 (0,0)):=Jv
 have ag0:=eD ah5 agZ;have alP:wr.heap.size<=bt6:=by rw[<-hbt];exact ah5.size
 have akE:=aks.below agZ;go_simp;try rw[oN]
 try rw[hbt]
 clear oN hbt;refine hK.out _ _ (λ_=>eB ag0 hc1) (λhH2=>?_);clear hK K;replace hH:=hH2 dV;clear hH2;try simp only[Act.put,fG,fB,fC]
 refine iE 13 (.slice ta NT tc) hH ?_;refine mY 14 λK hK=>?_
 have cbx:=cell_of_one ah6;have fbx:=Joins.unfrozen_of_block ah6 0;go_simp;refine hK.out _ _ lh (λ_=>?_);clear hK K;try simp only[Act.put,fG,fB,fC]
 refine gZ 15 (.slice da ND dc) lh ?_;refine fJ dV ?_ _;have hend:=dY (yw.mk' akE hB5 ah6 alP ag0);clear cbx fbx;go_wp2_with fail
 go_meet
 exact⟨bt6,ta,tc,na,nc,da,dc,rfl,rfl,rfl,hend⟩;obtain⟨ah7,hbt⟩:∃bt,wr.heap.size=bt:=⟨_,rfl⟩
 obtain⟨aeI,oN⟩:∃w6,(wr.alloc (.cells #[.slice none 0 0] 31)).drew=w6:=⟨_,rfl⟩
 have Tw:Below wr.heap.size wr aeI:=oN▸(dZ wr _).drew;have ag1:aeI.heap[ah7]?=some (.cells #[.slice none 0 0] 31 (0,0)):=YP
 have akF:wr.heap.size<=ah7:=Qe
 go_simp;try rw[oN]
 try rw[hbt]
 clear oN hbt;refine hK.out _ _ (λ_=>eB Tw hc1) (λhH2=>?_);clear hK K;replace hH:=hH2 dV;clear hH2;try simp only[Act.put,fG,fB,fC]
 refine mY 7 λK hK=>?_
 go_simp;refine(Pv.out aeI (Tw)).mono ?_;intro e amM pN;obtain⟨tv,nv,dv,rfl,ag2,ag3⟩:=pN.three;clear pN;obtain⟨ta,tc,na,nc,da,dc,rfl,rfl,rfl⟩:=ag2.shapes HLen.out.1 HLen.out.2.1 HLen.out.2.2;have ag4:=eD Tw ag3;have alQ:wr.heap.size<=aeI.heap.size:=Tw.size;have Yb:=(ag3.block _ (lt_of_block ag1)).trans ag1;refine hK.out _ _ (λ_=>eB ag4 hc1) (λhH2=>?_);clear hK K;replace hH:=hH2 dV;clear hH2;try simp only[Act.put,fG,fB,fC]
 refine iE 8 (.tuple #[.slice ta NT tc,.agg #[.slice na NN nc],.slice da ND dc]) hH ?_;refine iE 9 (.slice ta NT tc) hH ?_;refine iE 10 (.agg #[.slice na NN nc]) hH ?_;refine gZ 11 (.slice da ND dc) (λ_=>hH) ?_;refine iE 13 (.slice ta NT tc) hH ?_;refine mY 14 λK hK=>?_
 have cbx:=cell_of_one Yb;have fbx:=Joins.unfrozen_of_block Yb 0;go_simp;refine hK.out _ _ lh (λ_=>?_);clear hK K;try simp only[Act.put,fG,fB,fC]
 refine gZ 15 (.slice da ND dc) lh ?_;refine fJ dV ?_ _;have hend:=dY (yw.mk' ag2 alQ Yb akF ag4);clear cbx fbx;go_wp2_with fail
 go_meet
 exact⟨ah7,ta,tc,na,nc,da,dc,rfl,rfl,rfl,hend⟩):p:=h
theorem JR{p:Prop}(h:p:=by
 refine H1.out.mono ?_;rintro e w1 ⟨rfl,rfl⟩;go_wp2_with fail
 refine H2.out.mono ?_;rintro e w1 ⟨rfl,rfl⟩;go_wp2_with fail
 refine H3.out.mono ?_;rintro e w1 ⟨rfl,rfl⟩;go_wp2_with fail
 simp only[Exit.jump];go_ret;exact⟨rfl,rfl⟩):p:=h
theorem QB{p:Prop}(h:p:=by
 go_simp;refine hK.out _ _ (⟨iL q1,iL q2,iL q3,iL q4⟩) (λhH2=>?_);clear hK K;try simp only[Act.put,fG,fB,fC]
 refine Cc 12 λK hK=>?_
 refine uI tyE rfl (.tmp 13) (.tmp 24) rfl (Ba+1) ev es rfl (xm.out.alloc _) w2.heap.size 1 ([⟨dash,C,F+p,F+tq⟩]:List Rw.E) rfl rfl (ae3 w2 _ _ _ Bo.out) M1.out M2.out Xx.out ?_;intro v3 w3 hown3 hg3;obtain⟨a3,Pf,hv3⟩:=(Reads.fo (E:=uK) hown3).shape;rw[show(es++[(⟨dash,C,F+p,F+tq⟩:Rw.E)]).length=es.length+1 from eG]at hv3;subst hv3;obtain⟨HG3,Cw⟩:=fw (RD hg3) hown3;have Lj:=dY (qx.out.grown HG3.out);have r1:=Lj.out.r1;have r2:=cell_of_one Lj.out.s;have r3:=cell_of_one Lj.out.row;have r4:=cell_of_one Lj.out.at';have r5:=cell_of_one Lj.out.e;have rf:=free_of_one Lj.out.e;clear hown3 hg3;refine hK.out _ _ (⟨r1,r2,r3,r4⟩) (λhH2=>?_);clear hK K;try simp only[Act.put,fG,fB,fC]
 refine Cc 13 λK hK=>?_
 go_simp;refine hK.out _ _ (⟨mQ (show Be≠Br by omega) r1,mQ (show Be≠Bs by omega) r2,mQ (show Be≠Bw by omega) r3,mQ (show Be≠Ba by omega) r4⟩) (λhH2=>?_);clear hK K;try simp only[Act.put,fG,fB,fC]
 refine wpAnyH_done dV ?_ _;go_wp2_with fail
 go_meet
 exact aiB):p:=h
theorem ZI{p:Prop}(h:p:=by
 refine wpAnyH_take (i:=18) (oi:=⟨_,_,_,_,_,_⟩) (v:=undef) rfl dV dV dV (λ_ _ _ h=>h) (Or.inr ⟨rfl,rfl⟩) hH2 ?_;try simp only[Act.put,fG,fB,fC]
 refine wpAnyH_take (i:=19) (oi:=⟨_,_,_,_,_,_⟩) (v:=undef) rfl dV dV dV (λ_ _ _ h=>h) (Or.inr ⟨rfl,rfl⟩) hH2 ?_;try simp only[Act.put,fG,fB,fC]
 refine wpAnyH_take (i:=20) (oi:=⟨_,_,_,_,_,_⟩) (v:=undef) rfl dV dV dV (λ_ _ _ h=>h) (Or.inr ⟨rfl,rfl⟩) hH2 ?_;try simp only[Act.put,fG,fB,fC]
 refine wpAnyH_take (i:=21) (oi:=⟨_,_,_,_,_,_⟩) (v:=undef) rfl dV dV dV (λ_ _ _ h=>h) (Or.inr ⟨rfl,rfl⟩) hH2 ?_;try simp only[Act.put,fG,fB,fC]
 refine wpAnyH_take (i:=22) (oi:=⟨_,_,_,_,_,_⟩) (v:=undef) rfl dV dV dV (λ_ _ _ h=>h) (Or.inr ⟨rfl,rfl⟩) hH2 ?_;try simp only[Act.put,fG,fB,fC]
 refine wpAnyH_take (i:=23) (oi:=⟨_,_,_,_,_,_⟩) (v:=undef) rfl dV dV dV (λ_ _ _ h=>h) (Or.inr ⟨rfl,rfl⟩) hH2 ?_;try simp only[Act.put,fG,fB,fC]
 refine wpAnyH_take (i:=24) (oi:=⟨_,_,_,_,_,_⟩) (v:=undef) rfl dV dV dV (λ_ _ _ h=>h) (Or.inr ⟨rfl,rfl⟩) hH2 ?_;try simp only[Act.put,fG,fB,fC]
 refine wpAnyH_take (i:=25) (oi:=⟨_,_,_,_,_,_⟩) (v:=undef) rfl dV dV dV (λ_ _ _ h=>h) (Or.inr ⟨rfl,rfl⟩) hH2 ?_;try simp only[Act.put,fG,fB,fC]
 refine iI 26 (.bool false) hH2 ?_;refine iI 27 (.bool false) hH2 ?_;refine wpAnyH_done dV ?_ _;go_wp2_with fail
 go_ret;exact⟨rfl,HB3.out⟩):p:=h
theorem ZJ{p:Prop}(h:p:=by
 go_enter func106,ntmps106
 go_wp2_with fail
 refine(Fg _ w dS dS HN.out).mono ?_;rintro e w1 ⟨rfl,rfl⟩;go_wp2_with fail
 refine HD.out.mono ?_;rintro e w1 ⟨rfl,rfl⟩;go_wp2_with fail
 refine HB.out.mono ?_;rintro e w1 ⟨rfl,hb⟩;unfold Vi;go_wp2;go_ret2;exact⟨nZ,hb⟩):p:=h
theorem QC{p:Prop}(h:p:=by simp only[Exit.jump];go_ret;exact⟨rfl,rfl⟩):p:=h
theorem ZK{p:Prop}(h:p:=by
 rw[HW1.out,tO.out];clear HW1 tO r0 r1 r2 r3;go_wp2_with fail
 refine ah8.out.mono ?_;rintro e w5 ⟨rfl,rfl⟩;clear ah8;go_wp2_with fail
 refine Yc.out.mono ?_;rintro e w5 ⟨rfl,lv5,R5,hS5,I6⟩;obtain⟨c52,c56,f56⟩:=hS5.two;obtain⟨n1,n2,n3⟩:=HN.out;rw[Pw.out]at n2;obtain⟨q5,hq5⟩:=eu (Pr.step T (Rw.eF T) depth q r);rw[hq5]at hS5 c56 n1 n2 n3;obtain⟨Q5,hQ5⟩:=eu (q5.row);rw[hQ5]at c56 n1 n2 n3;rw[HQR.out]at n1;have HS6:=dY (hS5.setRow (Q5+1)).1;have HR6:=dY n3;clear hS5 I6 hq5 hQ5 c52 Yc HN HA zq n3 v0 v1 v2 v3 c2 c6 f6;go_wp2_with fail
 go_roundw
 case rel=>exact⟨_,lv5,R5,HS6,HR6⟩
 case measure=>
  exact aiA):p:=h
theorem ZL{p:Prop}(h:p:=by
 go_simp;refine hK.out _ _ (x2) (λhH2=>?_);clear hK K;try simp only[Act.put,fG,fB,fC]
 refine Cc 18 λK hK=>?_
 refine uI tyT rfl (.tmp 20) (.tmp 33) rfl (b+1) v l rfl HOa.out W.heap.size 1 [((k,at',T):Tk)] rfl rfl mE.out F9.out HL2.out HL3.out ?_;intro v2 w2 hown2 hg2;obtain⟨a2,cap2,rfl⟩:=(Reads.fo (E:=iQ) hown2).shape;have qx:=dY (HMa.out.grown hg2 Cx.out);have y1:=qx.out.c.2.1;have y2:=qx.out.c.2.2.1;have y3:=qx.out.f 1;obtain⟨xm,HG2⟩:=fw hown2 hg2;clear hown2 hg2;refine hK.out _ _ (y2) (λhH2=>?_);clear hK K;try simp only[Act.put,fG,fB,fC]
 refine iI 19 (.pointer (some ⟨b,0,none⟩)) hH2 ?_;refine iI 20 (.pointer (some ⟨b,1,none⟩)) hH2 ?_;refine Cc 21 λK hK=>?_
 go_simp;refine hK.out _ _ (yX (o:=1) dU y2) (λhH2=>?_);clear hK K;try simp only[Act.put,fG,fB,fC]
 refine wpAnyH_done dV ?_ _;go_wp2_with fail
 go_meet
 exact aiD):p:=h
theorem wI{p:Prop}(h:p:=by
 refine Gp.out.mono ?_;rintro e w1 ⟨rfl,rfl⟩;go_wp2_with fail
 refine Bq.out.mono ?_;rintro e w1 ⟨rfl,rfl⟩;go_wp2_with fail
 go_ret;exact⟨rfl,rfl⟩):p:=h
theorem Ed{p:Prop}(h:p:=by
 refine H1.out.mono ?_;rintro e wi ⟨rfl,rfl⟩;go_wp2_with fail
 refine H2.out.mono ?_;rintro e w3 ⟨rfl,R3,jV,ku⟩;have HD:=dY (vP.out w3 R3 jV ku);clear jV ku vP H2;go_wp2_with fail
 exact ll):p:=h
theorem ZM{p:Prop}(h:p:=by
 refine Dz.out.mono ?_;rintro e wv ⟨rfl,Rv,hSv,hFv⟩;obtain⟨HFv,HSv⟩:=fw (yM.out.trans hFv) hSv;clear hSv hFv Dz yM;by_cases gx:r1=xx
 ·subst gx;have HR2:=dY (IX.out wv Rv (qr+1) HSv.out);rw[show((qr+1:Nat):Int)=(qr:Int)+1 from dS]at HR2;have vP:=dY (λw2 R2 h2 h3=>HQ.out (qr+1) wv w2 Rv R2 (by rw[dX rfl]) HFv.out h2 h3);rw[show((qr+1:Nat):Int)=(qr:Int)+1 from dS]at vP;clear IX HQ HSv HFv;go_wp2_with fail
  exact ZN
 ·have gx2:((r1:Int)==(xx:Int))=false:=by simp;omega
  have HR2:=dY (IX.out wv Rv r1 HSv.out);have vP:=dY (λw2 R2 h2 h3=>HQ.out r1 wv w2 Rv R2 (by rw[dW gx]) HFv.out h2 h3);clear IX HQ HSv HFv;go_wp2_with fail
  exact ZN):p:=h
theorem QE{p:Prop}(h:p:=by
 refine Bq.out.mono ?_;rintro e w1 ⟨rfl,rfl⟩;go_wp2_with fail
 go_ret;exact⟨rfl,rfl⟩):p:=h
theorem ZO{p:Prop}(h:p:=by
 have HP:=dY (λW=>Qm);by_cases h35:(bh[0]'hb1).toNat=35
 ·have hR:Sc.lT (Sc.eH s)=2:=by rw[hres,hok,hp,hh,h35];rfl
  exact ZP
 ·exact ZQ):p:=h
theorem ZR{p:Prop}(h:p:=by
 have cbx:=cell_of_one hbx;have fbx:=Joins.unfrozen_of_block hbx 0;go_simp;refine hK.out _ _ lh (λ_=>?_);clear hK K;try simp only[Act.put,fG,fB,fC]
 refine gZ 33 (.int .i64 v1) lh ?_;refine gZ 34 (.int .i64 (nx:Int)) lh ?_;refine gZ 35 dv lh ?_;refine fJ dV ?_ _;exact⟨bt,.slice ua un uc,dv,⟨rfl,rfl,rfl,rfl,rfl,rfl,rfl,rfl,rfl,rfl⟩,RV.new hbT hbx hlo htT hoT⟩):p:=h
theorem ZS{p:Prop}(h:p:=by
 have HK1:=dY ait;have HA1:=dY (HAdd.out _ HB1.out);obtain⟨w1,hw1⟩:=eu (w.alloc (.cells #[RP rb] 174));rw[hw1]at HK1 HA1;have k5:w1.cell? ⟨b5,0,none⟩=some (RP rb):=by rw[<-hw1,<-tY.out];exact at_new rfl
 have ahY:=dY hw1;clear hw1;go_wp2_with fail
 rw[ahY.out];refine HK1.out.mono ?_;rintro e wi ⟨rfl,rfl⟩;go_wp2_with fail
 refine HA1.out.mono ?_;rintro e w2 ⟨rfl,R,hS2,hF2⟩;clear k5;obtain⟨b13,ah9⟩:=eu (w2.heap.size);obtain⟨b14,qI⟩:=eu (w2.heap.size+1);obtain⟨W,hW⟩:=eu ((w2.alloc (.cells #[.int .i64 (n:Int)] 3)).alloc (.cells #[.int .i64 ((op:Int)+1)] 3));have HC:=dY (aia.out w1 w2 W R b5 b13 b14 ahY.out.symm tY.out.symm ah9.symm qI.symm hS2 hF2 aix);obtain⟨HWd,akq,akp⟩:=je hW ah9 qI;clear hS2 hF2 ah9 qI hW aia HAdd HA1 HK1 ahX HB1 HKS;go_wp2_with fail
 go_step3
 exact aiC):p:=h
theorem pz{p:Prop}(h:p:=by go_ret;exact⟨rfl,rfl⟩):p:=h
theorem ZT{p:Prop}(h:p:=by
 have ho:Fl.opens (Fl.kd l l.length h)=true:=by rw[I7.out];rfl
 have hbi:=Fl.my ho;have H2:=ng.out h ho;obtain⟨t,ht⟩:=eu (Fl.balanced l l.length h);rw[ht]at hbi H2;have hres2:(t,Fl.rQ l s up i0 t 10)=RES:=by rw[<-ht];exact hres
 have H2:=dY H2;have H3:=dY (yM.out i0 t YJ dS hbi.2.1);have vP:=dY (λw3 R3 jV ku=>HQ.out w3 t _ hres2 ⟨R3,jV,ku⟩);clear HK Dh Px ng yM uO HQ xn tH yo TE TF Py I7 Pz TG hds hres hO ht hres2 hbi ho hrw hhN hph;go_wp2_with fail
 refine H1.out.mono ?_;rintro e wi ⟨rfl,rfl⟩;go_wp2_with fail
 refine H2.out.mono ?_;rintro e wi ⟨rfl,rfl⟩;go_wp2_with fail
 refine H3.out.mono ?_;rintro e w3 ⟨rfl,R3,jV,ku⟩;have HD:=dY (vP.out w3 R3 jV ku);clear jV ku vP H2 H3;go_wp2_with fail
 exact ll):p:=h
theorem QF{p:Prop}(h:p:=by
 refine Bq.out.mono ?_;rintro e w1 ⟨rfl,rfl⟩;go_wp2_with fail
 go_roundw
 case rel=>exact⟨k+1,fH,dS,HK3,trivial⟩
 case measure=>simp[intOf];omega):p:=h
theorem QG{p:Prop}(h:p:=by
 have hR:Sc.lT (Sc.eH s)=0:=by rw[hres,hok,hp];rfl
 rw[hR];have HP:=dY (λW=>Qm);clear hres hok hpt hp hh hR;rcases gF with gA|⟨gA,gB⟩
 all_goals
  go_enter func90,ntmps90
  go_wp2_with fail
  refine HB.out.mono ?_;rintro e w1 ⟨rfl,hbw⟩;go_wp2_with fail
  refine(HP.out _).mono ?_;rintro e w2 ⟨rfl,rfl⟩;go_wp2_with fail
  go_ret;exact⟨rfl,hbw⟩):p:=h
theorem JS{p:Prop}(h:p:=by
 obtain⟨HC,HA⟩:=fw hcall tT;clear hall tT hcall hc hgd hge hit hb;go_wp2_with fail
 refine HC.out.mono ?_;rintro e w1 ⟨rfl,rfl⟩;go_wp2
 go_roundg g'
 case measure=>omega
 case rel=>exact⟨pos+1,hit2,hb2,HA,dS,dS⟩):p:=h
theorem ZU{p:Prop}(h:p:=by
 go_enter func106,ntmps106
 go_wp2_with fail
 refine(Fg _ w dS dS HN.out).mono ?_;rintro e w1 ⟨rfl,rfl⟩;go_wp2_with fail
 refine HD.out.mono ?_;rintro e w1 ⟨rfl,rfl⟩;go_wp2;go_ret2;exact⟨nZ,Below.refl _ _⟩):p:=h
theorem QH{p:Prop}(h:p:=by
 go_big_quiet (fail)
 have OU:=dY (Go.below_drewN HZ.out nq);clear d0 d1 d2 t1 t2 m1 m2;generalize World.drewN _ nq=wn at*;go_wp2_with fail
 go_roundw
 case rel=>exact⟨j+1,fH,dS,YR,OU⟩
 case measure=>simp[intOf];omega):p:=h
theorem ZV{p:Prop}(h:p:=by
 rw[hc]at hcall;have hres:=HR.out pos hall.out (.inr ⟨D6,by rw[hgd];exact hc⟩);have HC:=dY hcall;subst hres;clear hall tT hcall hc hgd hit hb hdc hva hbd hov hK hR hWd HR;go_wp2_with fail
 refine HC.out.mono ?_;rintro e W1 ⟨rfl,hb3⟩;have hb4:=hb2.trans (hb3.mono hb2.size);have q0:=(jK hb4 H0).1;have q1:=(jK hb4 H1).1;have z0:=(jK hb4 H0).2;have z1:=(jK hb4 H1).2;go_wp2_with fail
 refine vK (v:=DC (s.extract 0 R0) R0) ?_ rfl ⟨rfl,(hB0.trans (hb4.mono dS)).TQ _ _ (eO _)⟩;simp[DC,results,results105,go_sem,q0,q1,vF,ig]):p:=h
theorem ZW{p:Prop}(h:p:=by
 have hnx:∀ty,(Instr.next (.pointer (some ⟨w.heap.size+1,0,none⟩)) true ty).run prog wr=_:=λty=>Lib.run_next_end_at wr (w.heap.size+1) s pos ty hit hlt2
 obtain rfl:pos=s.size:=dS
 have hres:=HR.out s.size hall.out (.inl (Sc.fM s).symm);subst hres;have q0:=(jK hb H0).1;have q1:=(jK hb H1).1;have z0:=(jK hb H0).2;have z1:=(jK hb H1).2;clear hall hit HR;go_wp2_with fail
 refine vK (v:=DC s s.size) ?_ rfl ⟨by rw[ae4],(hB0.trans (hb.mono dS)).TQ _ _ (eO _)⟩;simp[DC,results,results105,go_sem,q0,q1,vF,ig]):p:=h
theorem Bb{p:Prop}(h:p:=by
 go_roundg g'
 case measure=>omega
 case rel=>exact⟨p+K,rfl,Cf.out,hb2,dS,dS,Ga⟩):p:=h
theorem ZX{p:Prop}(h:p:=by
 have hhN:=Pz.out dU;obtain⟨hn1,hn2⟩:=HVs.out.next hp2;have H2:=Xy.out (h+1) dS;obtain⟨t,ht⟩:=eu (Fl.blanks l l.length (h+1));rw[ht]at hn1 hn2 H2;rw[show((h+1:Nat):Int)=(h:Int)+1 from dS]at H2;obtain⟨H2,HJ⟩:=fw H2 hn1;have htN:=hn1.2.1;clear HK Xy Dh Px ng yM uO HQ xn aib HVs tH yo TE TF Py I7 Pz TG hp2 hn1 ht hds;go_wp2_with fail
 refine H1.out.mono ?_;rintro e wi ⟨rfl,rfl⟩;go_wp2_with fail
 refine H2.out.mono ?_;rintro e wi ⟨rfl,rfl⟩;go_wp2_with fail
 go_step3
 exact aiE):p:=h
theorem Ee{p:Prop}(h:p:=by
 go_enter func27,ntmps27
 go_upto_region 1 with fail
 rw[HW1.out,rJ.out];clear HW1 rJ;go_wp2_with fail
 go_ret;exact⟨rfl,HB2.out _⟩):p:=h
theorem QJ{p:Prop}(h:p:=by
 refine(PD.out p _ hps).mono ?_;rintro e w9 ⟨t,rfl,htz,GJ⟩;have HTZ:=dY htz;clear htz;go_wp2_with fail
 try rw[Pb]
 go_ret;refine⟨?_,hb2.trans (GJ.mono hb2.size)⟩;rw[HNP.out,<-Sc.BA,<-HTZ.out];rfl):p:=h
theorem aiL{p:Prop}(h:p:=by
 go_roundw
 case rel=>exact⟨j+1,fH,dS,YR,OU⟩
 case measure=>simp[intOf];omega):p:=h
theorem ZY{p:Prop}(h:p:=by
 rw[dX hdp]at hsk;have n1:decide ((D:Int)<(m0:Int)+1)=true:=kD dS;have n2:(D:Int)<(m0:Int)+1:=by omega
 have HD:=dY (λW (hb:Below w.heap.size w W)=>rR.out W 8 hb hsk.symm);clear hsk rR mE I8 hdp;go_upto_region 4 with fail
 rw[HW1.out,I9.out];clear HW1 I9;go_upto_region 10 with fail
 go_big_quiet (fail)
 go_upto_region 18 with fail
 go_big_quiet (fail)
 go_wp2_with fail
 exact aiF):p:=h
theorem QK{p:Prop}(h:p:=by
 go_enter func20,ntmps20
 go_wp2;refine vK (v:=.agg #[.slice (some ⟨w.heap.size+1,0,none⟩) 1 1]) ?_ rfl ⟨_,rfl,(HO.out _).nodes,λe=>absurd e dU,HB.out _ _⟩;simp[results,results20,go_sem]):p:=h
theorem ZZ{p:Prop}(h:p:=by
 rw[hR];clear hres hok hpt hb0 hR;rcases gF with gA|⟨gA,gB⟩
 all_goals
  go_enter func90,ntmps90
  go_wp2_with fail
  refine HB.out.mono ?_;rintro e w1 ⟨rfl,hbw⟩;go_wp2_with fail
  go_ret;exact⟨rfl,hbw⟩):p:=h
theorem JU{p:Prop}(h:p:=by
 go_wp2;all_goals (go_ret;refine⟨congrArg (λb=>Ending.returned (.bool b)) ?_,rfl⟩)
 all_goals (rw[qb];simp at*;try omega)):p:=h
theorem Z0{p:Prop}(h:p:=by
 rw[hc]at hcall;obtain⟨HC,HA⟩:=fw hcall (tT hc);clear hall tT hcall hc hgd hit hb hdc hva hbd hov hK hR hWd;go_wp2_with fail
 refine HC.out.mono ?_;rintro e W1 ⟨rfl,hb3⟩;have hit3:=(hb3.block _ (Dl.1 hit2).1).trans hit2;have hb4:=hb2.trans (hb3.mono hb2.size);go_wp2
 go_roundg g'
 case measure=>omega
 case rel=>exact⟨pos+K,hit3,hb4,HA,hwn,dS⟩):p:=h
theorem Z4{p:Prop}(h:p:=by
 rw[q]at hst hcl;rw[dW dU]at hst;have HK3:=dY (show back l i m=T by rw[<-qj.out];exact hst.symm);have hzi:=HZ2.out q;have Bq:=dY hcl;clear hcl hst hx hK hr HZ2 H HC HB qj HT HN HZ q hm0 hzk hz1 hz2 gw;go_wp2_with fail
 refine Bq.out.mono ?_;rintro e w1 ⟨rfl,rfl⟩;go_wp2_with fail
 go_roundw
 case rel=>exact⟨i,fH,dS,hzi,HK3,trivial⟩
 case measure=>simp[intOf]):p:=h
theorem Z5{p:Prop}(h:p:=by
 have HS:=dY (show vZ X.2.2 (j+1)=C+1 from by rw[Vn.out,dX YT]);clear hbe;go_upto_region 21 with fail
 go_wp2_with fail
 go_big_quiet (fail)
 have OU:=dY (Go.below_drewN HZ.out nq);clear d0 d1 d2 t1 t2 t3 t4 t5 ci;generalize World.drewN _ nq=wn at*;go_wp2_with fail
 go_roundw
 case rel=>exact⟨j+1,fH,dS,ZG,OU⟩
 case measure=>simp[intOf];omega):p:=h
theorem Z6{p:Prop}(h:p:=by
 clear hst hone hn0;go_wp2_with fail
 refine H1.out.mono ?_;rintro e w1 ⟨rfl,rfl⟩;go_wp2_with fail
 refine H2.out.mono ?_;rintro e w1 ⟨rfl,rfl⟩;go_wp2_with fail
 refine H1.out.mono ?_;rintro e w1 ⟨rfl,rfl⟩;go_wp2_with fail
 go_roundw
 case rel=>exact⟨j+1,n+1,fH,fH,dS,dS,dS,λ_=>dS,HB2,trivial⟩
 case measure=>simp[intOf];omega):p:=h
theorem Z8{p:Prop}(h:p:=by
 go_simp;refine(yM.out _ (Go.below_drewN (Below.refl _ _) _)).mono ?_;rintro e w7 ⟨rfl,R7,hS7,hF7⟩;have HD:=dY (HQ.out w7 R7 _ hS7 hF7);clear hS7 hF7;refine hK.out _ _ lh (λ_=>?_);clear hK K;try simp only[Act.put,fG,fB,fC]
 refine fJ dV ?_ _;go_wp2_with fail
 try go_end0
 exact HD.out):p:=h
theorem QL{p:Prop}(h:p:=by
 go_enter func20,ntmps20
 go_wp2;refine vK (v:=.agg #[.slice (some ⟨w.heap.size+1,0,none⟩) 1 1]) ?_ rfl ⟨_,rfl,HO.out _,HB.out _ _⟩;simp[results,results20,go_sem]):p:=h
theorem QM{p:Prop}(h:p:=by
 go_roundw
 case rel=>exact⟨k+1,fH,dS,HA2,eD HB.out (dZ _ _)⟩
 case measure=>simp[intOf];omega):p:=h
theorem Z9{p:Prop}(h:p:=by
 obtain rfl:j=kn:=by omega
 have hall:=ae5 (M:Int) p;rw[L8.out]at hall;have hP4:=HPj.out;rw[hall,Vq _ _ _ _ HP.out]at hP4;have HP4:=dY hP4;have gj:¬(j:Int)<(j:Int):=dS
 clear hall hP4 hget XY HPj hjl;go_wp2_with fail
 go_roundw
 case rel=>exact⟨i+1,fH,dS,HP4⟩
 case measure=>simp[intOf];omega):p:=h
theorem JV{p:Prop}(h:p:=by
 rw[HW1.out,I9.out];clear HW1 I9;go_upto_region 10 with fail
 go_big_quiet (fail)
 go_wp2_with fail
 exact aiH):p:=h
theorem aaa{p:Prop}(h:p:=by
 go_enter func155,ntmps155
 go_wp2_with fail
 refine zq.out.mono ?_;rintro e w1 ⟨rfl,rfl⟩;go_wp2_with fail
 refine HK.out.mono ?_;rintro e w1 ⟨rfl,rfl⟩;go_wp2_with fail
 refine o9.out.mono ?_;rintro e w1 ⟨rfl,rfl⟩;go_wp2_with fail
 go_ret;exact⟨fH,rfl⟩):p:=h
theorem aab{p:Prop}(h:p:=by
 clear h fin
 go_enter func12,ntmps12
 go_wp2_with fail
 refine vK (v:=.tuple #[.slice none 0 0,.agg #[.slice none 0 0],.slice none 0 0]) ?_ rfl (HE.out _ ?_)
 ·simp[results,results12,go_sem]
 ·first
   |exact HB.out _ _ _
   |exact dZ _ _):p:=h
theorem aiM{p:Prop}(h:p:=by
 go_roundw
 case rel=>exact⟨j+1,fH,dS,ZG,OU⟩
 case measure=>simp[intOf];omega):p:=h
theorem QN{p:Prop}(h:p:=by
 refine yN.out.mono ?_;rintro e' w' ⟨rfl,hq⟩;have HQ:=dY hq;clear hq;go_wp2_with fail
 try simp only[Exit.jump]
 exact HQ.out):p:=h
theorem aac{p:Prop}(h:p:=by
 refine HVd.out.mono ?_;rintro e w4 ⟨rfl,R4,rU,vS⟩;have HD:=dY (show Goes w0 w rb tv l R (.int .i64 r1) r2 (.returned (.int .i64 r1)) w4 from⟨rfl,R4,rU,vS⟩);clear rU vS HVd;go_wp2_with fail
 go_ret;exact⟨r1,r2,rfl,HD.out⟩):p:=h
theorem aad{p:Prop}(h:p:=by
 rw[dW hn];have g2:((n:Int)==0)=false:=jE.2 dS;clear hn
 go_enter func88,ntmps88
 go_wp2_with fail
 refine HN.out.mono ?_;rintro e w1 ⟨rfl,hb⟩;go_wp2_with fail
 go_ret2;exact⟨by rw[Int.add_comm];rfl,hb⟩):p:=h
theorem QO{p:Prop}(h:p:=by
 go_enter func69,ntmps69
 go_wp2_with fail
 refine C.out.mono ?_;rintro e w' ⟨rfl,hq⟩;go_wp2;go_ret2;exact⟨rfl,hq⟩):p:=h
theorem JW{p:Prop}(h:p:=by refine HC.out.mono ?_;rintro e w1 ⟨rfl,rfl⟩;go_wp2;go_ret;exact⟨nZ,hb2⟩):p:=h
theorem JX{p:Prop}(h:p:=by refine HI.out.mono ?_;rintro e w1 ⟨rfl,hb⟩;go_wp2;go_ret;exact⟨rfl,hb⟩):p:=h
theorem QP{p:Prop}(h:p:=by
 go_enter func30,ntmps30
 go_wp2_with fail
 go_ret;exact⟨eG,by first|exact hb|(rw[<-hw2]at hb;exact hb)⟩):p:=h
theorem QT{p:Prop}(h:p:=by
 refine H3.out.mono ?_;rintro e w1 ⟨rfl,rfl⟩;go_wp2_with fail
 rw[Pb];go_ret;exact⟨rfl,rfl⟩):p:=h
theorem aae{p:Prop}(h:p:=by
 have gwz:wrap64 (z+(M:Int))=z+(M:Int):=AF _ dS;clear hv' hv2 c4j hP3 hz hget XY HPj;go_wp2_with fail
 go_roundw
 case rel=>exact⟨j+1,fH,dS,PE⟩
 case measure=>simp[intOf];omega):p:=h
theorem aaf{p:Prop}(h:p:=by
 have hT:=HY.out k hlt (by rw[hr];exact q);have g:((K:Int)==13)=true:=by simp;omega
 clear hr hx hK HT HG HY HN HL HA hB q;subst hT;go_wp2_with fail
 go_ret;exact⟨rfl,eD HB.out (dZ _ _)⟩):p:=h
theorem uR{p:Prop}(h:p:=by go_ret;exact⟨rfl,HB.out⟩):p:=h
theorem QU{p:Prop}(h:p:=by
 obtain⟨rfl,rfl,rfl⟩:=hrel;go_wp2_with fail
 rw[Pb];go_ret;exact⟨rfl,Below.refl _ _⟩):p:=h
theorem aiN{p:Prop}(h:p:=by
 rw[dX q6]at hV;subst q6;subst hV;clear H HP rM Gb Di HN uN GK g12 Ll g14 PG g15 q16 g16 Vo g17 Xz g13;go_wp2_with fail
 simp only[Exit.jump];go_ret;exact⟨fH,rfl⟩):p:=h
theorem aag{p:Prop}(h:p:=by
 go_roundw
 case rel=>
  have h1:=Kv (u:=.int .i64 ((o-1:Nat):Int)) HP.out.1 HP.out.2;exact⟨k+1,fH,dS,YO,(qL _ h1.1 h1.2).2⟩
 case measure=>simp[intOf];omega):p:=h
theorem sP{p:Prop}(h:p:=by
 try go_end0
 exact HD.out):p:=h
theorem aah{p:Prop}(h:p:=by
 go_roundw
 case rel=>
  have h1:=Kv (u:=.int .i64 ((o:Int)+1)) HP.out.1 HP.out.2;exact⟨k+1,fH,dS,aiz,(qL _ h1.1 h1.2).2⟩
 case measure=>simp[intOf];omega):p:=h
theorem aai{p:Prop}(h:p:=by
 go_step3
 go_wp2_with fail
 refine H1.out.mono ?_;rintro e w1 ⟨rfl,rfl⟩;go_wp2_with fail
 refine H2.out.mono ?_;rintro e w1 ⟨rfl,rfl⟩;go_wp2_with fail
 go_step3
 exact aiJ):p:=h
theorem Bc{p:Prop}(h:p:=by
 go_wp2_with fail
 go_meet
 exact⟨rfl,rfl⟩):p:=h
theorem aaj{p:Prop}(h:p:=by
 go_roundw
 case rel=>
  have h1:=Kv (u:=.int .i64 0) HP.out.1 HP.out.2;exact⟨k+1,fH,dS,YO,(qL _ h1.1 h1.2).2⟩
 case measure=>simp[intOf];omega):p:=h
theorem aak{p:Prop}(h:p:=by
 subst hn;rw[dX rfl]
 go_enter func88,ntmps88
 go_wp2_with fail
 refine HN.out.mono ?_;rintro e w1 ⟨rfl,hb⟩;go_wp2_with fail
 go_ret2;exact⟨rfl,hb⟩):p:=h
theorem aal{p:Prop}(h:p:=by
 refine H1.out.mono ?_;rintro e w1 ⟨rfl,rfl⟩;go_wp2_with fail
 refine H2.out.mono ?_;rintro e w1 ⟨rfl,rfl⟩;go_wp2_with fail
 go_step3
 exact aiG):p:=h
theorem aam{p:Prop}(h:p:=by
 go_wp2;all_goals (go_ret;refine⟨congrArg (λb=>Ending.returned (.bool b)) ?_,rfl⟩)
 all_goals (rw[qb];simp[cnt]at*;try omega)):p:=h
theorem aan{p:Prop}(h:p:=by
 go_enter func72,ntmps72
 go_wp2_with fail
 refine HP.out.mono ?_;rintro e w1 ⟨rfl,rfl⟩;go_wp2;go_ret;exact⟨rfl,Below.refl _ _⟩):p:=h
theorem aao{p:Prop}(h:p:=by
 go_wp2_with fail
 go_big_quiet (fail)
 have hb:=Go.below_drewN (Below.refl w.heap.size w) nq;go_wp2_with fail
 go_ret;exact⟨rfl,hb⟩):p:=h
theorem QV{p:Prop}(h:p:=by
 go_enter func50,ntmps50
 go_wp2_with fail
 go_ret;exact⟨rfl,HB.out _⟩):p:=h
theorem aap{p:Prop}(h:p:=by
 clear hq HA hx HL hb H HN HC Ja HR Gq q hcp;go_wp2_with fail
 go_ret;exact⟨_,rfl,HRu.out,eD HB.out (dZ _ _)⟩):p:=h
theorem aaq{p:Prop}(h:p:=by
 rw[HW.out];go_wp2_with fail
 go_big_quiet (fail)
 have HD:=dY (HQ.out _ (Go.below_drewN HBW.out nq));go_wp2_with fail
 exact ll):p:=h
theorem aar{p:Prop}(h:p:=by
 go_enter func73,ntmps73
 go_wp2_with fail
 refine HE.out.mono ?_;rintro e w1 ⟨rfl,hb⟩;go_wp2;go_ret;exact⟨rfl,hb⟩):p:=h
theorem aas{p:Prop}(h:p:=by
 go_enter func52,ntmps52
 go_wp2_with fail
 refine HC.out.mono ?_;rintro e w1 ⟨rfl,hb⟩;go_wp2;go_ret;exact⟨rfl,hb⟩):p:=h
theorem aat{p:Prop}(h:p:=by
 have g1:¬((k:Int)<2):=by omega
 have HD:=dY (HQ.out wr (eD qQ.out HR.out));go_wp2_with fail
 exact ll):p:=h
theorem aau{p:Prop}(h:p:=by
 go_wp2_with fail
 go_roundw
 case rel=>exact⟨j+1,fH,dS,ZF,trivial⟩
 case measure=>simp[intOf];omega):p:=h
theorem aav{p:Prop}(h:p:=by
 go_wp2_with fail
 go_roundw
 case rel=>exact⟨j+1,fH,dS,ZE,trivial⟩
 case measure=>simp[intOf];omega):p:=h
theorem aaw{p:Prop}(h:p:=by
 go_wp2_with fail
 rw[Pb];go_wp2_with fail
 rw[Pb];go_ret;exact⟨rfl,aiv⟩):p:=h
theorem Ef{p:Prop}(h:p:=by go_wp2;go_ret;exact⟨rfl,rfl⟩):p:=h
theorem aax{p:Prop}(h:p:=by
 go_roundg g'
 case measure=>omega
 case rel=>exact⟨p+1,fH,rfl,dS,dS,dS,HE2⟩):p:=h
theorem aay{p:Prop}(h:p:=by
 go_roundg g'
 case measure=>omega
 case rel=>exact⟨p+K,rfl,Cf.out,hb3,dS,dS,Ga⟩):p:=h
theorem QW{p:Prop}(h:p:=by
 go_enter func45,ntmps45
 go_wp2
 go_ret3
 exact aiK):p:=h
theorem QX{p:Prop}(h:p:=by
 clear hit;go_wp2_with fail
 go_ret;exact⟨rfl,hb⟩):p:=h
theorem aaz{p:Prop}(h:p:=by
 go_roundw
 case rel=>exact⟨k+1,R',fH,dS,o9⟩
 case measure=>simp[intOf];omega):p:=h
theorem aaA{p:Prop}(h:p:=by
 go_enter func106,ntmps106
 go_wp2;all_goals
  go_ret2;exact⟨nZ,Below.refl _ _⟩):p:=h
theorem aaB{p:Prop}(h:p:=by go_ret2;exact⟨by rw[HE2.out];simp only[pr];first|rfl|(rw[<-hkp];rfl),hb6⟩):p:=h
theorem aaC{p:Prop}(h:p:=by
 have g14:((K:Int)==14)=false:=eQ
 have uN:Rw.isProp x.1=false:=by rw[HK.out];simp[Rw.isProp];omega
 by_cases PG:K=15
 ·subst PG;have hV:=(Rw.xS ts q x HX.out uN wG).symm.trans Di.out;have tQ:=HP.out (q+1) dS;have GM:=rM.out (q+1) dS;obtain⟨r,hr⟩:=eu (q+1+Rw.blanks (ts.drop (q+1)));rw[hr]at tQ GM hV;have HVr:=dY hV;rw[show((q+1:Nat):Int)=(q:Int)+1 from dS]at tQ;have HPr:=dY tQ;clear hV tQ hr HP Gb Di rM uN GK Ll;go_wp2_with fail
  exact JQ
 have g15:((K:Int)==15)=false:=eQ
 by_cases q16:K=16
 ·subst q16;have hV:=(Rw.xS ts q x HX.out uN wG).symm.trans Di.out;have tQ:=HP.out (q+1) dS;have GM:=rM.out (q+1) dS;obtain⟨r,hr⟩:=eu (q+1+Rw.blanks (ts.drop (q+1)));rw[hr]at tQ GM hV;have HVr:=dY hV;rw[show((q+1:Nat):Int)=(q:Int)+1 from dS]at tQ;have HPr:=dY tQ;clear hV tQ hr HP Gb Di rM uN GK Ll PG;go_wp2_with fail
  exact JQ
 have g16:((K:Int)==16)=false:=eQ
 by_cases Vo:K=17
 ·subst Vo;have hV:=(Rw.xS ts q x HX.out uN wG).symm.trans Di.out;have tQ:=HP.out (q+1) dS;have GM:=rM.out (q+1) dS;obtain⟨r,hr⟩:=eu (q+1+Rw.blanks (ts.drop (q+1)));rw[hr]at tQ GM hV;have HVr:=dY hV;rw[show((q+1:Nat):Int)=(q:Int)+1 from dS]at tQ;have HPr:=dY tQ;clear hV tQ hr HP Gb Di rM uN GK Ll PG q16;go_wp2_with fail
  exact JQ
 have g17:((K:Int)==17)=false:=eQ
 by_cases Xz:K=13
 ·subst Xz;have hV:=(Rw.xS ts q x HX.out uN wG).symm.trans Di.out;have tQ:=HP.out (q+1) dS;have GM:=rM.out (q+1) dS;obtain⟨r,hr⟩:=eu (q+1+Rw.blanks (ts.drop (q+1)));rw[hr]at tQ GM hV;have HVr:=dY hV;rw[show((q+1:Nat):Int)=(q:Int)+1 from dS]at tQ;have HPr:=dY tQ;clear hV tQ hr HP Gb Di rM uN GK Ll PG q16 Vo;go_wp2_with fail
  exact JQ
 have g13:((K:Int)==13)=false:=eQ
 have hV:=(Rw.RE ts q x HX.out uN (by rw[HK.out];simp[Rw.gX];omega)).symm.trans Di.out;rw[Rw.TP ts q x HX.out,HK.out]at hV;by_cases q6:K=6
 ·exact aiN
 ·rw[dW q6]at hV;subst hV;have g6:((K:Int)==6)=false:=by simp;omega
  clear H HP rM Gb Di HN uN q6 GK Ll PG q16 Vo Xz;go_wp2_with fail
  exact QC):p:=h
theorem Eg{p:Prop}(h:p:=by
 go_wp2_with fail
 refine HP.out.mono ?_;rintro e w1 ⟨rfl,rfl⟩;go_wp2_with fail
 exact pz):p:=h
theorem JY{p:Prop}(h:p:=by
 have h6:kd l N t≠6:=λh=>YY
 rw[dW h6]at hcp;subst hcp;have g6:((J:Int)==6)=false:=eQ
 clear HK HKK HI zt GN Bo uO hkk hV hkd ht hK hpl hk2 hc2 hJ h6 uN q6;go_wp2_with fail
 go_step3
 go_wp2_with fail
 exact JR):p:=h
theorem JZ{p:Prop}(h:p:=by
 subst q6;have h6:kd l N t=6:=hk2.2.1 dU dU;rw[dX h6]at hcp;subst hcp;clear HK HKK HI zt GN Bo uO hkk hV hkd ht hK hpl hk2 hc2 hJ h6 uN;go_wp2_with fail
 go_step3
 go_wp2_with fail
 exact JR):p:=h
theorem J2{p:Prop}(h:p:=by
 have h6:kd l N t≠6:=λh=>YY
 rw[dW h6]at hcp;subst hcp;have g6:((J:Int)==6)=false:=eQ
 clear HK HKK HI zt GN Bo uO hkk hV hkd ht hK hpl hk2 hc2 hJ h6 uN q6;go_wp2_with fail
 exact JR):p:=h
theorem aaD{p:Prop}(h:p:=by
 have H2:=uO.out d rfl h YJ hhN (by rw[hrw];omega);have hres2:Fl.iN l l.length (Fl.iw l l.length d) s.q.length h (l.length-h) (h+1) false ⟨Fl.iq s.q up (if Fl.raw l h=9 then 10 else 9) i0,s.d⟩=RES:=by rw[hrw];exact hres
 rw[hres2]at H2;rw[show((d+1:Nat):Int)=(d:Int)+1 from dS]at H2;have H2:=dY H2;have gd:((d:Int)+1==0)=false:=eQ
 have vP:=dY (λw3 R3 jV ku=>HQ.out w3 RES.1 RES.2 rfl ⟨R3,jV,ku⟩);clear HK Dh Px ng yM uO HQ xn tH yo TE TF Py I7 Pz TG hds hres hO hres2 hrw hhN hph;go_wp2_with fail
 exact Ed):p:=h
theorem J3{p:Prop}(h:p:=by
 subst q6;have h6:kd l N t=6:=hk2.2.1 dU dU;rw[dX h6]at hcp;subst hcp;clear HK HKK HI zt GN Bo uO hkk hV hkd ht hK hpl hk2 hc2 hJ h6 uN;go_wp2_with fail
 exact JR):p:=h
theorem QY{p:Prop}(h:p:=by
 have hE:=TR (r:=s.data.toList.drop 2) h9 hs1 Jy hln Jz;rw[<-hL]at hE;have HS:=dY hE;rw[hd]at hdg;rw[hsn]at hnb;obtain⟨HD,HB⟩:=fw hdg hnb;clear hE hs1 hL hl hr h9 hd hdg h3 hnb hsn htz htk hln
 exact ZJ):p:=h
theorem J4{p:Prop}(h:p:=by
 refine H1.out.mono ?_;rintro e w1 ⟨rfl,rfl⟩;go_wp2_with fail
 refine H1.out.mono ?_;rintro e w1 ⟨rfl,rfl⟩;go_wp2_with fail
 exact QC):p:=h
theorem ZQ{p:Prop}(h:p:=by
 have hR:Sc.lT (Sc.eH s)=0:=aiI
 rw[hR];have g35:(((bh[0]'hb1).toNat:Int)==35)=false:=jE.2 dS;clear hres hok hpt hp hh hR h35;rcases gF with gA|⟨gA,gB⟩
 all_goals
  go_enter func90,ntmps90
  go_wp2_with fail
  refine HB.out.mono ?_;rintro e w1 ⟨rfl,hbw⟩;go_wp2_with fail
  refine(HP.out _).mono ?_;rintro e w2 ⟨rfl,rfl⟩;go_wp2_with fail
  go_ret;exact⟨rfl,hbw⟩):p:=h
theorem QZ{p:Prop}(h:p:=by
 have HS:=dY hE2;rw[hd]at hdg;rw[hsn]at hnb;obtain⟨HD,HB⟩:=fw hdg hnb;have hcv:=uz v;clear hE hE2 hs1 hL hl hr h9 hd hdg h3 hnb hsn htz htk hln;generalize Utf8.encode v=V at*
 exact ZJ):p:=h
theorem ZP{p:Prop}(h:p:=by
 rw[hR];have g35:(((bh[0]'hb1).toNat:Int)==35)=true:=by rw[h35];rfl
 clear hres hok hpt hp hh hR h35;rcases gF with gA|⟨gA,gB⟩
 all_goals
  go_enter func90,ntmps90
  go_wp2_with fail
  refine HB.out.mono ?_;rintro e w1 ⟨rfl,hbw⟩;go_wp2_with fail
  refine(HP.out _).mono ?_;rintro e w2 ⟨rfl,rfl⟩;go_wp2_with fail
  go_ret;exact⟨rfl,hbw⟩):p:=h
theorem nH{p:Prop}(h:p:=by
 go_wp2_with fail
 exact pz):p:=h
theorem aaE{p:Prop}(h:p:=by
 have HS:=dY (show vZ X.2.2 (j+1)=C from by rw[Vn.out,dW YT];exact oW C);clear hbe;go_upto_region 21 with fail
 go_wp2_with fail
 go_big_quiet (fail)
 have OU:=dY (Go.below_drewN HZ.out nq);clear d0 d1 d2 t1 t2 t3 t4 t5 ci;generalize World.drewN _ nq=wn at*;go_wp2_with fail
 exact aiL):p:=h
theorem aaF{p:Prop}(h:p:=by
 refine gZ 26 (.tuple #[.agg #[.slice ua un uc],.int .i64 v1,.int .i64 (nx:Int),dv]) lh ?_;refine gZ 27 (.agg #[.slice ua un uc]) lh ?_;refine gZ 28 (.int .i64 v1) lh ?_;refine gZ 29 (.int .i64 (nx:Int)) lh ?_;refine gZ 30 dv lh ?_;refine mY 32 λK hK=>?_
 exact ZR):p:=h
theorem aaG{p:Prop}(h:p:=by
 go_enter func155,ntmps155
 go_wp2_with fail
 refine zq.out.mono ?_;rintro e w1 ⟨rfl,rfl⟩;go_wp2_with fail
 refine HK.out.mono ?_;rintro e w1 ⟨rfl,rfl⟩;go_wp2_with fail
 refine o9.out.mono ?_;rintro e w1 ⟨rfl,rfl⟩;go_wp2_with fail
 exact pz):p:=h
theorem aaH{p:Prop}(h:p:=by
 go_enter func53,ntmps53
 go_wp2_with fail
 refine H1.out.mono ?_;rintro e w1 ⟨rfl,rfl⟩;go_wp2_with fail
 refine H2.out.mono ?_;rintro e w2 ⟨rfl,rfl⟩;go_wp2_with fail
 refine H3.out.mono ?_;rintro e w3 ⟨rfl,rfl⟩;go_wp2_with fail
 exact pz):p:=h
theorem Q0{p:Prop}(h:p:=by
 go_enter func49,ntmps49
 go_wp2_with ((with_reducible refine(ae6 _ _).mono ?_);rintro e w' ⟨rfl,rfl⟩)
 exact pz):p:=h
theorem J5{p:Prop}(h:p:=by
 refine Gp.out.mono ?_;rintro e w1 ⟨rfl,rfl⟩;go_wp2_with fail
 exact QF):p:=h
theorem aaI{p:Prop}(h:p:=by
 rw[<-hsx]at hcall;obtain⟨ah8,Yc⟩:=fw IY hcall;clear IY hcall hsx hP1 hasks hnext hW1 hbx Gc kz XA hst aic hQR hr cb cl Ma cd crv hle HC h5 h4;go_upto_region 9 with fail
 exact ZK):p:=h
theorem aaJ{p:Prop}(h:p:=by
 obtain rfl:k=p:=by omega
 obtain rfl:T=k:=DT
 have gp:¬(T:Int)<(T:Int):=dS
 have gd:decide ((T:Int)<(T:Int))=false:=ic gp;clear H HX HC qj HT hlt HF;go_wp2_with fail
 exact pz):p:=h
theorem aaK{p:Prop}(h:p:=by
 rw[q]at hst hcl;rw[dX rfl]at hst;obtain rfl:T=i+1:=yO
 have Bq:=dY hcl;clear hcl hst hx hK hr HZ2 H HC HB qj HT HN HZ q hm0 hzk hz1 hz2 hz0 gw;go_wp2_with fail
 exact QE):p:=h
theorem aaL{p:Prop}(h:p:=by
 have HK:=dY hK;clear hA hc hcI hP hK;clear hp
 go_enter func87,ntmps87
 go_wp2_with fail
 refine HK.out.mono ?_;rintro e w1 ⟨rfl,rfl⟩;go_wp2_with fail
 exact pz):p:=h
theorem aaM{p:Prop}(h:p:=by
 obtain rfl:k=M:=by omega
 have hT:=HN.out HA.out;have hne:¬((k:Int)<(k:Int)):=dS
 clear HT HG HY HN HL HA hB hlt;subst hT;go_wp2_with fail
 exact uR):p:=h
theorem aaN{p:Prop}(h:p:=by
 go_big_quiet (fail)
 have OU:=dY (Go.below_drewN HZ.out nq);clear d0 d1 d2 t1 t2 m1 m2;generalize World.drewN _ nq=wn at*;go_wp2_with fail
 exact aiM):p:=h
theorem ZN{p:Prop}(h:p:=by
 refine HR2.out.mono ?_;rintro e w2 ⟨rfl,R2',akt,aku⟩;have HD:=dY (vP.out w2 R2' akt aku);clear akt aku HR2 vP;go_wp2_with fail
 exact HD.out):p:=h
theorem Q3{p:Prop}(h:p:=by
 refine(HF.out _).mono ?_;rintro e w2 ⟨rfl,rfl⟩;go_wp2_with fail
 exact Bb):p:=h
theorem Q4{p:Prop}(h:p:=by
 refine(HM.out _).mono ?_;rintro e w3 ⟨rfl,rfl⟩;go_wp2_with fail
 exact uR):p:=h
theorem aaO{p:Prop}(h:p:=by
 subst hqe;have hr:V=-1:=by rw[<-Di.out];exact Rw.abO ts q wD
 subst hr;clear H HP rM Gb Di HN;go_wp2_with fail
 exact QC):p:=h
theorem aaP{p:Prop}(h:p:=by
 have HS:=dY (show zy X.2.2 (y1,z2) (j+1)=C from Qx);clear hov q1 q2 q3;go_wp2_with fail
 exact QH):p:=h
theorem aaQ{p:Prop}(h:p:=by
 have g:((K:Int)==13)=false:=eQ
 clear hr hx hK HT HG HY HN HL HA hB q;go_wp2_with fail
 exact QM):p:=h
theorem aaR{p:Prop}(h:p:=by
 refine yM.out.mono ?_;rintro e w5 ⟨rfl,hq⟩;have HD:=dY hq;clear hq;go_wp2_with fail
 exact sP):p:=h
theorem aaS{p:Prop}(h:p:=by
 obtain rfl:=CG bh hb0;have hR:Sc.lT (Sc.eH s)=2:=by rw[hres,hok];rfl
 exact ZZ):p:=h
theorem Q6{p:Prop}(h:p:=by
 clear hE hs1 hL hl hr h9 hd hdg h3
 exact ZU):p:=h
theorem Eh{p:Prop}(h:p:=by
 clear hA hc hcI hP hK
 go_enter func87,ntmps87
 exact nH):p:=h
theorem aaT{p:Prop}(h:p:=by
 have HP:=dY hP;clear hA hc hcI hP hK;clear ho hp
 go_enter func87,ntmps87
 exact Eg):p:=h
theorem J6{p:Prop}(h:p:=by
 go_enter func80,ntmps80
 exact Eg):p:=h
end Go.Proofs.YtmkkdjpebbdikaaGreatDoor

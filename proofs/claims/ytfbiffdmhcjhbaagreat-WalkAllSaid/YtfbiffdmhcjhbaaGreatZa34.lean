import Derived.Test.YtfbiffdmhcjhbaaGreatZa30
import Derived.Deep.Cut
set_option linter.all false
set_option maxHeartbeats 16000000
set_option maxRecDepth 100000
set_option synthInstance.maxSize 4000
set_option synthInstance.maxHeartbeats 0
namespace Go.Proofs.YtfbiffdmhcjhbaaGreat
open Go.RowKit Tryz
section
open Go.RowKit
open Sq
open Ar
open Fl (Tk raw jh iM cnt back fQ gI)
theorem K7(w0 w:World)(c:Cx)(e:Nat)(p:Ps.PS)(sv:Value)(R:Nat->Prop)(x:Rw.E)(e0:Nat)(B:Ps.Bs)(h:PG w0 w c e p sv R)(hO:Ps.sS c.l B e0 p)(hB:B.1<=x.from')(he:e0<=x.from')(hlt:x.from'<x.au)(hle:x.au<=c.l.length)(hd1:1<=c.depth)(dS:c.depth<=50)(hst:p.st.length<=100000)(hcs:p.st.dropWhile (λo=>decide (x.fo<o.fo))=[])
 (hn:p.s.t.length<=600000000000):
 Calls prog 73 #[RG c.pb,.agg #[.bool x.dash,.int .i64 x.fo,.int .i64 x.from',.int .i64 x.au]] w (iJ w0 w c (.int .i64 (Ps.place c.l c.depth p x).1) (Ps.place c.l c.depth p x).2):=by
 obtain⟨d,hdd,hc,hh⟩:=hO;obtain⟨hc',hh'⟩:=Ps.jT.drop (λo=>decide (x.fo<o.fo)) hc hh;have hls:=h.toks.2.2.2;obtain⟨w1,hw1⟩:=eX (w.alloc (.cells #[.bool x.dash,.int .i64 x.fo,.int .i64 x.from',.int .i64 x.au] 112));have hb1:Below w.heap.size w w1:=hw1▸(fu _ w).alloc (fC _) _;have hX1:EB w1 w.heap.size x:=hw1▸EB.new w _;have hP1:=h.below hb1;have hT1:=TF.below hb1;obtain⟨bx,hbx⟩:=eX (w.heap.size);rw[hbx]at hX1;obtain⟨sa,sc,hsv⟩:=(Reads.fJ (E:=iA) h.mJ).shape;rw[iI]at hsv;obtain⟨SL,aP⟩:=eX (p.st.length);have bN:=eu aP;rw[aP]at hsv hst;obtain⟨Kd,aI⟩:=eX (Ps.kindOf x);obtain⟨Q,hQ⟩:=eX (iJ w0 w c (.int .i64 (Ps.place c.l c.depth p x).1) (Ps.place c.l c.depth p x).2);have HQ:=eu (λW z p' (hz:Ps.place c.l c.depth p x=(z,p'))(h:∃e sv R,PG w0 W c e p' sv R/\TF w W)=>show Q (.returned (.int .i64 (z:Nat))) W from by rw[<-hQ,hz];exact⟨rfl,h⟩);rw[hQ]
 have aC:=eu (λW (hb:Below w1.heap.size w1 W)=>show W.cell? ⟨c.pb,0,none⟩=some (RG c.rb)/\W.cell? ⟨c.pb,3,none⟩=some (.bool p.root)/\W.cell? ⟨c.pb,4,none⟩=some (.slice sa SL sc)/\W.cell? ⟨c.pb,5,none⟩=some (.int .i64 (c.depth:Int))/\W.cell? ⟨bx,1,none⟩=some (.int .i64 x.fo)from
  ⟨(hP1.below hb).cell 0 _ rfl,(hP1.below hb).cell 3 _ rfl,by rw[<-hsv];exact(hP1.below hb).cell 4 _ rfl,(hP1.below hb).cell 5 _ rfl,(hX1.keep (TF.below hb)).c1⟩)
 have dJ:=eu (λW (hb:Below w1.heap.size w1 W) pre o r (hs:p.st=pre++o::r)=>show∃g,sa=some ⟨g,0,none⟩/\r.length<SL/\
  W.cell? ⟨g,r.length*5+1,none⟩=some (.int .i64 o.kind)/\W.cell? ⟨g,r.length*5+2,none⟩=some (.int .i64 o.fo)/\W.cell? ⟨g,r.length*5+4,none⟩=some (.bool o.has)from by
  obtain⟨g,cap,g1,-,-,-,-,g2,g3,-,g4⟩:=(hP1.below hb).nth hs;rw[hsv]at g1;injection g1 with g1
  exact⟨g,g1,by rw[<-aP,hs];simp;omega,g2,g3,g4⟩)
 obtain⟨HP,HX,HT,HW1,bn,HC⟩:=j6 hP1 hX1 hT1 hw1 aI hc';obtain⟨HH,dK,dL,HN,dM⟩:=xZ hh' hdd hsv hn hcs;have bO:=hX1.c0;have k4:=(aC.out w1 (fu _ w1)).2.2.1;clear hcs hQ h hP1 hX1 hT1 hw1 hc' hh' hc hh hdd hsv aP hn hb1
 go_enter func73,ntmps73
 go_upto_region 1 with fail
 rw[HW1.out]
 go_upto_if 11 with(fail)
 go_cut [5] (λv wx=>v=.int .i64 (Kd:Nat)/\w1=wx)
 case first=>
  have e3:x.dash=true->Kd=3:=λhx=>by rw[<-aI];unfold Ps.kindOf;rw[eT hx]
  have e5:x.dash=false->Kd=5:=λhx=>by rw[<-aI];unfold Ps.kindOf;rw[eQ (by rw[hx];decide)]
  obtain⟨H3,H5⟩:=fD e3 e5;clear e3 e5 aI bO;go_wp2_with fail
  all_goals go_meet
  case rel=>exact⟨by rw[H3.out (by assumption)];rfl,rfl⟩
  case rel=>exact⟨by rw[H5.out (by assumption)];rfl,rfl⟩
 case rest=>
  obtain⟨rfl,rfl⟩:=hcut;clear bO aI;go_wp2_with fail
  clear k4
  go_loopw [6] (λkv wr=>∃(k:Int)(pre u:List Ps.Op),kv=.int .i64 k/\k=(u.length:Int)-1/\Hid (p.st=pre++u)/\Hid (∀o∈pre,x.fo<o.fo)/\Hid (Below w1.heap.size w1 wr)) (λkv _=>(intOf kv+1).toNat)
  case atStart=>exact⟨_,[],p.st,rfl,by rw[bN.out],eu rfl,eu (λo ho=>by cases ho),eu (fu _ _)⟩
  case round=>
   obtain⟨k,pre,u,rfl,hk,HS,aQ,HB⟩:=hrel;obtain⟨q0,q3,q4,q5,q1⟩:=aC.out wr HB.out;cases u with
   |nil=>
    obtain rfl:k=-1:=by rw[hk];rfl
    clear hk
    have HU:=eu (show p.st.dropWhile (λo=>decide (x.fo<o.fo))=[]from by
     rw[HS.out,qR (λo ho=>iO (aQ.out o ho))];rfl)
    go_wp2_with fail
    go_big_quiet (fail)
    have HB:=eu (HB.out.trans ((gB (fu _ wr) nq).mono HB.out.size));clear q0 q3 q4 q5 q1;obtain⟨bq,hW⟩:∃W2,wr.drewN nq=W2:=⟨_,rfl⟩
    rw[hW]at HB⊢;clear hW;obtain⟨q0,q3,q4,q5,q1⟩:=aC.out bq HB.out;go_upto_region 8 with fail
    go_big_quiet (fail)
    have HB:=eu (HB.out.trans ((gB (fu _ bq) nq).mono HB.out.size));clear q0 q3 q4 q5 q1;obtain⟨wq2,hW⟩:∃W2,bq.drewN nq=W2:=⟨_,rfl⟩
    rw[hW]at HB⊢;clear hW;obtain⟨q0,q3,q4,q5,q1⟩:=aC.out wq2 HB.out;go_upto_region 10 with fail
    go_big_quiet (fail)
    have HB:=eu (HB.out.trans ((gB (fu _ wq2) nq).mono HB.out.size));clear q0 q3 q4 q5 q1;obtain⟨bz,hW⟩:∃W2,wq2.drewN nq=W2:=⟨_,rfl⟩
    rw[hW]at HB⊢;clear hW;obtain⟨q0,q3,q4,q5,q1⟩:=aC.out bz HB.out;go_upto_region 13 with fail
    go_big_quiet (fail)
    have HB:=eu (HB.out.trans ((gB (fu _ bz) nq).mono HB.out.size));clear q0 q3 q4 q5 q1;obtain⟨bA,hW⟩:∃W2,bz.drewN nq=W2:=⟨_,rfl⟩
    rw[hW]at HB⊢;clear hW;obtain⟨q0,q3,q4,q5,q1⟩:=aC.out bA HB.out;go_upto_region 16 with fail
    go_big_quiet (fail)
    have HB:=eu (HB.out.trans ((gB (fu _ bA) nq).mono HB.out.size));clear q0 q3 q4 q5 q1;obtain⟨aD,hW⟩:∃W2,bA.drewN nq=W2:=⟨_,rfl⟩
    rw[hW]at HB⊢;clear hW;obtain⟨q0,q3,q4,q5,q1⟩:=aC.out aD HB.out;cases hro:p.root with
    |true=>
     rw[hro]at q3;have HD:=eu (HQ.out aD 7 p (by unfold Ps.place;rw[HU.out];show(if p.root=true then _ else _)=_;rw[eT hro]) ⟨_,_,_,HP.out.below HB.out,HT.out.trans (TF.below HB.out)⟩);go_wp2_with fail
     first|exact HD.out|(go_ret;exact HD.out)
    |false=>
     rw[hro]at q3;have dV:¬(1:Int)>(c.depth:Int):=by omega
     go_upto_region 24 with fail
     obtain⟨a',cap',z1,z2,z3,z4⟩:=(HP.out.below HB.out).pfxq (pre:=p.st) (U:=[]) (kH _).symm;rw[dL.out]at z1;injection z1 with z1 ai aj
     subst z1 aj;rw[bN.out]at z2;have bB:=eu (z4.below (eZ aD (.cells #[] 114)));have bP:=eu (kK (e:=114) iA aD);have ax:=eu (eZ aD (.cells #[] 114));have dN:=gX (o:=.cells #[] 114) q4;have dO:([]:List Ps.Op).reverse.length<=100000:=by rw[iI];decide
     have bQ:=eu (show([]:List Ps.Op).length+([]:List Ps.Op).reverse.length<=maxLen by simp only[maxLen,lI];omega);have bR:=eu (show(([]:List Ps.Op).length+([]:List Ps.Op).reverse.length)*40<=140737488355328 by simp only[lI];omega);have hm:([]:List Ps.Op).length=0:=rfl;rw[hm]at bB;have aR:=eu (show([]:List Ps.Op).reverse.length=0 from by rw[iI];exact hm);have bC:=eu (HP.out.below HB.out);have HEq:=eu (HX.out.keep (TF.below HB.out));have bS:=eu (HT.out.trans (TF.below HB.out));have bT:=eu (show w0.heap.size<=aD.heap.size from bC.out.kE.size);clear dO ai z3 z4 hm HB HP HT;go_upto_region 25 with(at_builtin;go_must (refine iw FQ rfl (.tmp 184) (.tmp 191) rfl aD.heap.size _ ([]:List Ps.Op) rfl bP.out _ ([]:List Ps.Op).reverse rfl bB.out bQ.out bR.out ax.out.size ?_;intro kv w2 hown2 hg2 bU;rw[uk]at hown2;obtain⟨ka,kc,bV⟩:=(Reads.fJ (E:=iA) hown2).shape;rw[aR.out]at bV;subst bV;have hP2:=bC.out.below (ax.out.grown hg2 ax.out.size (λq hq=>kZ (jF hq)));have HT2:=eu (bS.out.trans (TF.below (ax.out.grown hg2 ax.out.size (λq hq=>kZ (jF hq)))));have u4:=hP2.cell 4 _ rfl;have f4:=hP2.free 4;have bW:=eu (iK hown2 bT.out);have bX:=eu hP2;have HE2:=eu (HEq.out.keep (TF.below (ax.out.grown hg2 ax.out.size (λq hq=>kZ (jF hq)))));clear hown2 hg2 bU hP2))
     clear bC HEq bS bT bP ax bB bQ bR dN z2;obtain⟨hP3,aS⟩:=bX.out.l6 (p':={p with st:=([]:List Ps.Op)}) (sv':=.slice ka (0) kc) rfl rfl rfl rfl bW.out;obtain⟨w3,hw3⟩:=eX (w2.setCell ⟨c.pb,4,none⟩ (.slice ka (0) kc));rw[hw3]at hP3 aS;obtain⟨HT3,bY,aJ,HW3⟩:=jk (HT2.out.trans aS) (HE2.out.keep aS) hP3 hw3;clear hP3 aS hw3 bX HT2 HE2 bW;rw[HW3.out];clear HW3 u4 f4;have u2:w3.cell? ⟨c.pb,2,none⟩=some (.int .i64 p.doc):=aJ.out.cell 2 _ rfl;have u3:w3.cell? ⟨c.pb,3,none⟩=some (.bool p.root):=aJ.out.cell 3 _ rfl;have f3:=aJ.out.free 3;obtain⟨bD,aT⟩:=aJ.out.toCell (p':={p with st:=([]:List Ps.Op),root:=true}) (i:=3) (u:=.bool true) rfl rfl rfl;obtain⟨w4,hw4⟩:=eX (w3.setCell ⟨c.pb,3,none⟩ (.bool true));rw[hw4]at bD aT;obtain⟨bZ,cr,cz,cB⟩:=jk (HT3.out.trans aT) (bY.out.keep aT) bD hw4;clear bD aT hw4 aJ HT3 bY;go_upto_region 31 with fail
     rw[cB.out];clear cB u2 u3 f3;obtain⟨mu,bE,hok⟩:∃mu:Nat,p.doc=(mu:Int)/\Ps.OK c.l B mu e0 p.s:=by
      have hh:=HH.out;rw[HU.out]at hh;obtain⟨mm,e1,e2⟩:=hh;exact⟨mm,dK.out.trans e1,e2⟩
     have hkd:1<=Kd/\Kd<=10:=by rw[<-bn.out];unfold Ps.kindOf;split<;>omega
     obtain⟨s5,a1,a2,a3,a4⟩:=Ps.uu (kind:=Kd) (f:=x.from') (t:=x.au) hok (by omega) (by omega) hle hkd.1 hkd.2;have hsz:=Fe.iU p.s (mu:Int) Kd x.from' x.au;have hn:=HN.out;obtain⟨NL,aU⟩:=eX (p.s.t.length);rw[aU]at a1 a2 a3 hn hsz;rw[a1]at hsz;dsimp only at hsz
     have HA:=eu (λW R' (hW:GS w0 W c.rb c.tv e c.l p.s R')=>show Calls prog 68 #[RG c.rb,.int .i64 p.doc,.int .i64 Kd,.int .i64 x.from',.int .i64 x.au] W (fU w0 W c.rb c.tv e c.l R' (.int .i64 (NL:Nat)) s5)from by
      have h:=AA w0 W c.rb c.tv e c.l p.s R' mu e0 Kd x.from' x.au e0 hW hok.ck hok.fits hok.lf hok.no (by rw[aU];omega) (by omega) (by omega) hle hkd.1 hkd.2;rw[a1]at h
      rw[bE];exact h)
     obtain⟨HA1,HA2,dW,dX,cK,cO⟩:=j6 a1 a2 a3 a4 hsz aU;have bf:=eu bE;have aa:=eu (cz.out.below (fu _ w4).drew);have ay:=eu (bZ.out.trans (TF.below (fu _ w4).drew));have ag:=eu (cr.out.keep (TF.below (fu _ w4).drew));have r0:w4.drew.cell? ⟨c.pb,0,none⟩=some (RG c.rb):=aa.out.cell 0 _ rfl;have r4:w4.drew.cell? ⟨c.pb,4,none⟩=some (.slice ka 0 kc):=aa.out.cell 4 _ rfl;have r1:=ag.out.c1;have r2:=ag.out.c2;have r3:=ag.out.c3;have dP:=eu (show([]:List Ps.Op).reverse.length+1<=maxLen by rw[aR.out];simp only[maxLen];omega);have dQ:=eu (show(([]:List Ps.Op).reverse.length+1)*40<=140737488355328 by rw[aR.out];omega);clear a1 a2 a3 a4 hsz hn aU bE hok hkd cz bZ cr;refine fB (λwx=>wx.cell? ⟨c.pb,0,none⟩=some (RG c.rb)/\wx.cell? ⟨c.pb,4,none⟩=some (.slice ka 0 kc)/\wx.cell? ⟨bx,1,none⟩=some (.int .i64 x.fo)/\wx.cell? ⟨bx,2,none⟩=some (.int .i64 x.from')/\wx.cell? ⟨bx,3,none⟩=some (.int .i64 x.au)) 24 (by kernel_rfl) ?_;have hH:(λwx:World=>wx.cell? ⟨c.pb,0,none⟩=some (RG c.rb)/\wx.cell? ⟨c.pb,4,none⟩=some (.slice ka 0 kc)/\wx.cell? ⟨bx,1,none⟩=some (.int .i64 x.fo)/\wx.cell? ⟨bx,2,none⟩=some (.int .i64 x.from')/\wx.cell? ⟨bx,3,none⟩=some (.int .i64 x.au)) w4.drew:=⟨r0,r4,r1,r2,r3⟩
     refine fw 0 (RG c.pb) rfl (by kernel_rfl) rfl eY (λW hW=>by go_simp) hH ?_;refine fw 1 (RG c.pb) rfl (by kernel_rfl) rfl eY (λW hW=>by go_simp) hH ?_;refine fw 2 (.pointer (some ⟨c.pb,0,none⟩)) rfl (by kernel_rfl) rfl eY (λW hW=>by go_simp) hH ?_;refine fw 3 (.pointer (some ⟨c.pb,4,none⟩)) rfl (by kernel_rfl) rfl eY (λW hW=>by go_simp) hH ?_;refine fw 4 (.slice ka 0 kc) rfl (by kernel_rfl) rfl eY (λW hW=>?_) hH ?_
     ·obtain⟨z0,z1,z2,z3,z4⟩:=hW;go_simp
     refine fw 5 (RG c.pb) rfl (by kernel_rfl) rfl eY (λW hW=>by go_simp) hH ?_;refine fw 6 (.pointer (some ⟨c.pb,0,none⟩)) rfl (by kernel_rfl) rfl eY (λW hW=>by go_simp) hH ?_;refine fw 7 (.pointer (some ⟨c.pb,0,none⟩)) rfl (by kernel_rfl) rfl eY (λW hW=>by go_simp) hH ?_;refine fw 8 (RG c.rb) rfl (by kernel_rfl) rfl eY (λW hW=>?_) hH ?_
     ·obtain⟨z0,z1,z2,z3,z4⟩:=hW;go_simp
     refine fw 9 (.int .i64 p.doc) rfl (by kernel_rfl) rfl eY (λW hW=>by go_simp) hH ?_;refine fw 10 (.int .i64 (Kd:Int)) rfl (by kernel_rfl) rfl eY (λW hW=>by go_simp) hH ?_;refine fw 11 (.pointer (some ⟨bx,2,none⟩)) rfl (by kernel_rfl) rfl eY (λW hW=>by go_simp) hH ?_;refine fw 12 (.int .i64 (x.from':Int)) rfl (by kernel_rfl) rfl eY (λW hW=>?_) hH ?_
     ·obtain⟨z0,z1,z2,z3,z4⟩:=hW;go_simp
     refine fw 13 (.pointer (some ⟨bx,3,none⟩)) rfl (by kernel_rfl) rfl eY (λW hW=>by go_simp) hH ?_;refine fw 14 (.int .i64 (x.au:Int)) rfl (by kernel_rfl) rfl eY (λW hW=>?_) hH ?_
     ·obtain⟨z0,z1,z2,z3,z4⟩:=hW;go_simp
     refine fw 16 (.int .i64 (Kd:Int)) rfl (by kernel_rfl) rfl eY (λW hW=>by go_simp) hH ?_;refine fw 17 (.pointer (some ⟨bx,1,none⟩)) rfl (by kernel_rfl) rfl eY (λW hW=>by go_simp) hH ?_;refine fw 18 (.int .i64 x.fo) rfl (by kernel_rfl) rfl eY (λW hW=>?_) hH ?_
     ·obtain⟨z0,z1,z2,z3,z4⟩:=hW;go_simp
     refine iD 15 (by kernel_rfl) rfl λK hK=>?_
     go_simp;refine(HA.out w4.drew _ aa.out.gs).mono ?_;rintro e5 w5 ⟨rfl,R5,hS5,cZ⟩;obtain⟨aV,bF⟩:=aa.out.step hS5 cZ;have df:w5.cell? ⟨c.pb,0,none⟩=some (RG c.rb):=aV.cell 0 _ rfl;have dh:w5.cell? ⟨c.pb,4,none⟩=some (.slice ka 0 kc):=aV.cell 4 _ rfl;have e5:=ag.out.keep bF;have d1:=e5.c1;have d2:=e5.c2;have d3:=e5.c3;obtain⟨wx,hwx⟩:=eX (w5.alloc (.cells #[.int .i64 (NL:Int),.int .i64 (Kd:Int),.int .i64 x.fo,.int .i64 0,.bool false] 114));have hbx:Below w5.heap.size w5 wx:=by rw[<-hwx];exact eZ w5 _
     have aG:=aV.below hbx;have x0:wx.cell? ⟨c.pb,0,none⟩=some (RG c.rb):=aG.cell 0 _ rfl;have x4:wx.cell? ⟨c.pb,4,none⟩=some (.slice ka 0 kc):=aG.cell 4 _ rfl;have ex:=e5.keep (TF.below hbx);have x1:=ex.c1;have x2:=ex.c2;have x3:=ex.c3;have di:=eu ((ay.out.trans bF).trans (TF.below hbx));obtain⟨aK,bG,dm⟩:=gW ex aG hwx;have hws:w0.heap.size<=wx.heap.size:=aG.kE.size;have dn:=eu (show wx.ownsRow w0.heap.size 114 iA.k (.slice ka 0 kc) ([]:List Ps.Op).reverse.length (iA.all ([]:List Ps.Op).reverse)from aG.mJ)
     have bg:=eu (show∀jj cc,(iA.all [(⟨(NL:Int),Kd,x.fo,0,false⟩:Ps.Op)])[jj]?=some cc->wx.cell? ⟨w5.heap.size,jj,none⟩=some cc from by
      intro jj cc hj;rw[<-hwx];show(w5.alloc _).cell? ⟨w5.heap.size,jj,none⟩=_;rw[o6]
      simpa [jV.all,iA,nD]using hj)
     clear hS5 cZ aV bF e5 hwx hbx aG ex HA aa ay ag r0 r1 r2 r3 r4;refine hK.out _ _ (λ_=>⟨df,dh,d1,d2,d3⟩) (λhH2=>?_);clear hK K;replace hH:=hH2 (by kernel_rfl);clear hH2;try simp only[Act.put,fF,fH,fG]
     refine fw 19 (.agg #[.int .i64 (NL:Int),.int .i64 (Kd:Int),.int .i64 x.fo,.int .i64 0,.bool false]) rfl (by kernel_rfl) rfl eY (λW hW=>by go_simp) hH ?_;refine iD 20 (by kernel_rfl) rfl λK hK=>?_
     go_simp;rw[dm.out];clear df dh d1 d2 d3;refine hK.out _ _ (λ_=>⟨x0,x4,x1,x2,x3⟩) (λhH2=>?_);clear hK K;replace hH:=hH2 (by kernel_rfl);clear hH2;try simp only[Act.put,fF,fH,fG]
     refine iD 21 (by kernel_rfl) rfl λK hK=>?_
     refine gT FQ rfl (.tmp 224) (.tmp 240) rfl w0.heap.size (.slice ka 0 kc) ([]:List Ps.Op).reverse rfl dn.out w5.heap.size 1 [(⟨(NL:Int),Kd,x.fo,0,false⟩:Ps.Op)] rfl rfl bg.out dP.out dQ.out hws ?_;intro v6 w6 hown6 bH dw;obtain⟨a6,c6,hv6⟩:=(Reads.fJ (E:=iA) hown6).shape;rw[show(([]:List Ps.Op).reverse++[(⟨(NL:Int),Kd,x.fo,0,false⟩:Ps.Op)]).length=(0)+1 from by rw[ig,aR.out];rfl]at hv6;subst hv6;obtain⟨aF,bI,aW⟩:=bG.out.push (p':={s:=s5,doc:=p.doc,root:=true,st:=(⟨(NL:Int),Kd,x.fo,0,false⟩:Ps.Op)::[],read:=p.read}) bH (by rw[show((⟨(NL:Int),Kd,x.fo,0,false⟩:Ps.Op)::([]:List Ps.Op)).reverse=_ from xY];exact hown6) rfl rfl rfl rfl;have v0:w6.cell? ⟨c.pb,0,none⟩=some (RG c.rb):=(gQ aF 0).trans rfl;have v4:w6.cell? ⟨c.pb,4,none⟩=some (.slice ka 0 kc):=(gQ aF 4).trans rfl;have vf:=rW aF 4;have e6:EB w6 bx x:=(bH.block bx (kg aK.out) (λe'=>fK bG.out.mJ aK.out (by decide) e'.symm)).trans aK.out;have t1:=e6.c1;have t2:=e6.c2;have t3:=e6.c3;obtain⟨w7,hw7⟩:=eX (w6.setCell ⟨c.pb,4,none⟩ (.slice a6 ((0)+1) c6));rw[hw7]at bI aW;obtain⟨aX,dx,dA,dB⟩:=jk bI (di.out.trans aW) (aK.out.keep aW) hw7;clear hown6 bH dw aF bI aW e6 hw7 bG di aK dn bg dm x0 x1 x2 x3 x4;refine hK.out _ _ (λ_=>⟨v0,v4,t1,t2,t3⟩) (λhH2=>?_);clear hK K;replace hH:=hH2 (by kernel_rfl);clear hH2;try simp only[Act.put,fF,fH,fG]
     refine fM 22 (.pointer (some ⟨c.pb,0,none⟩)) rfl (by kernel_rfl) rfl eY (λW=>by go_simp) (λ_=>hH) ?_;refine fw 23 (.pointer (some ⟨c.pb,4,none⟩)) rfl (by kernel_rfl) rfl eY (λW hW=>by go_simp) hH ?_;refine iD 24 (by kernel_rfl) rfl λK hK=>?_
     go_simp;refine hK.out _ _ (jg (by kernel_rfl)) (λ_=>?_);clear hK K;try simp only[Act.put,fF,fH,fG]
     rename_i aL;clear aL hH;refine fA (by kernel_rfl) ?_ _;go_upto_region 32 with fail
     rw[dB.out];clear dB v0 v4 vf t1 t2 t3;obtain⟨g9,dU,z1,z2,z3,z4,y0,y1,y2,y3,y4⟩:=aX.out.top (o:=(⟨(NL:Int),Kd,x.fo,0,false⟩:Ps.Op)) (r:=[]) rfl;injection z1 with z1 ai aj
     subst z1 aj;rw[show([]:List Ps.Op).length=0 from rfl]at y0 y1 y2 y3 y4;simp only[vT,j5]at y0 y1 y2 y3 y4;have u4:w7.cell? ⟨c.pb,4,none⟩=some (.slice (some ⟨g9,0,none⟩) ((0)+1) c6):=aX.out.cell 4 _ rfl;have dY:((0:Nat):Int)<(((0)+1:Nat):Int):=by omega
     clear ai z2 z3 z4 y0 y1 y2 y3 y4
     go_big_quiet (fail)
     obtain⟨w8,hw8⟩:=eX (w7.drewN nq);have aY:Below w7.heap.size w7 w8:=hw8▸gB (fu _ w7) nq;rw[hw8];have bJ:=aX.out.below aY;have dC:=eu (dx.out.trans (TF.below aY));have dD:=eu (dA.out.keep (TF.below aY));obtain⟨g',cap',z1,z2,z3,z4,y0,y1,y2,y3,y4⟩:=bJ.top (o:=(⟨(NL:Int),Kd,x.fo,0,false⟩:Ps.Op)) (r:=[]) rfl;injection z1 with z1 ai aj
     injection z1 with z1
     injection z1 with z1
     subst z1;have f4:=z3 (4);obtain⟨aM,aH⟩:=bJ.je (p':={s:=s5,doc:=p.doc,root:=true,st:=(⟨(NL:Int),Kd,x.fo,0,false⟩:Ps.Op)::[],read:=p.read}) (T:=(⟨(NL:Int),Kd,x.fo,0,false⟩:Ps.Op)) (T':=(⟨(NL:Int),Kd,x.fo,0,false⟩:Ps.Op)) (SS:=[]) 4 (.bool false) rfl rfl rfl (by decide) rfl rfl rfl rfl;rw[show([]:List Ps.Op).length=0 from rfl]at y0 y1 y2 y3 y4 aM aH;simp only[vT,j5]at y0 y1 y2 y3 y4 aM aH;obtain⟨w9,bK⟩:=eX (w8.setCell ⟨g9,4,none⟩ (.bool false));rw[bK]at aM aH;obtain⟨dE,dF,bL,dG⟩:=jk aM (dC.out.trans aH) (dD.out.keep aH) bK;clear hw8 aY bJ aM aH bK ai aj z2 z3 z4 dC dD aX dx dA u4;go_upto_region 34 with fail
     rw[dG.out];clear dG y0 y1 y2 y3 y4 f4;have b0:=bL.out.c0;obtain⟨CR,dH⟩:=eX (Ps.cur c.l s5 (NL:Int) x);have aZ:=eu dH;clear dH;go_wp2_with fail
     ·have aN:x.dash=true:=by assumption
      have aa:=eu (dE.out.below (fu _ w9).drew);have ay:=eu (dF.out.trans (TF.below (fu _ w9).drew));have ag:=eu (bL.out.keep (TF.below (fu _ w9).drew));have r0:w9.drew.cell? ⟨c.pb,0,none⟩=some (RG c.rb):=aa.out.cell 0 _ rfl;have r2:=ag.out.c2;have r3:=ag.out.c3;obtain⟨g',cap',z1,-,-,-,rn,-,-,-,-⟩:=aa.out.top (o:=(⟨(NL:Int),Kd,x.fo,0,false⟩:Ps.Op)) (r:=[]) rfl;injection z1 with z1 ai aj
      clear ai aj;injection z1 with z1
      injection z1 with z1
      subst z1;rw[show([]:List Ps.Op).length=0 from rfl]at rn;simp only[vT]at rn;have HA:=eu (show Calls prog 68 #[RG c.rb,.int .i64 NL,.int .i64 4,.int .i64 x.from',.int .i64 x.au] w9.drew (fU w0 w9.drew c.rb c.tv e c.l _ (.int .i64 CR.2) CR.1)from by rw[<-aZ.out];exact yC aa.out.gs HA2.out hlt hle (by have h1:=cK.out.1;have h2:=HN.out;rw[cO.out]at h2;omega) aN);clear aN;refine fB (λwx=>wx.cell? ⟨c.pb,0,none⟩=some (RG c.rb)/\wx.cell? ⟨g9,0,none⟩=some (.int .i64 (NL:Int))/\wx.cell? ⟨bx,2,none⟩=some (.int .i64 x.from')/\wx.cell? ⟨bx,3,none⟩=some (.int .i64 x.au)) 16 (by kernel_rfl) ?_;have hH:(λwx:World=>wx.cell? ⟨c.pb,0,none⟩=some (RG c.rb)/\wx.cell? ⟨g9,0,none⟩=some (.int .i64 (NL:Int))/\wx.cell? ⟨bx,2,none⟩=some (.int .i64 x.from')/\wx.cell? ⟨bx,3,none⟩=some (.int .i64 x.au)) w9.drew:=⟨r0,rn,r2,r3⟩
      refine fw 0 (.pointer (some ⟨g9,0,none⟩)) rfl (by kernel_rfl) rfl eY (λW hW=>by go_simp) hH ?_;refine fw 1 (RG c.pb) rfl (by kernel_rfl) rfl eY (λW hW=>by go_simp) hH ?_;refine fw 2 (.pointer (some ⟨c.pb,0,none⟩)) rfl (by kernel_rfl) rfl eY (λW hW=>by go_simp) hH ?_;refine fw 3 (.pointer (some ⟨c.pb,0,none⟩)) rfl (by kernel_rfl) rfl eY (λW hW=>by go_simp) hH ?_;refine fw 4 (RG c.rb) rfl (by kernel_rfl) rfl eY (λW hW=>?_) hH ?_
      ·obtain⟨z0,z1,z2,z3⟩:=hW;go_simp
      refine fw 5 (.pointer (some ⟨g9,0,none⟩)) rfl (by kernel_rfl) rfl eY (λW hW=>by go_simp) hH ?_;refine fw 6 (.pointer (some ⟨g9,0,none⟩)) rfl (by kernel_rfl) rfl eY (λW hW=>by go_simp) hH ?_;refine fw 7 (.pointer (some ⟨g9,0,none⟩)) rfl (by kernel_rfl) rfl eY (λW hW=>by go_simp) hH ?_;refine fw 8 (.int .i64 (NL:Int)) rfl (by kernel_rfl) rfl eY (λW hW=>?_) hH ?_
      ·obtain⟨z0,z1,z2,z3⟩:=hW;go_simp
      refine fw 9 (.pointer (some ⟨bx,2,none⟩)) rfl (by kernel_rfl) rfl eY (λW hW=>by go_simp) hH ?_;refine fw 10 (.int .i64 (x.from':Int)) rfl (by kernel_rfl) rfl eY (λW hW=>?_) hH ?_
      ·obtain⟨z0,z1,z2,z3⟩:=hW;go_simp
      refine fw 11 (.pointer (some ⟨bx,3,none⟩)) rfl (by kernel_rfl) rfl eY (λW hW=>by go_simp) hH ?_;refine fw 12 (.int .i64 (x.au:Int)) rfl (by kernel_rfl) rfl eY (λW hW=>?_) hH ?_
      ·obtain⟨z0,z1,z2,z3⟩:=hW;go_simp
      refine iD 13 (by kernel_rfl) rfl λK hK=>?_
      go_simp;refine HA.out.mono ?_;rintro e10 aO ⟨rfl,dR,az,aA⟩;obtain⟨ah,ak⟩:=aa.out.step az aA;have c0:aO.cell? ⟨c.pb,0,none⟩=some (RG c.rb):=ah.cell 0 _ rfl;have e10:=ag.out.keep ak;have d2:=e10.c2;have d3:=e10.c3;obtain⟨g',cap',z1,-,z3,-,cn,-,-,y3,-⟩:=ah.top (o:=(⟨(NL:Int),Kd,x.fo,0,false⟩:Ps.Op)) (r:=[]) rfl;injection z1 with z1 ai aj
      clear ai aj;injection z1 with z1
      injection z1 with z1
      subst z1;have f3:=z3 (3);obtain⟨ae,af⟩:=ah.je (p':={s:=CR.1,doc:=p.doc,root:=true,st:=(⟨(NL:Int),Kd,x.fo,CR.2,false⟩:Ps.Op)::[],read:=p.read}) (T:=(⟨(NL:Int),Kd,x.fo,0,false⟩:Ps.Op)) (T':=(⟨(NL:Int),Kd,x.fo,CR.2,false⟩:Ps.Op)) (SS:=[]) 3 (.int .i64 CR.2) rfl rfl rfl (by decide) rfl rfl rfl rfl;rw[show([]:List Ps.Op).length=0 from rfl]at cn y3 ae af;simp only[vT,j5]at cn y3 ae af;obtain⟨bM,av⟩:=eX (aO.setCell ⟨g9,3,none⟩ (.int .i64 CR.2));rw[av]at ae af;have HD:=eu (HQ.out bM 0 _ (by unfold Ps.place;rw[HU.out];show(if p.root=true then _ else Ps.fresh c.l c.depth p p.doc true [] x)=_;rw[eQ (by rw[hro];decide)];unfold Ps.fresh;rw[eQ (by show¬c.depth<0+1;omega),bn.out,bf.out,HA1.out];dsimp only;rw[aZ.out]) ⟨_,_,_,ae,(ay.out.trans ak).trans af⟩);have aB:=eu av;clear az aA ah ak ae af e10 z3 av HA aa ay ag r0 rn r2 r3;refine hK.out _ _ (λ_=>⟨c0,cn,d2,d3⟩) (λhH2=>?_);clear hK K;replace hH:=hH2 (by kernel_rfl);clear hH2;try simp only[Act.put,fF,fH,fG]
      refine fM 14 (.pointer (some ⟨g9,0,none⟩)) rfl (by kernel_rfl) rfl eY (λW=>by go_simp) (λ_=>hH) ?_;refine fw 15 (.pointer (some ⟨g9,3,none⟩)) rfl (by kernel_rfl) rfl eY (λW hW=>by go_simp) hH ?_;refine iD 16 (by kernel_rfl) rfl λK hK=>?_
      go_simp;refine hK.out _ _ (jg (by kernel_rfl)) (λ_=>?_);clear hK K;try simp only[Act.put,fF,fH,fG]
      rename_i aL;clear aL hH;refine fA (by kernel_rfl) ?_ _;go_upto_region 37 with fail
      rw[aB.out];clear aB c0 cn d2 d3 y3 f3;go_wp2_with fail
      first|exact HD.out|(go_ret;exact HD.out)
     have aN:x.dash=false:=by assumption
     have aa:=eu (dE.out.below (fu _ w9).drew);have ay:=eu (dF.out.trans (TF.below (fu _ w9).drew));have ag:=eu (bL.out.keep (TF.below (fu _ w9).drew));have r0:w9.drew.cell? ⟨c.pb,0,none⟩=some (RG c.rb):=aa.out.cell 0 _ rfl;have r2:=ag.out.c2;have r3:=ag.out.c3;obtain⟨g',cap',z1,-,-,-,rn,-,-,-,-⟩:=aa.out.top (o:=(⟨(NL:Int),Kd,x.fo,0,false⟩:Ps.Op)) (r:=[]) rfl;injection z1 with z1 ai aj
     clear ai aj;injection z1 with z1
     injection z1 with z1
     subst z1;rw[show([]:List Ps.Op).length=0 from rfl]at rn;simp only[vT]at rn;have HA:=eu (show Calls prog 87 #[RG c.rb,.int .i64 NL,.int .i64 x.from',.int .i64 x.au] w9.drew (fU w0 w9.drew c.rb c.tv e c.l _ (.int .i64 CR.2) CR.1)from by rw[<-aZ.out];exact yD aa.out.gs HA2.out hlt hle (by have h1:=cK.out.1;have h2:=HN.out;rw[cO.out]at h2;omega) aN);clear aN;refine fB (λwx=>wx.cell? ⟨c.pb,0,none⟩=some (RG c.rb)/\wx.cell? ⟨g9,0,none⟩=some (.int .i64 (NL:Int))/\wx.cell? ⟨bx,2,none⟩=some (.int .i64 x.from')/\wx.cell? ⟨bx,3,none⟩=some (.int .i64 x.au)) 16 (by kernel_rfl) ?_;have hH:(λwx:World=>wx.cell? ⟨c.pb,0,none⟩=some (RG c.rb)/\wx.cell? ⟨g9,0,none⟩=some (.int .i64 (NL:Int))/\wx.cell? ⟨bx,2,none⟩=some (.int .i64 x.from')/\wx.cell? ⟨bx,3,none⟩=some (.int .i64 x.au)) w9.drew:=⟨r0,rn,r2,r3⟩
     refine fw 0 (.pointer (some ⟨g9,0,none⟩)) rfl (by kernel_rfl) rfl eY (λW hW=>by go_simp) hH ?_;refine fw 1 (RG c.pb) rfl (by kernel_rfl) rfl eY (λW hW=>by go_simp) hH ?_;refine fw 2 (.pointer (some ⟨c.pb,0,none⟩)) rfl (by kernel_rfl) rfl eY (λW hW=>by go_simp) hH ?_;refine fw 3 (.pointer (some ⟨c.pb,0,none⟩)) rfl (by kernel_rfl) rfl eY (λW hW=>by go_simp) hH ?_;refine fw 4 (RG c.rb) rfl (by kernel_rfl) rfl eY (λW hW=>?_) hH ?_
     ·obtain⟨z0,z1,z2,z3⟩:=hW;go_simp
     refine fw 5 (.pointer (some ⟨g9,0,none⟩)) rfl (by kernel_rfl) rfl eY (λW hW=>by go_simp) hH ?_;refine fw 6 (.pointer (some ⟨g9,0,none⟩)) rfl (by kernel_rfl) rfl eY (λW hW=>by go_simp) hH ?_;refine fw 7 (.pointer (some ⟨g9,0,none⟩)) rfl (by kernel_rfl) rfl eY (λW hW=>by go_simp) hH ?_;refine fw 8 (.int .i64 (NL:Int)) rfl (by kernel_rfl) rfl eY (λW hW=>?_) hH ?_
     ·obtain⟨z0,z1,z2,z3⟩:=hW;go_simp
     refine fw 9 (.pointer (some ⟨bx,2,none⟩)) rfl (by kernel_rfl) rfl eY (λW hW=>by go_simp) hH ?_;refine fw 10 (.int .i64 (x.from':Int)) rfl (by kernel_rfl) rfl eY (λW hW=>?_) hH ?_
     ·obtain⟨z0,z1,z2,z3⟩:=hW;go_simp
     refine fw 11 (.pointer (some ⟨bx,3,none⟩)) rfl (by kernel_rfl) rfl eY (λW hW=>by go_simp) hH ?_;refine fw 12 (.int .i64 (x.au:Int)) rfl (by kernel_rfl) rfl eY (λW hW=>?_) hH ?_
     ·obtain⟨z0,z1,z2,z3⟩:=hW;go_simp
     refine iD 13 (by kernel_rfl) rfl λK hK=>?_
     go_simp;refine HA.out.mono ?_;rintro e10 aO ⟨rfl,dR,az,aA⟩;obtain⟨ah,ak⟩:=aa.out.step az aA;have c0:aO.cell? ⟨c.pb,0,none⟩=some (RG c.rb):=ah.cell 0 _ rfl;have e10:=ag.out.keep ak;have d2:=e10.c2;have d3:=e10.c3;obtain⟨g',cap',z1,-,z3,-,cn,-,-,y3,-⟩:=ah.top (o:=(⟨(NL:Int),Kd,x.fo,0,false⟩:Ps.Op)) (r:=[]) rfl;injection z1 with z1 ai aj
     clear ai aj;injection z1 with z1
     injection z1 with z1
     subst z1;have f3:=z3 (3);obtain⟨ae,af⟩:=ah.je (p':={s:=CR.1,doc:=p.doc,root:=true,st:=(⟨(NL:Int),Kd,x.fo,CR.2,false⟩:Ps.Op)::[],read:=p.read}) (T:=(⟨(NL:Int),Kd,x.fo,0,false⟩:Ps.Op)) (T':=(⟨(NL:Int),Kd,x.fo,CR.2,false⟩:Ps.Op)) (SS:=[]) 3 (.int .i64 CR.2) rfl rfl rfl (by decide) rfl rfl rfl rfl;rw[show([]:List Ps.Op).length=0 from rfl]at cn y3 ae af;simp only[vT,j5]at cn y3 ae af;obtain⟨bM,av⟩:=eX (aO.setCell ⟨g9,3,none⟩ (.int .i64 CR.2));rw[av]at ae af;have HD:=eu (HQ.out bM 0 _ (by unfold Ps.place;rw[HU.out];show(if p.root=true then _ else Ps.fresh c.l c.depth p p.doc true [] x)=_;rw[eQ (by rw[hro];decide)];unfold Ps.fresh;rw[eQ (by show¬c.depth<0+1;omega),bn.out,bf.out,HA1.out];dsimp only;rw[aZ.out]) ⟨_,_,_,ae,(ay.out.trans ak).trans af⟩);have aB:=eu av;clear az aA ah ak ae af e10 z3 av HA aa ay ag r0 rn r2 r3;refine hK.out _ _ (λ_=>⟨c0,cn,d2,d3⟩) (λhH2=>?_);clear hK K;replace hH:=hH2 (by kernel_rfl);clear hH2;try simp only[Act.put,fF,fH,fG]
     refine fM 14 (.pointer (some ⟨g9,0,none⟩)) rfl (by kernel_rfl) rfl eY (λW=>by go_simp) (λ_=>hH) ?_;refine fw 15 (.pointer (some ⟨g9,3,none⟩)) rfl (by kernel_rfl) rfl eY (λW hW=>by go_simp) hH ?_;refine iD 16 (by kernel_rfl) rfl λK hK=>?_
     go_simp;refine hK.out _ _ (jg (by kernel_rfl)) (λ_=>?_);clear hK K;try simp only[Act.put,fF,fH,fG]
     rename_i aL;clear aL hH;refine fA (by kernel_rfl) ?_ _;go_upto_region 37 with fail
     rw[aB.out];clear aB c0 cn d2 d3 y3 f3;go_wp2_with fail
     first|exact HD.out|(go_ret;exact HD.out)
   |cons o r=>
    obtain rfl:k=(r.length:Int):=by rw[hk,gy];omega
    clear hk;obtain⟨g,rfl,hrl,y1,y2,y4⟩:=dJ.out wr HB.out pre o r HS.out;obtain⟨M,hM⟩:=eX (r.length);have HM:=eu hM;rw[hM]at hrl y1 y2 y4⊢;clear hM;by_cases hcl:x.fo<o.fo
    ·have gg:o.fo>x.fo:=hcl;have gk:(M:Int)<(SL:Int):=by omega
     go_wp2_with fail
     go_big_quiet (fail)
     have HB2:=eu (HB.out.trans ((gB (fu _ wr) nq).mono HB.out.size));have HS2:=eu (show p.st=(pre++[o])++r by rw[HS.out];simp)
     have dI:=eu (show∀y∈pre++[o],x.fo<y.fo from λy hy=>by
      rcases kS.1 hy with h|h
      ·exact aQ.out y h
      obtain rfl:y=o:=by simpa using h
      exact hcl)
     clear q0 q3 q4 q5 q1 y1 y2 y4 gg HB HS aQ hcl;go_wp2_with fail
     go_roundw
     case rel=>exact⟨_,pre++[o],r,by go_num,by rw[HM.out],HS2,dI,HB2⟩
     case measure=>simp[intOf];try omega
    have hu:p.st.dropWhile (λo=>decide (x.fo<o.fo))=o::r:=by
     rw[HS.out,qR (λo ho=>iO (aQ.out o ho)),xS,eQ (by simpa using hcl)]
    rw[dM.out]at hu;cases hu
end
end Go.Proofs.YtfbiffdmhcjhbaaGreat

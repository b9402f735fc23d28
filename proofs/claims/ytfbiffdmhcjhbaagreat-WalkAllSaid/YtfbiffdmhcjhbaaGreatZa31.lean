import Derived.Test.YtfbiffdmhcjhbaaGreatZa30
import Derived.Deep.Cut
set_option linter.all false
set_option maxHeartbeats 16000000
set_option maxRecDepth 100000
set_option synthInstance.maxSize 4000
set_option synthInstance.maxHeartbeats 0
namespace Go.Proofs.YtfbiffdmhcjhbaaGreat
open Go.RowKit Tryz
section
open Go.RowKit
open Sq
open Ar
open Fl (Tk raw jh iM cnt back fQ gI)
theorem K4(w0 w:World)(c:Cx)(e:Nat)(p:Ps.PS)(sv:Value)(R:Nat->Prop)(x:Rw.E)(e0:Nat)(B:Ps.Bs)(h:PG w0 w c e p sv R)(hO:Ps.sS c.l B e0 p)(hB:B.1<=x.from')(he:e0<=x.from')(hlt:x.from'<x.au)(hle:x.au<=c.l.length)(hd1:1<=c.depth)(ed:c.depth<=50)(hst:p.st.length<=100000)(hcs:(p.st.dropWhile (λo=>decide (x.fo<o.fo))≠[])/\(∀o r,p.st.dropWhile (λo=>decide (x.fo<o.fo))=o::r->¬o.fo=x.fo/\r=[]))
 (hn:p.s.t.length<=600000000000):
 Calls prog 73 #[RG c.pb,.agg #[.bool x.dash,.int .i64 x.fo,.int .i64 x.from',.int .i64 x.au]] w (iJ w0 w c (.int .i64 (Ps.place c.l c.depth p x).1) (Ps.place c.l c.depth p x).2):=by
 obtain⟨d,hdd,hc,hh⟩:=hO;obtain⟨hc',hh'⟩:=Ps.jT.drop (λo=>decide (x.fo<o.fo)) hc hh;have hls:=h.toks.2.2.2;obtain⟨w1,hw1⟩:=eX (w.alloc (.cells #[.bool x.dash,.int .i64 x.fo,.int .i64 x.from',.int .i64 x.au] 112));have hb1:Below w.heap.size w w1:=hw1▸(fu _ w).alloc (fC _) _;have hX1:EB w1 w.heap.size x:=hw1▸EB.new w _;have hP1:=h.below hb1;have hT1:=TF.below hb1;obtain⟨bx,hbx⟩:=eX (w.heap.size);rw[hbx]at hX1;obtain⟨sa,sc,hsv⟩:=(Reads.fJ (E:=iA) h.mJ).shape;rw[iI]at hsv;obtain⟨SL,aU⟩:=eX (p.st.length);have bS:=eu aU;rw[aU]at hsv hst;obtain⟨Kd,aM⟩:=eX (Ps.kindOf x);obtain⟨Q,hQ⟩:=eX (iJ w0 w c (.int .i64 (Ps.place c.l c.depth p x).1) (Ps.place c.l c.depth p x).2);have HQ:=eu (λW z p' (hz:Ps.place c.l c.depth p x=(z,p'))(h:∃e sv R,PG w0 W c e p' sv R/\TF w W)=>show Q (.returned (.int .i64 (z:Nat))) W from by rw[<-hQ,hz];exact⟨rfl,h⟩);rw[hQ]
 have aF:=eu (λW (hb:Below w1.heap.size w1 W)=>show W.cell? ⟨c.pb,0,none⟩=some (RG c.rb)/\W.cell? ⟨c.pb,3,none⟩=some (.bool p.root)/\W.cell? ⟨c.pb,4,none⟩=some (.slice sa SL sc)/\W.cell? ⟨c.pb,5,none⟩=some (.int .i64 (c.depth:Int))/\W.cell? ⟨bx,1,none⟩=some (.int .i64 x.fo)from
  ⟨(hP1.below hb).cell 0 _ rfl,(hP1.below hb).cell 3 _ rfl,by rw[<-hsv];exact(hP1.below hb).cell 4 _ rfl,(hP1.below hb).cell 5 _ rfl,(hX1.keep (TF.below hb)).c1⟩)
 have aH:=eu (λW (hb:Below w1.heap.size w1 W) pre o r (hs:p.st=pre++o::r)=>show∃g,sa=some ⟨g,0,none⟩/\r.length<SL/\
  W.cell? ⟨g,r.length*5+1,none⟩=some (.int .i64 o.kind)/\W.cell? ⟨g,r.length*5+2,none⟩=some (.int .i64 o.fo)/\W.cell? ⟨g,r.length*5+4,none⟩=some (.bool o.has)from by
  obtain⟨g,cap,g1,-,-,-,-,g2,g3,-,g4⟩:=(hP1.below hb).nth hs;rw[hsv]at g1;injection g1 with g1
  exact⟨g,g1,by rw[<-aU,hs];simp;omega,g2,g3,g4⟩)
 obtain⟨HP,HX,HT,HW1,bF,HC⟩:=j6 hP1 hX1 hT1 hw1 aM hc';obtain⟨HH,eB,dR,HN,dS,dU⟩:=j6 hh' hdd hsv hn hcs.1 hcs.2;have bT:=hX1.c0;have k4:=(aF.out w1 (fu _ w1)).2.2.1;clear hcs hQ h hP1 hX1 hT1 hw1 hc' hh' hc hh hdd hsv aU hn hb1
 go_enter func73,ntmps73
 go_upto_region 1 with fail
 rw[HW1.out]
 go_upto_if 11 with(fail)
 go_cut [5] (λv wx=>v=.int .i64 (Kd:Nat)/\w1=wx)
 case first=>
  have e3:x.dash=true->Kd=3:=λhx=>by rw[<-aM];unfold Ps.kindOf;rw[eT hx]
  have e5:x.dash=false->Kd=5:=λhx=>by rw[<-aM];unfold Ps.kindOf;rw[eQ (by rw[hx];decide)]
  obtain⟨H3,H5⟩:=fD e3 e5;clear e3 e5 aM bT;go_wp2_with fail
  all_goals go_meet
  case rel=>exact⟨by rw[H3.out (by assumption)];rfl,rfl⟩
  case rel=>exact⟨by rw[H5.out (by assumption)];rfl,rfl⟩
 case rest=>
  obtain⟨rfl,rfl⟩:=hcut;clear bT aM;go_wp2_with fail
  clear k4
  go_loopw [6] (λkv wr=>∃(k:Int)(pre u:List Ps.Op),kv=.int .i64 k/\k=(u.length:Int)-1/\Hid (p.st=pre++u)/\Hid (∀o∈pre,x.fo<o.fo)/\Hid (Below w1.heap.size w1 wr)) (λkv _=>(intOf kv+1).toNat)
  case atStart=>exact⟨_,[],p.st,rfl,by rw[bS.out],eu rfl,eu (λo ho=>by cases ho),eu (fu _ _)⟩
  case round=>
   obtain⟨k,pre,u,rfl,hk,HS,aV,HB⟩:=hrel;obtain⟨q0,q3,q4,q5,q1⟩:=aF.out wr HB.out;cases u with
   |nil=>
    obtain rfl:k=-1:=by rw[hk];rfl
    clear hk
    have HU:=eu (show p.st.dropWhile (λo=>decide (x.fo<o.fo))=[]from by
     rw[HS.out,qR (λo ho=>iO (aV.out o ho))];rfl)
    exact absurd HU.out dS.out
   |cons o r=>
    obtain rfl:k=(r.length:Int):=by rw[hk,gy];omega
    clear hk;obtain⟨g,rfl,hrl,y1,y2,y4⟩:=aH.out wr HB.out pre o r HS.out;obtain⟨M,hM⟩:=eX (r.length);have HM:=eu hM;rw[hM]at hrl y1 y2 y4⊢;clear hM;by_cases hcl:x.fo<o.fo
    ·have gg:o.fo>x.fo:=hcl;have gk:(M:Int)<(SL:Int):=by omega
     go_wp2_with fail
     go_big_quiet (fail)
     have HB2:=eu (HB.out.trans ((gB (fu _ wr) nq).mono HB.out.size));have HS2:=eu (show p.st=(pre++[o])++r by rw[HS.out];simp)
     have bU:=eu (show∀y∈pre++[o],x.fo<y.fo from λy hy=>by
      rcases kS.1 hy with h|h
      ·exact aV.out y h
      obtain rfl:y=o:=by simpa using h
      exact hcl)
     clear q0 q3 q4 q5 q1 y1 y2 y4 gg HB HS aV hcl;go_wp2_with fail
     go_roundw
     case rel=>exact⟨_,pre++[o],r,by go_num,by rw[HM.out],HS2,bU,HB2⟩
     case measure=>simp[intOf];try omega
    have HU:=eu (show p.st.dropWhile (λo=>decide (x.fo<o.fo))=o::r from by
     rw[HS.out,qR (λo ho=>iO (aV.out o ho)),xS,eQ (by simpa using hcl)])
    have gg:decide (o.fo>x.fo)=false:=iF hcl;have gk:(M:Int)<(SL:Int):=by omega
    go_wp2_with fail
    go_big_quiet (fail)
    have HB:=eu (HB.out.trans ((gB (fu _ wr) nq).mono HB.out.size));clear q0 q3 q4 q5 q1 y1 y2 y4;obtain⟨aW,hW⟩:∃W2,wr.drewN nq=W2:=⟨_,rfl⟩
    rw[hW]at HB⊢;clear hW;obtain⟨q0,q3,q4,q5,q1⟩:=aF.out aW HB.out;obtain⟨g',hg',-,y1,y2,y4⟩:=aH.out aW HB.out pre o _ HS.out;obtain rfl:g=g':=by injection hg' with hg';injection hg'
    clear hg';rw[HM.out]at y1 y2 y4;clear gg;have hcs:=dU.out o r HU.out;obtain⟨bG,hcs2⟩:=hcs;have gc:(o.fo==x.fo)=false:=by simp[bG]
    have aX:=eu bG;clear bG hcl;go_upto_region 8 with fail
    go_big_quiet (fail)
    have HB:=eu (HB.out.trans ((gB (fu _ aW) nq).mono HB.out.size));clear q0 q3 q4 q5 q1 y1 y2 y4;obtain⟨wq2,hW⟩:∃W2,aW.drewN nq=W2:=⟨_,rfl⟩
    rw[hW]at HB⊢;clear hW;obtain⟨q0,q3,q4,q5,q1⟩:=aF.out wq2 HB.out;obtain⟨g',hg',-,y1,y2,y4⟩:=aH.out wq2 HB.out pre o _ HS.out;obtain rfl:g=g':=by injection hg' with hg';injection hg'
    clear hg';rw[HM.out]at y1 y2 y4;go_upto_region 10 with fail
    go_big_quiet (fail)
    have HB:=eu (HB.out.trans ((gB (fu _ wq2) nq).mono HB.out.size));clear q0 q3 q4 q5 q1 y1 y2 y4;obtain⟨aY,hW⟩:∃W2,wq2.drewN nq=W2:=⟨_,rfl⟩
    rw[hW]at HB⊢;clear hW;obtain⟨q0,q3,q4,q5,q1⟩:=aF.out aY HB.out;obtain⟨g',hg',-,y1,y2,y4⟩:=aH.out aY HB.out pre o _ HS.out;obtain rfl:g=g':=by injection hg' with hg';injection hg'
    clear hg';rw[HM.out]at y1 y2 y4;obtain rfl:M=0:=by rw[<-HM.out,hcs2];rfl
    clear hcs2;go_upto_region 13 with fail
    go_big_quiet (fail)
    have HB:=eu (HB.out.trans ((gB (fu _ aY) nq).mono HB.out.size));clear q0 q3 q4 q5 q1 y1 y2 y4;obtain⟨aZ,hW⟩:∃W2,aY.drewN nq=W2:=⟨_,rfl⟩
    rw[hW]at HB⊢;clear hW;obtain⟨q0,q3,q4,q5,q1⟩:=aF.out aZ HB.out;obtain⟨g',hg',-,y1,y2,y4⟩:=aH.out aZ HB.out pre o _ HS.out;obtain rfl:g=g':=by injection hg' with hg';injection hg'
    clear hg';rw[HM.out]at y1 y2 y4;go_upto_region 16 with fail
    go_big_quiet (fail)
    have HB:=eu (HB.out.trans ((gB (fu _ aZ) nq).mono HB.out.size));clear q0 q3 q4 q5 q1 y1 y2 y4;obtain⟨ay,hW⟩:∃W2,aZ.drewN nq=W2:=⟨_,rfl⟩
    rw[hW]at HB⊢;clear hW;obtain⟨q0,q3,q4,q5,q1⟩:=aF.out ay HB.out;obtain⟨g',hg',-,y1,y2,y4⟩:=aH.out ay HB.out pre o _ HS.out;obtain rfl:g=g':=by injection hg' with hg';injection hg'
    clear hg';rw[HM.out]at y1 y2 y4;cases aI:o.has with
    |true=>
     rw[aI]at y4;have HD:=eu (HQ.out ay 6 p (by unfold Ps.place;rw[HU.out];show(if o.fo=x.fo then _ else _)=_;rw[eQ aX.out];rw[eT aI]) ⟨_,_,_,HP.out.below HB.out,HT.out.trans (TF.below HB.out)⟩);go_wp2_with fail
     first|exact HD.out|(go_ret;exact HD.out)
    |false=>
     rw[aI]at y4;by_cases hdp:c.depth<2
     ·have bV:(2:Int)>(c.depth:Int):=by omega
      have HD:=eu (HQ.out ay 10 p (by unfold Ps.place;rw[HU.out];show(if o.fo=x.fo then _ else _)=_;rw[eQ aX.out];rw[eQ (by rw[aI];decide)];unfold Ps.fresh;rw[eT (by rw[gy,HM.out];omega)]) ⟨_,_,_,HP.out.below HB.out,HT.out.trans (TF.below HB.out)⟩);go_wp2_with fail
      first|exact HD.out|(go_ret;exact HD.out)
     have bV:¬(2:Int)>(c.depth:Int):=by omega
     go_upto_region 24 with fail
     obtain⟨a',cap',z1,z2,z3,z4⟩:=(HP.out.below HB.out).pfxq (pre:=pre) (U:=o::r) HS.out;rw[dR.out]at z1;injection z1 with z1 ag ah
     subst z1 ah;rw[bS.out]at z2;have bH:=eu (z4.below (eZ ay (.cells #[] 114)));have bW:=eu (kK (e:=114) iA ay);have az:=eu (eZ ay (.cells #[] 114));have dV:=gX (o:=.cells #[] 114) q4;have dW:(o::r:List Ps.Op).reverse.length<=100000:=by rw[iI];rw[gy,HM.out];omega
     have bX:=eu (show([]:List Ps.Op).length+(o::r:List Ps.Op).reverse.length<=maxLen by simp only[maxLen,lI];omega);have bY:=eu (show(([]:List Ps.Op).length+(o::r:List Ps.Op).reverse.length)*40<=140737488355328 by simp only[lI];omega);have hm:(o::r:List Ps.Op).length=1:=by rw[gy,HM.out]
     rw[hm]at bH;have ak:=eu (show(o::r:List Ps.Op).reverse.length=1 from by rw[iI];exact hm);have bI:=eu (HP.out.below HB.out);have HEq:=eu (HX.out.keep (TF.below HB.out));have bZ:=eu (HT.out.trans (TF.below HB.out));have cr:=eu (show w0.heap.size<=ay.heap.size from bI.out.kE.size);clear dW ag z3 z4 hm HB HP HT;go_upto_region 25 with(at_builtin;go_must (refine iw FQ rfl (.tmp 184) (.tmp 191) rfl ay.heap.size _ ([]:List Ps.Op) rfl bW.out _ (o::r:List Ps.Op).reverse rfl bH.out bX.out bY.out az.out.size ?_;intro kv w2 hown2 hg2 cz;rw[uk]at hown2;obtain⟨ka,kc,cB⟩:=(Reads.fJ (E:=iA) hown2).shape;rw[ak.out]at cB;subst cB;have hP2:=bI.out.below (az.out.grown hg2 az.out.size (λq hq=>kZ (jF hq)));have HT2:=eu (bZ.out.trans (TF.below (az.out.grown hg2 az.out.size (λq hq=>kZ (jF hq)))));have u4:=hP2.cell 4 _ rfl;have f4:=hP2.free 4;have cK:=eu (iK hown2 cr.out);have cO:=eu hP2;have HE2:=eu (HEq.out.keep (TF.below (az.out.grown hg2 az.out.size (λq hq=>kZ (jF hq)))));clear hown2 hg2 cz hP2))
     clear bI HEq bZ cr bW az bH bX bY dV z2;obtain⟨hP3,bf⟩:=cO.out.l6 (p':={p with st:=(o::r:List Ps.Op)}) (sv':=.slice ka (1) kc) rfl rfl rfl rfl cK.out;obtain⟨w3,hw3⟩:=eX (w2.setCell ⟨c.pb,4,none⟩ (.slice ka (1) kc));rw[hw3]at hP3 bf;obtain⟨HT3,cZ,aN,HW3⟩:=jk (HT2.out.trans bf) (HE2.out.keep bf) hP3 hw3;clear hP3 bf hw3 cO HT2 HE2 cK;rw[HW3.out];clear HW3 u4 f4;obtain⟨bg,df⟩:=fD aI hdp;clear aI hdp bV gc q0 q3 q4 q5 q1 y1 y2 y4;obtain⟨g9,dh,z1,z2,z3,z4,y0,y1,y2,y3,y4⟩:=aN.out.top (o:=o) (r:=r) rfl;injection z1 with z1 ag ah
     subst z1 ah;rw[HM.out]at y0 y1 y2 y3 y4;simp only[vT,j5]at y0 y1 y2 y3 y4;have u2:w3.cell? ⟨c.pb,2,none⟩=some (.int .i64 p.doc):=aN.out.cell 2 _ rfl;have u4:w3.cell? ⟨c.pb,4,none⟩=some (.slice (some ⟨g9,0,none⟩) (1) kc):=aN.out.cell 4 _ rfl;rw[bg.out]at y4;have f4:=z3 (4);clear ag z2 z3 z4 y0 y1 y2;obtain⟨aO,aJ⟩:=aN.out.je (p':={p with st:=(({o with has:=true}::r):List Ps.Op)}) (T:=o) (T':={o with has:=true}) (SS:=r) 4 (.bool true) rfl rfl rfl (by decide) rfl rfl rfl rfl;rw[HM.out]at aO aJ;simp only[vT,j5]at aO aJ;obtain⟨w4,hw4⟩:=eX (w3.setCell ⟨g9,4,none⟩ (.bool true));rw[hw4]at aO aJ;obtain⟨di,dm,dn,dw⟩:=jk (HT3.out.trans aJ) (cZ.out.keep aJ) aO hw4;clear aO aJ hw4 aN HT3 cZ;have ak:=eu (show(({o with has:=true}::r):List Ps.Op).reverse.length=1 from by rw[iI,gy,HM.out]);go_upto_region 31 with fail
     rw[dw.out];clear dw u2 u4 y3 y4 f4;obtain⟨mu,bJ,hok⟩:∃mu:Nat,o.cur=(mu:Int)/\Ps.OK c.l B mu e0 p.s:=by
      have hh:=HH.out;rw[HU.out]at hh;exact hh.2 bg.out
     have hkd:1<=Kd/\Kd<=10:=by rw[<-bF.out];unfold Ps.kindOf;split<;>omega
     obtain⟨s5,a1,a2,a3,a4⟩:=Ps.uu (kind:=Kd) (f:=x.from') (t:=x.au) hok (by omega) (by omega) hle hkd.1 hkd.2;have hsz:=Fe.iU p.s (mu:Int) Kd x.from' x.au;have hn:=HN.out;obtain⟨NL,bn⟩:=eX (p.s.t.length);rw[bn]at a1 a2 a3 hn hsz;rw[a1]at hsz;dsimp only at hsz
     have HA:=eu (λW R' (hW:GS w0 W c.rb c.tv e c.l p.s R')=>show Calls prog 68 #[RG c.rb,.int .i64 o.cur,.int .i64 Kd,.int .i64 x.from',.int .i64 x.au] W (fU w0 W c.rb c.tv e c.l R' (.int .i64 (NL:Nat)) s5)from by
      have h:=AA w0 W c.rb c.tv e c.l p.s R' mu e0 Kd x.from' x.au e0 hW hok.ck hok.fits hok.lf hok.no (by rw[bn];omega) (by omega) (by omega) hle hkd.1 hkd.2;rw[a1]at h
      rw[bJ];exact h)
     obtain⟨HA1,HA2,eD,eF,dx,dA⟩:=j6 a1 a2 a3 a4 hsz bn;have bD:=eu bJ;have aa:=eu (dn.out.below (fu _ w4).drew);have aA:=eu (di.out.trans (TF.below (fu _ w4).drew));have ai:=eu (dm.out.keep (TF.below (fu _ w4).drew));have r0:w4.drew.cell? ⟨c.pb,0,none⟩=some (RG c.rb):=aa.out.cell 0 _ rfl;have r4:w4.drew.cell? ⟨c.pb,4,none⟩=some (.slice (some ⟨g9,0,none⟩) (1) kc):=aa.out.cell 4 _ rfl;have r1:=ai.out.c1;have r2:=ai.out.c2;have r3:=ai.out.c3;have dX:=eu (show(({o with has:=true}::r):List Ps.Op).reverse.length+1<=maxLen by rw[ak.out];simp only[maxLen];omega);have dY:=eu (show((({o with has:=true}::r):List Ps.Op).reverse.length+1)*40<=140737488355328 by rw[ak.out];omega);clear a1 a2 a3 a4 hsz hn bn bJ hok hkd dn di dm;refine fB (λwx=>wx.cell? ⟨c.pb,0,none⟩=some (RG c.rb)/\wx.cell? ⟨c.pb,4,none⟩=some (.slice (some ⟨g9,0,none⟩) (1) kc)/\wx.cell? ⟨bx,1,none⟩=some (.int .i64 x.fo)/\wx.cell? ⟨bx,2,none⟩=some (.int .i64 x.from')/\wx.cell? ⟨bx,3,none⟩=some (.int .i64 x.au)) 24 (by kernel_rfl) ?_;have hH:(λwx:World=>wx.cell? ⟨c.pb,0,none⟩=some (RG c.rb)/\wx.cell? ⟨c.pb,4,none⟩=some (.slice (some ⟨g9,0,none⟩) (1) kc)/\wx.cell? ⟨bx,1,none⟩=some (.int .i64 x.fo)/\wx.cell? ⟨bx,2,none⟩=some (.int .i64 x.from')/\wx.cell? ⟨bx,3,none⟩=some (.int .i64 x.au)) w4.drew:=⟨r0,r4,r1,r2,r3⟩
     refine fw 0 (RG c.pb) rfl (by kernel_rfl) rfl eY (λW hW=>by go_simp) hH ?_;refine fw 1 (RG c.pb) rfl (by kernel_rfl) rfl eY (λW hW=>by go_simp) hH ?_;refine fw 2 (.pointer (some ⟨c.pb,0,none⟩)) rfl (by kernel_rfl) rfl eY (λW hW=>by go_simp) hH ?_;refine fw 3 (.pointer (some ⟨c.pb,4,none⟩)) rfl (by kernel_rfl) rfl eY (λW hW=>by go_simp) hH ?_;refine fw 4 (.slice (some ⟨g9,0,none⟩) (1) kc) rfl (by kernel_rfl) rfl eY (λW hW=>?_) hH ?_
     ·obtain⟨z0,z1,z2,z3,z4⟩:=hW;go_simp
     refine fw 5 (RG c.pb) rfl (by kernel_rfl) rfl eY (λW hW=>by go_simp) hH ?_;refine fw 6 (.pointer (some ⟨c.pb,0,none⟩)) rfl (by kernel_rfl) rfl eY (λW hW=>by go_simp) hH ?_;refine fw 7 (.pointer (some ⟨c.pb,0,none⟩)) rfl (by kernel_rfl) rfl eY (λW hW=>by go_simp) hH ?_;refine fw 8 (RG c.rb) rfl (by kernel_rfl) rfl eY (λW hW=>?_) hH ?_
     ·obtain⟨z0,z1,z2,z3,z4⟩:=hW;go_simp
     refine fw 9 (.int .i64 o.cur) rfl (by kernel_rfl) rfl eY (λW hW=>by go_simp) hH ?_;refine fw 10 (.int .i64 (Kd:Int)) rfl (by kernel_rfl) rfl eY (λW hW=>by go_simp) hH ?_;refine fw 11 (.pointer (some ⟨bx,2,none⟩)) rfl (by kernel_rfl) rfl eY (λW hW=>by go_simp) hH ?_;refine fw 12 (.int .i64 (x.from':Int)) rfl (by kernel_rfl) rfl eY (λW hW=>?_) hH ?_
     ·obtain⟨z0,z1,z2,z3,z4⟩:=hW;go_simp
     refine fw 13 (.pointer (some ⟨bx,3,none⟩)) rfl (by kernel_rfl) rfl eY (λW hW=>by go_simp) hH ?_;refine fw 14 (.int .i64 (x.au:Int)) rfl (by kernel_rfl) rfl eY (λW hW=>?_) hH ?_
     ·obtain⟨z0,z1,z2,z3,z4⟩:=hW;go_simp
     refine fw 16 (.int .i64 (Kd:Int)) rfl (by kernel_rfl) rfl eY (λW hW=>by go_simp) hH ?_;refine fw 17 (.pointer (some ⟨bx,1,none⟩)) rfl (by kernel_rfl) rfl eY (λW hW=>by go_simp) hH ?_;refine fw 18 (.int .i64 x.fo) rfl (by kernel_rfl) rfl eY (λW hW=>?_) hH ?_
     ·obtain⟨z0,z1,z2,z3,z4⟩:=hW;go_simp
     refine iD 15 (by kernel_rfl) rfl λK hK=>?_
     go_simp;refine(HA.out w4.drew _ aa.out.gs).mono ?_;rintro e5 w5 ⟨rfl,R5,hS5,dB⟩;obtain⟨bq,bK⟩:=aa.out.step hS5 dB;have dC:w5.cell? ⟨c.pb,0,none⟩=some (RG c.rb):=bq.cell 0 _ rfl;have dD:w5.cell? ⟨c.pb,4,none⟩=some (.slice (some ⟨g9,0,none⟩) (1) kc):=bq.cell 4 _ rfl;have e5:=ai.out.keep bK;have d1:=e5.c1;have d2:=e5.c2;have d3:=e5.c3;obtain⟨wx,hwx⟩:=eX (w5.alloc (.cells #[.int .i64 (NL:Int),.int .i64 (Kd:Int),.int .i64 x.fo,.int .i64 0,.bool false] 114));have hbx:Below w5.heap.size w5 wx:=by rw[<-hwx];exact eZ w5 _
     have aK:=bq.below hbx;have x0:wx.cell? ⟨c.pb,0,none⟩=some (RG c.rb):=aK.cell 0 _ rfl;have x4:wx.cell? ⟨c.pb,4,none⟩=some (.slice (some ⟨g9,0,none⟩) (1) kc):=aK.cell 4 _ rfl;have ex:=e5.keep (TF.below hbx);have x1:=ex.c1;have x2:=ex.c2;have x3:=ex.c3;have dE:=eu ((aA.out.trans bK).trans (TF.below hbx));obtain⟨aP,bL,dF⟩:=gW ex aK hwx;have hws:w0.heap.size<=wx.heap.size:=aK.kE.size;have dG:=eu (show wx.ownsRow w0.heap.size 114 iA.k (.slice (some ⟨g9,0,none⟩) (1) kc) (({o with has:=true}::r):List Ps.Op).reverse.length (iA.all (({o with has:=true}::r):List Ps.Op).reverse)from aK.mJ)
     have bE:=eu (show∀jj cc,(iA.all [(⟨(NL:Int),Kd,x.fo,0,false⟩:Ps.Op)])[jj]?=some cc->wx.cell? ⟨w5.heap.size,jj,none⟩=some cc from by
      intro jj cc hj;rw[<-hwx];show(w5.alloc _).cell? ⟨w5.heap.size,jj,none⟩=_;rw[o6]
      simpa [jV.all,iA,nD]using hj)
     clear hS5 dB bq bK e5 hwx hbx aK ex HA aa aA ai r0 r1 r2 r3 r4;refine hK.out _ _ (λ_=>⟨dC,dD,d1,d2,d3⟩) (λhH2=>?_);clear hK K;replace hH:=hH2 (by kernel_rfl);clear hH2;try simp only[Act.put,fF,fH,fG]
     refine fw 19 (.agg #[.int .i64 (NL:Int),.int .i64 (Kd:Int),.int .i64 x.fo,.int .i64 0,.bool false]) rfl (by kernel_rfl) rfl eY (λW hW=>by go_simp) hH ?_;refine iD 20 (by kernel_rfl) rfl λK hK=>?_
     go_simp;rw[dF.out];clear dC dD d1 d2 d3;refine hK.out _ _ (λ_=>⟨x0,x4,x1,x2,x3⟩) (λhH2=>?_);clear hK K;replace hH:=hH2 (by kernel_rfl);clear hH2;try simp only[Act.put,fF,fH,fG]
     refine iD 21 (by kernel_rfl) rfl λK hK=>?_
     refine gT FQ rfl (.tmp 224) (.tmp 240) rfl w0.heap.size (.slice (some ⟨g9,0,none⟩) (1) kc) (({o with has:=true}::r):List Ps.Op).reverse rfl dG.out w5.heap.size 1 [(⟨(NL:Int),Kd,x.fo,0,false⟩:Ps.Op)] rfl rfl bE.out dX.out dY.out hws ?_;intro v6 w6 hown6 bM dH;obtain⟨a6,c6,hv6⟩:=(Reads.fJ (E:=iA) hown6).shape;rw[show((({o with has:=true}::r):List Ps.Op).reverse++[(⟨(NL:Int),Kd,x.fo,0,false⟩:Ps.Op)]).length=(1)+1 from by rw[ig,ak.out];rfl]at hv6;subst hv6;obtain⟨aG,bN,bz⟩:=bL.out.push (p':={s:=s5,doc:=p.doc,root:=p.root,st:=(⟨(NL:Int),Kd,x.fo,0,false⟩:Ps.Op)::({o with has:=true}::r),read:=p.read}) bM (by rw[show((⟨(NL:Int),Kd,x.fo,0,false⟩:Ps.Op)::(({o with has:=true}::r):List Ps.Op)).reverse=_ from xY];exact hown6) rfl rfl rfl rfl;have v0:w6.cell? ⟨c.pb,0,none⟩=some (RG c.rb):=(gQ aG 0).trans rfl;have v4:w6.cell? ⟨c.pb,4,none⟩=some (.slice (some ⟨g9,0,none⟩) (1) kc):=(gQ aG 4).trans rfl;have vf:=rW aG 4;have e6:EB w6 bx x:=(bM.block bx (kg aP.out) (λe'=>fK bL.out.mJ aP.out (by decide) e'.symm)).trans aP.out;have t1:=e6.c1;have t2:=e6.c2;have t3:=e6.c3;obtain⟨w7,hw7⟩:=eX (w6.setCell ⟨c.pb,4,none⟩ (.slice a6 ((1)+1) c6));rw[hw7]at bN bz;obtain⟨bA,dI,dJ,dK⟩:=jk bN (dE.out.trans bz) (aP.out.keep bz) hw7;clear hown6 bM dH aG bN bz e6 hw7 bL dE aP dG bE dF x0 x1 x2 x3 x4;refine hK.out _ _ (λ_=>⟨v0,v4,t1,t2,t3⟩) (λhH2=>?_);clear hK K;replace hH:=hH2 (by kernel_rfl);clear hH2;try simp only[Act.put,fF,fH,fG]
     refine fM 22 (.pointer (some ⟨c.pb,0,none⟩)) rfl (by kernel_rfl) rfl eY (λW=>by go_simp) (λ_=>hH) ?_;refine fw 23 (.pointer (some ⟨c.pb,4,none⟩)) rfl (by kernel_rfl) rfl eY (λW hW=>by go_simp) hH ?_;refine iD 24 (by kernel_rfl) rfl λK hK=>?_
     go_simp;refine hK.out _ _ (jg (by kernel_rfl)) (λ_=>?_);clear hK K;try simp only[Act.put,fF,fH,fG]
     rename_i aQ;clear aQ hH;refine fA (by kernel_rfl) ?_ _;go_upto_region 32 with fail
     rw[dK.out];clear dK v0 v4 vf t1 t2 t3;obtain⟨g9,dh,z1,z2,z3,z4,y0,y1,y2,y3,y4⟩:=bA.out.top (o:=(⟨(NL:Int),Kd,x.fo,0,false⟩:Ps.Op)) (r:=({o with has:=true}::r)) rfl;injection z1 with z1 ag ah
     subst z1 ah;rw[show(({o with has:=true}::r):List Ps.Op).length=1 from by rw[<-iI];exact ak.out]at y0 y1 y2 y3 y4;simp only[Nat.reduceMul,Nat.reduceAdd]at y0 y1 y2 y3 y4;have u4:w7.cell? ⟨c.pb,4,none⟩=some (.slice (some ⟨g9,0,none⟩) ((1)+1) c6):=bA.out.cell 4 _ rfl;have eG:((1:Nat):Int)<(((1)+1:Nat):Int):=by omega
     clear ag z2 z3 z4 y0 y1 y2 y3 y4
     go_big_quiet (fail)
     obtain⟨w8,hw8⟩:=eX (w7.drewN nq);have bB:Below w7.heap.size w7 w8:=hw8▸gB (fu _ w7) nq;rw[hw8];have bO:=bA.out.below bB;have dL:=eu (dI.out.trans (TF.below bB));have dM:=eu (dJ.out.keep (TF.below bB));obtain⟨g',cap',z1,z2,z3,z4,y0,y1,y2,y3,y4⟩:=bO.top (o:=(⟨(NL:Int),Kd,x.fo,0,false⟩:Ps.Op)) (r:=({o with has:=true}::r)) rfl;injection z1 with z1 ag ah
     injection z1 with z1
     injection z1 with z1
     subst z1;have f4:=z3 (9);obtain⟨aR,aL⟩:=bO.je (p':={s:=s5,doc:=p.doc,root:=p.root,st:=(⟨(NL:Int),Kd,x.fo,0,false⟩:Ps.Op)::({o with has:=true}::r),read:=p.read}) (T:=(⟨(NL:Int),Kd,x.fo,0,false⟩:Ps.Op)) (T':=(⟨(NL:Int),Kd,x.fo,0,false⟩:Ps.Op)) (SS:=({o with has:=true}::r)) 4 (.bool false) rfl rfl rfl (by decide) rfl rfl rfl rfl;rw[show(({o with has:=true}::r):List Ps.Op).length=1 from by rw[<-iI];exact ak.out]at y0 y1 y2 y3 y4 aR aL;simp only[Nat.reduceMul,Nat.reduceAdd]at y0 y1 y2 y3 y4 aR aL;obtain⟨w9,bP⟩:=eX (w8.setCell ⟨g9,9,none⟩ (.bool false));rw[bP]at aR aL;obtain⟨dN,dO,bQ,dP⟩:=jk aR (dL.out.trans aL) (dM.out.keep aL) bP;clear hw8 bB bO aR aL bP ag ah z2 z3 z4 dL dM bA dI dJ u4;go_upto_region 34 with fail
     rw[dP.out];clear dP y0 y1 y2 y3 y4 f4;have b0:=bQ.out.c0;obtain⟨CR,dQ⟩:=eX (Ps.cur c.l s5 (NL:Int) x);have bC:=eu dQ;clear dQ;go_wp2_with fail
     ·have aS:x.dash=true:=by assumption
      have aa:=eu (dN.out.below (fu _ w9).drew);have aA:=eu (dO.out.trans (TF.below (fu _ w9).drew));have ai:=eu (bQ.out.keep (TF.below (fu _ w9).drew));have r0:w9.drew.cell? ⟨c.pb,0,none⟩=some (RG c.rb):=aa.out.cell 0 _ rfl;have r2:=ai.out.c2;have r3:=ai.out.c3;obtain⟨g',cap',z1,-,-,-,rn,-,-,-,-⟩:=aa.out.top (o:=(⟨(NL:Int),Kd,x.fo,0,false⟩:Ps.Op)) (r:=({o with has:=true}::r)) rfl;injection z1 with z1 ag ah
      clear ag ah;injection z1 with z1
      injection z1 with z1
      subst z1;rw[show(({o with has:=true}::r):List Ps.Op).length=1 from by rw[<-iI];exact ak.out]at rn;simp only[Nat.reduceMul]at rn;have HA:=eu (show Calls prog 68 #[RG c.rb,.int .i64 NL,.int .i64 4,.int .i64 x.from',.int .i64 x.au] w9.drew (fU w0 w9.drew c.rb c.tv e c.l _ (.int .i64 CR.2) CR.1)from by rw[<-bC.out];exact yC aa.out.gs HA2.out hlt hle (by have h1:=dx.out.1;have h2:=HN.out;rw[dA.out]at h2;omega) aS);clear aS;refine fB (λwx=>wx.cell? ⟨c.pb,0,none⟩=some (RG c.rb)/\wx.cell? ⟨g9,5,none⟩=some (.int .i64 (NL:Int))/\wx.cell? ⟨bx,2,none⟩=some (.int .i64 x.from')/\wx.cell? ⟨bx,3,none⟩=some (.int .i64 x.au)) 16 (by kernel_rfl) ?_;have hH:(λwx:World=>wx.cell? ⟨c.pb,0,none⟩=some (RG c.rb)/\wx.cell? ⟨g9,5,none⟩=some (.int .i64 (NL:Int))/\wx.cell? ⟨bx,2,none⟩=some (.int .i64 x.from')/\wx.cell? ⟨bx,3,none⟩=some (.int .i64 x.au)) w9.drew:=⟨r0,rn,r2,r3⟩
      refine fw 0 (.pointer (some ⟨g9,5,none⟩)) rfl (by kernel_rfl) rfl eY (λW hW=>by go_simp) hH ?_;refine fw 1 (RG c.pb) rfl (by kernel_rfl) rfl eY (λW hW=>by go_simp) hH ?_;refine fw 2 (.pointer (some ⟨c.pb,0,none⟩)) rfl (by kernel_rfl) rfl eY (λW hW=>by go_simp) hH ?_;refine fw 3 (.pointer (some ⟨c.pb,0,none⟩)) rfl (by kernel_rfl) rfl eY (λW hW=>by go_simp) hH ?_;refine fw 4 (RG c.rb) rfl (by kernel_rfl) rfl eY (λW hW=>?_) hH ?_
      ·obtain⟨z0,z1,z2,z3⟩:=hW;go_simp
      refine fw 5 (.pointer (some ⟨g9,5,none⟩)) rfl (by kernel_rfl) rfl eY (λW hW=>by go_simp) hH ?_;refine fw 6 (.pointer (some ⟨g9,5,none⟩)) rfl (by kernel_rfl) rfl eY (λW hW=>by go_simp) hH ?_;refine fw 7 (.pointer (some ⟨g9,5,none⟩)) rfl (by kernel_rfl) rfl eY (λW hW=>by go_simp) hH ?_;refine fw 8 (.int .i64 (NL:Int)) rfl (by kernel_rfl) rfl eY (λW hW=>?_) hH ?_
      ·obtain⟨z0,z1,z2,z3⟩:=hW;go_simp
      refine fw 9 (.pointer (some ⟨bx,2,none⟩)) rfl (by kernel_rfl) rfl eY (λW hW=>by go_simp) hH ?_;refine fw 10 (.int .i64 (x.from':Int)) rfl (by kernel_rfl) rfl eY (λW hW=>?_) hH ?_
      ·obtain⟨z0,z1,z2,z3⟩:=hW;go_simp
      refine fw 11 (.pointer (some ⟨bx,3,none⟩)) rfl (by kernel_rfl) rfl eY (λW hW=>by go_simp) hH ?_;refine fw 12 (.int .i64 (x.au:Int)) rfl (by kernel_rfl) rfl eY (λW hW=>?_) hH ?_
      ·obtain⟨z0,z1,z2,z3⟩:=hW;go_simp
      refine iD 13 (by kernel_rfl) rfl λK hK=>?_
      go_simp;refine HA.out.mono ?_;rintro e10 aT ⟨rfl,dZ,aB,aC⟩;obtain⟨aj,av⟩:=aa.out.step aB aC;have c0:aT.cell? ⟨c.pb,0,none⟩=some (RG c.rb):=aj.cell 0 _ rfl;have e10:=ai.out.keep av;have d2:=e10.c2;have d3:=e10.c3;obtain⟨g',cap',z1,-,z3,-,cn,-,-,y3,-⟩:=aj.top (o:=(⟨(NL:Int),Kd,x.fo,0,false⟩:Ps.Op)) (r:=({o with has:=true}::r)) rfl;injection z1 with z1 ag ah
      clear ag ah;injection z1 with z1
      injection z1 with z1
      subst z1;have f3:=z3 (8);obtain⟨ae,af⟩:=aj.je (p':={s:=CR.1,doc:=p.doc,root:=p.root,st:=(⟨(NL:Int),Kd,x.fo,CR.2,false⟩:Ps.Op)::({o with has:=true}::r),read:=p.read}) (T:=(⟨(NL:Int),Kd,x.fo,0,false⟩:Ps.Op)) (T':=(⟨(NL:Int),Kd,x.fo,CR.2,false⟩:Ps.Op)) (SS:=({o with has:=true}::r)) 3 (.int .i64 CR.2) rfl rfl rfl (by decide) rfl rfl rfl rfl;rw[show(({o with has:=true}::r):List Ps.Op).length=1 from by rw[<-iI];exact ak.out]at cn y3 ae af;simp only[Nat.reduceMul,Nat.reduceAdd]at cn y3 ae af;obtain⟨bR,ax⟩:=eX (aT.setCell ⟨g9,8,none⟩ (.int .i64 CR.2));rw[ax]at ae af;have HD:=eu (HQ.out bR 0 _ (by unfold Ps.place;rw[HU.out];show(if o.fo=x.fo then _ else _)=_;rw[eQ aX.out,eQ (by rw[bg.out];decide)];unfold Ps.fresh;rw[eQ (by have h9:=df.out;rw[gy,HM.out];omega),bF.out,bD.out,HA1.out];dsimp only;rw[bC.out]) ⟨_,_,_,ae,(aA.out.trans av).trans af⟩);have aD:=eu ax;clear aB aC aj av ae af e10 z3 ax HA aa aA ai r0 rn r2 r3;refine hK.out _ _ (λ_=>⟨c0,cn,d2,d3⟩) (λhH2=>?_);clear hK K;replace hH:=hH2 (by kernel_rfl);clear hH2;try simp only[Act.put,fF,fH,fG]
      refine fM 14 (.pointer (some ⟨g9,5,none⟩)) rfl (by kernel_rfl) rfl eY (λW=>by go_simp) (λ_=>hH) ?_;refine fw 15 (.pointer (some ⟨g9,8,none⟩)) rfl (by kernel_rfl) rfl eY (λW hW=>by go_simp) hH ?_;refine iD 16 (by kernel_rfl) rfl λK hK=>?_
      go_simp;refine hK.out _ _ (jg (by kernel_rfl)) (λ_=>?_);clear hK K;try simp only[Act.put,fF,fH,fG]
      rename_i aQ;clear aQ hH;refine fA (by kernel_rfl) ?_ _;go_upto_region 37 with fail
      rw[aD.out];clear aD c0 cn d2 d3 y3 f3;go_wp2_with fail
      first|exact HD.out|(go_ret;exact HD.out)
     have aS:x.dash=false:=by assumption
     have aa:=eu (dN.out.below (fu _ w9).drew);have aA:=eu (dO.out.trans (TF.below (fu _ w9).drew));have ai:=eu (bQ.out.keep (TF.below (fu _ w9).drew));have r0:w9.drew.cell? ⟨c.pb,0,none⟩=some (RG c.rb):=aa.out.cell 0 _ rfl;have r2:=ai.out.c2;have r3:=ai.out.c3;obtain⟨g',cap',z1,-,-,-,rn,-,-,-,-⟩:=aa.out.top (o:=(⟨(NL:Int),Kd,x.fo,0,false⟩:Ps.Op)) (r:=({o with has:=true}::r)) rfl;injection z1 with z1 ag ah
     clear ag ah;injection z1 with z1
     injection z1 with z1
     subst z1;rw[show(({o with has:=true}::r):List Ps.Op).length=1 from by rw[<-iI];exact ak.out]at rn;simp only[Nat.reduceMul]at rn;have HA:=eu (show Calls prog 87 #[RG c.rb,.int .i64 NL,.int .i64 x.from',.int .i64 x.au] w9.drew (fU w0 w9.drew c.rb c.tv e c.l _ (.int .i64 CR.2) CR.1)from by rw[<-bC.out];exact yD aa.out.gs HA2.out hlt hle (by have h1:=dx.out.1;have h2:=HN.out;rw[dA.out]at h2;omega) aS);clear aS;refine fB (λwx=>wx.cell? ⟨c.pb,0,none⟩=some (RG c.rb)/\wx.cell? ⟨g9,5,none⟩=some (.int .i64 (NL:Int))/\wx.cell? ⟨bx,2,none⟩=some (.int .i64 x.from')/\wx.cell? ⟨bx,3,none⟩=some (.int .i64 x.au)) 16 (by kernel_rfl) ?_;have hH:(λwx:World=>wx.cell? ⟨c.pb,0,none⟩=some (RG c.rb)/\wx.cell? ⟨g9,5,none⟩=some (.int .i64 (NL:Int))/\wx.cell? ⟨bx,2,none⟩=some (.int .i64 x.from')/\wx.cell? ⟨bx,3,none⟩=some (.int .i64 x.au)) w9.drew:=⟨r0,rn,r2,r3⟩
     refine fw 0 (.pointer (some ⟨g9,5,none⟩)) rfl (by kernel_rfl) rfl eY (λW hW=>by go_simp) hH ?_;refine fw 1 (RG c.pb) rfl (by kernel_rfl) rfl eY (λW hW=>by go_simp) hH ?_;refine fw 2 (.pointer (some ⟨c.pb,0,none⟩)) rfl (by kernel_rfl) rfl eY (λW hW=>by go_simp) hH ?_;refine fw 3 (.pointer (some ⟨c.pb,0,none⟩)) rfl (by kernel_rfl) rfl eY (λW hW=>by go_simp) hH ?_;refine fw 4 (RG c.rb) rfl (by kernel_rfl) rfl eY (λW hW=>?_) hH ?_
     ·obtain⟨z0,z1,z2,z3⟩:=hW;go_simp
     refine fw 5 (.pointer (some ⟨g9,5,none⟩)) rfl (by kernel_rfl) rfl eY (λW hW=>by go_simp) hH ?_;refine fw 6 (.pointer (some ⟨g9,5,none⟩)) rfl (by kernel_rfl) rfl eY (λW hW=>by go_simp) hH ?_;refine fw 7 (.pointer (some ⟨g9,5,none⟩)) rfl (by kernel_rfl) rfl eY (λW hW=>by go_simp) hH ?_;refine fw 8 (.int .i64 (NL:Int)) rfl (by kernel_rfl) rfl eY (λW hW=>?_) hH ?_
     ·obtain⟨z0,z1,z2,z3⟩:=hW;go_simp
     refine fw 9 (.pointer (some ⟨bx,2,none⟩)) rfl (by kernel_rfl) rfl eY (λW hW=>by go_simp) hH ?_;refine fw 10 (.int .i64 (x.from':Int)) rfl (by kernel_rfl) rfl eY (λW hW=>?_) hH ?_
     ·obtain⟨z0,z1,z2,z3⟩:=hW;go_simp
     refine fw 11 (.pointer (some ⟨bx,3,none⟩)) rfl (by kernel_rfl) rfl eY (λW hW=>by go_simp) hH ?_;refine fw 12 (.int .i64 (x.au:Int)) rfl (by kernel_rfl) rfl eY (λW hW=>?_) hH ?_
     ·obtain⟨z0,z1,z2,z3⟩:=hW;go_simp
     refine iD 13 (by kernel_rfl) rfl λK hK=>?_
     go_simp;refine HA.out.mono ?_;rintro e10 aT ⟨rfl,dZ,aB,aC⟩;obtain⟨aj,av⟩:=aa.out.step aB aC;have c0:aT.cell? ⟨c.pb,0,none⟩=some (RG c.rb):=aj.cell 0 _ rfl;have e10:=ai.out.keep av;have d2:=e10.c2;have d3:=e10.c3;obtain⟨g',cap',z1,-,z3,-,cn,-,-,y3,-⟩:=aj.top (o:=(⟨(NL:Int),Kd,x.fo,0,false⟩:Ps.Op)) (r:=({o with has:=true}::r)) rfl;injection z1 with z1 ag ah
     clear ag ah;injection z1 with z1
     injection z1 with z1
     subst z1;have f3:=z3 (8);obtain⟨ae,af⟩:=aj.je (p':={s:=CR.1,doc:=p.doc,root:=p.root,st:=(⟨(NL:Int),Kd,x.fo,CR.2,false⟩:Ps.Op)::({o with has:=true}::r),read:=p.read}) (T:=(⟨(NL:Int),Kd,x.fo,0,false⟩:Ps.Op)) (T':=(⟨(NL:Int),Kd,x.fo,CR.2,false⟩:Ps.Op)) (SS:=({o with has:=true}::r)) 3 (.int .i64 CR.2) rfl rfl rfl (by decide) rfl rfl rfl rfl;rw[show(({o with has:=true}::r):List Ps.Op).length=1 from by rw[<-iI];exact ak.out]at cn y3 ae af;simp only[Nat.reduceMul,Nat.reduceAdd]at cn y3 ae af;obtain⟨bR,ax⟩:=eX (aT.setCell ⟨g9,8,none⟩ (.int .i64 CR.2));rw[ax]at ae af;have HD:=eu (HQ.out bR 0 _ (by unfold Ps.place;rw[HU.out];show(if o.fo=x.fo then _ else _)=_;rw[eQ aX.out,eQ (by rw[bg.out];decide)];unfold Ps.fresh;rw[eQ (by have h9:=df.out;rw[gy,HM.out];omega),bF.out,bD.out,HA1.out];dsimp only;rw[bC.out]) ⟨_,_,_,ae,(aA.out.trans av).trans af⟩);have aD:=eu ax;clear aB aC aj av ae af e10 z3 ax HA aa aA ai r0 rn r2 r3;refine hK.out _ _ (λ_=>⟨c0,cn,d2,d3⟩) (λhH2=>?_);clear hK K;replace hH:=hH2 (by kernel_rfl);clear hH2;try simp only[Act.put,fF,fH,fG]
     refine fM 14 (.pointer (some ⟨g9,5,none⟩)) rfl (by kernel_rfl) rfl eY (λW=>by go_simp) (λ_=>hH) ?_;refine fw 15 (.pointer (some ⟨g9,8,none⟩)) rfl (by kernel_rfl) rfl eY (λW hW=>by go_simp) hH ?_;refine iD 16 (by kernel_rfl) rfl λK hK=>?_
     go_simp;refine hK.out _ _ (jg (by kernel_rfl)) (λ_=>?_);clear hK K;try simp only[Act.put,fF,fH,fG]
     rename_i aQ;clear aQ hH;refine fA (by kernel_rfl) ?_ _;go_upto_region 37 with fail
     rw[aD.out];clear aD c0 cn d2 d3 y3 f3;go_wp2_with fail
     first|exact HD.out|(go_ret;exact HD.out)
end
end Go.Proofs.YtfbiffdmhcjhbaaGreat

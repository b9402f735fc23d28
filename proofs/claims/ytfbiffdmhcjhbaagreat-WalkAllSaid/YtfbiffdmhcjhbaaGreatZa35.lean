import Derived.Test.YtfbiffdmhcjhbaaGreatZa30
import Derived.Deep.Cut
set_option linter.all false
set_option maxHeartbeats 16000000
set_option maxRecDepth 100000
set_option synthInstance.maxSize 4000
set_option synthInstance.maxHeartbeats 0
namespace Go.Proofs.YtfbiffdmhcjhbaaGreat
open Go.RowKit Tryz
section
open Go.RowKit
open Sq
open Ar
open Fl (Tk raw jh iM cnt back fQ gI)
theorem K8(w0 w:World)(c:Cx)(e:Nat)(p:Ps.PS)(sv:Value)(R:Nat->Prop)(x:Rw.E)(e0:Nat)(B:Ps.Bs)(h:PG w0 w c e p sv R)(hO:Ps.sS c.l B e0 p)(hB:B.1<=x.from')(he:e0<=x.from')(hlt:x.from'<x.au)(hle:x.au<=c.l.length)(hd1:1<=c.depth)(dG:c.depth<=50)(hst:p.st.length<=100000)(hcs:(p.st.dropWhile (λo=>decide (x.fo<o.fo))≠[])/\(∀o r,p.st.dropWhile (λo=>decide (x.fo<o.fo))=o::r->o.fo=x.fo/\¬o.kind=Ps.kindOf x/\¬Ps.kindOf x=3))
 (hn:p.s.t.length<=600000000000):
 Calls prog 73 #[RG c.pb,.agg #[.bool x.dash,.int .i64 x.fo,.int .i64 x.from',.int .i64 x.au]] w (iJ w0 w c (.int .i64 (Ps.place c.l c.depth p x).1) (Ps.place c.l c.depth p x).2):=by
 obtain⟨d,hdd,hc,hh⟩:=hO;obtain⟨hc',hh'⟩:=Ps.jT.drop (λo=>decide (x.fo<o.fo)) hc hh;have hls:=h.toks.2.2.2;obtain⟨w1,hw1⟩:=eX (w.alloc (.cells #[.bool x.dash,.int .i64 x.fo,.int .i64 x.from',.int .i64 x.au] 112));have hb1:Below w.heap.size w w1:=hw1▸(fu _ w).alloc (fC _) _;have hX1:EB w1 w.heap.size x:=hw1▸EB.new w _;have hP1:=h.below hb1;have hT1:=TF.below hb1;obtain⟨bx,hbx⟩:=eX (w.heap.size);rw[hbx]at hX1;obtain⟨sa,sc,hsv⟩:=(Reads.fJ (E:=iA) h.mJ).shape;rw[iI]at hsv;obtain⟨SL,aU⟩:=eX (p.st.length);have bM:=eu aU;rw[aU]at hsv hst;obtain⟨Kd,aK⟩:=eX (Ps.kindOf x);obtain⟨Q,hQ⟩:=eX (iJ w0 w c (.int .i64 (Ps.place c.l c.depth p x).1) (Ps.place c.l c.depth p x).2);have HQ:=eu (λW z p' (hz:Ps.place c.l c.depth p x=(z,p'))(h:∃e sv R,PG w0 W c e p' sv R/\TF w W)=>show Q (.returned (.int .i64 (z:Nat))) W from by rw[<-hQ,hz];exact⟨rfl,h⟩);rw[hQ]
 have ak:=eu (λW (hb:Below w1.heap.size w1 W)=>show W.cell? ⟨c.pb,0,none⟩=some (RG c.rb)/\W.cell? ⟨c.pb,3,none⟩=some (.bool p.root)/\W.cell? ⟨c.pb,4,none⟩=some (.slice sa SL sc)/\W.cell? ⟨c.pb,5,none⟩=some (.int .i64 (c.depth:Int))/\W.cell? ⟨bx,1,none⟩=some (.int .i64 x.fo)from
  ⟨(hP1.below hb).cell 0 _ rfl,(hP1.below hb).cell 3 _ rfl,by rw[<-hsv];exact(hP1.below hb).cell 4 _ rfl,(hP1.below hb).cell 5 _ rfl,(hX1.keep (TF.below hb)).c1⟩)
 have aa:=eu (λW (hb:Below w1.heap.size w1 W) pre o r (hs:p.st=pre++o::r)=>show∃g,sa=some ⟨g,0,none⟩/\r.length<SL/\
  W.cell? ⟨g,r.length*5+1,none⟩=some (.int .i64 o.kind)/\W.cell? ⟨g,r.length*5+2,none⟩=some (.int .i64 o.fo)/\W.cell? ⟨g,r.length*5+4,none⟩=some (.bool o.has)from by
  obtain⟨g,cap,g1,-,-,-,-,g2,g3,-,g4⟩:=(hP1.below hb).nth hs;rw[hsv]at g1;injection g1 with g1
  exact⟨g,g1,by rw[<-aU,hs];simp;omega,g2,g3,g4⟩)
 obtain⟨HP,HX,HT,HW1,av,HC⟩:=j6 hP1 hX1 hT1 hw1 aK hc';obtain⟨HH,dI,dn,HN,dw,dx⟩:=j6 hh' hdd hsv hn hcs.1 hcs.2;have bN:=hX1.c0;have k4:=(ak.out w1 (fu _ w1)).2.2.1;clear hcs hQ h hP1 hX1 hT1 hw1 hc' hh' hc hh hdd hsv aU hn hb1
 go_enter func73,ntmps73
 go_upto_region 1 with fail
 rw[HW1.out]
 go_upto_if 11 with(fail)
 go_cut [5] (λv wx=>v=.int .i64 (Kd:Nat)/\w1=wx)
 case first=>
  have e3:x.dash=true->Kd=3:=λhx=>by rw[<-aK];unfold Ps.kindOf;rw[eT hx]
  have e5:x.dash=false->Kd=5:=λhx=>by rw[<-aK];unfold Ps.kindOf;rw[eQ (by rw[hx];decide)]
  obtain⟨H3,H5⟩:=fD e3 e5;clear e3 e5 aK bN;go_wp2_with fail
  all_goals go_meet
  case rel=>exact⟨by rw[H3.out (by assumption)];rfl,rfl⟩
  case rel=>exact⟨by rw[H5.out (by assumption)];rfl,rfl⟩
 case rest=>
  obtain⟨rfl,rfl⟩:=hcut;clear bN aK;go_wp2_with fail
  clear k4
  go_loopw [6] (λkv wr=>∃(k:Int)(pre u:List Ps.Op),kv=.int .i64 k/\k=(u.length:Int)-1/\Hid (p.st=pre++u)/\Hid (∀o∈pre,x.fo<o.fo)/\Hid (Below w1.heap.size w1 wr)) (λkv _=>(intOf kv+1).toNat)
  case atStart=>exact⟨_,[],p.st,rfl,by rw[bM.out],eu rfl,eu (λo ho=>by cases ho),eu (fu _ _)⟩
  case round=>
   obtain⟨k,pre,u,rfl,hk,HS,aV,HB⟩:=hrel;obtain⟨q0,q3,q4,q5,q1⟩:=ak.out wr HB.out;cases u with
   |nil=>
    obtain rfl:k=-1:=by rw[hk];rfl
    clear hk
    have HU:=eu (show p.st.dropWhile (λo=>decide (x.fo<o.fo))=[]from by
     rw[HS.out,qR (λo ho=>iO (aV.out o ho))];rfl)
    exact absurd HU.out dw.out
   |cons o r=>
    obtain rfl:k=(r.length:Int):=by rw[hk,gy];omega
    clear hk;obtain⟨g,rfl,hrl,y1,y2,y4⟩:=aa.out wr HB.out pre o r HS.out;obtain⟨M,hM⟩:=eX (r.length);have HM:=eu hM;rw[hM]at hrl y1 y2 y4⊢;clear hM;by_cases hcl:x.fo<o.fo
    ·have gg:o.fo>x.fo:=hcl;have gk:(M:Int)<(SL:Int):=by omega
     go_wp2_with fail
     go_big_quiet (fail)
     have HB2:=eu (HB.out.trans ((gB (fu _ wr) nq).mono HB.out.size));have HS2:=eu (show p.st=(pre++[o])++r by rw[HS.out];simp)
     have bO:=eu (show∀y∈pre++[o],x.fo<y.fo from λy hy=>by
      rcases kS.1 hy with h|h
      ·exact aV.out y h
      obtain rfl:y=o:=by simpa using h
      exact hcl)
     clear q0 q3 q4 q5 q1 y1 y2 y4 gg HB HS aV hcl;go_wp2_with fail
     go_roundw
     case rel=>exact⟨_,pre++[o],r,by go_num,by rw[HM.out],HS2,bO,HB2⟩
     case measure=>simp[intOf];try omega
    have HU:=eu (show p.st.dropWhile (λo=>decide (x.fo<o.fo))=o::r from by
     rw[HS.out,qR (λo ho=>iO (aV.out o ho)),xS,eQ (by simpa using hcl)])
    have gg:decide (o.fo>x.fo)=false:=iF hcl;have gk:(M:Int)<(SL:Int):=by omega
    go_wp2_with fail
    go_big_quiet (fail)
    have HB:=eu (HB.out.trans ((gB (fu _ wr) nq).mono HB.out.size));clear q0 q3 q4 q5 q1 y1 y2 y4;obtain⟨aW,hW⟩:∃W2,wr.drewN nq=W2:=⟨_,rfl⟩
    rw[hW]at HB⊢;clear hW;obtain⟨q0,q3,q4,q5,q1⟩:=ak.out aW HB.out;obtain⟨g',hg',-,y1,y2,y4⟩:=aa.out aW HB.out pre o _ HS.out;obtain rfl:g=g':=by injection hg' with hg';injection hg'
    clear hg';rw[HM.out]at y1 y2 y4;clear gg;have hcs:=dx.out o r HU.out;obtain⟨bD,hcs⟩:=hcs;have gc:(o.fo==x.fo)=true:=by simp[bD]
    have aL:=eu bD;clear bD hcl;have bP:¬o.kind=Kd:=by rw[<-av.out];exact hcs.1
    have hk3:=hcs.2;rw[av.out]at hk3;clear hcs;have dA:((o.kind:Int)==(Kd:Int))=false:=by simp;omega
    have aM:=eu bP;clear bP;have g3:((Kd:Int)==3)=false:=by simp;omega
    have aN:=eu hk3;clear hk3;go_upto_region 8 with fail
    go_big_quiet (fail)
    have HB:=eu (HB.out.trans ((gB (fu _ aW) nq).mono HB.out.size));clear q0 q3 q4 q5 q1 y1 y2 y4;obtain⟨wq2,hW⟩:∃W2,aW.drewN nq=W2:=⟨_,rfl⟩
    rw[hW]at HB⊢;clear hW;obtain⟨q0,q3,q4,q5,q1⟩:=ak.out wq2 HB.out;obtain⟨g',hg',-,y1,y2,y4⟩:=aa.out wq2 HB.out pre o _ HS.out;obtain rfl:g=g':=by injection hg' with hg';injection hg'
    clear hg';rw[HM.out]at y1 y2 y4;go_upto_region 10 with fail
    go_big_quiet (fail)
    have HB:=eu (HB.out.trans ((gB (fu _ wq2) nq).mono HB.out.size));clear q0 q3 q4 q5 q1 y1 y2 y4;obtain⟨ax,hW⟩:∃W2,wq2.drewN nq=W2:=⟨_,rfl⟩
    rw[hW]at HB⊢;clear hW;obtain⟨q0,q3,q4,q5,q1⟩:=ak.out ax HB.out;obtain⟨g',hg',-,y1,y2,y4⟩:=aa.out ax HB.out pre o _ HS.out;obtain rfl:g=g':=by injection hg' with hg';injection hg'
    clear hg';rw[HM.out]at y1 y2 y4;cases r with
    |nil=>
     obtain rfl:M=0:=HM.out.symm;go_upto_region 13 with fail
     go_big_quiet (fail)
     have HB:=eu (HB.out.trans ((gB (fu _ ax) nq).mono HB.out.size));clear q0 q3 q4 q5 q1 y1 y2 y4;obtain⟨aX,hW⟩:∃W2,ax.drewN nq=W2:=⟨_,rfl⟩
     rw[hW]at HB⊢;clear hW;obtain⟨q0,q3,q4,q5,q1⟩:=ak.out aX HB.out;obtain⟨g',hg',-,y1,y2,y4⟩:=aa.out aX HB.out pre o _ HS.out;obtain rfl:g=g':=by injection hg' with hg';injection hg'
     clear hg';rw[HM.out]at y1 y2 y4;go_upto_region 16 with fail
     go_big_quiet (fail)
     have HB:=eu (HB.out.trans ((gB (fu _ aX) nq).mono HB.out.size));clear q0 q3 q4 q5 q1 y1 y2 y4;obtain⟨bE,hW⟩:∃W2,aX.drewN nq=W2:=⟨_,rfl⟩
     rw[hW]at HB⊢;clear hW;obtain⟨q0,q3,q4,q5,q1⟩:=ak.out bE HB.out;obtain⟨g',hg',-,y1,y2,y4⟩:=aa.out bE HB.out pre o _ HS.out;obtain rfl:g=g':=by injection hg' with hg';injection hg'
     clear hg';rw[HM.out]at y1 y2 y4;have HD:=eu (HQ.out bE 5 p (by unfold Ps.place;rw[HU.out];show(if o.fo=x.fo then _ else _)=_;rw[eT aL.out,eQ (by rw[av.out];exact aM.out),eQ (by rw[av.out];exact aN.out)]) ⟨_,_,_,HP.out.below HB.out,HT.out.trans (TF.below HB.out)⟩);go_wp2_with fail
     first|exact HD.out|(go_ret;exact HD.out)
    |cons o2 q2=>
     obtain⟨M2,hM2⟩:=eX (q2.length);have ae:=eu hM2;obtain rfl:M=M2+1:=by rw[<-HM.out,gy,hM2]
     clear hM2;have HS2:=eu (show p.st=(pre++[o])++o2::q2 by rw[HS.out];simp);obtain⟨g',hg',-,v1,v2,v4⟩:=aa.out ax HB.out (pre++[o]) o2 q2 HS2.out;obtain rfl:g=g':=by injection hg' with hg';injection hg'
     clear hg';rw[ae.out]at v1 v2 v4;have gw:IntKind.i64.wrap (((M2+1:Nat):Int)-1)=(M2:Int):=by rw[show((M2+1:Nat):Int)-1=(M2:Int)by omega];exact jC _ (by omega)
     have gp:(0:Int)<((M2+1:Nat):Int):=by omega
     have dB:(0:Int)<=(M2:Int)+1:=by omega
     have dJ:(M2:Int)<(SL:Int):=by omega
     by_cases aI:o2.fo=x.fo
     ·have bQ:(o2.fo==x.fo)=true:=by simp[aI]
      by_cases aY:o2.kind=5
      ·have bR:((o2.kind:Int)==5)=true:=by simp;omega
       obtain⟨aZ,bf⟩:=fD aI aY;clear aI aY;go_upto_region 13 with fail
       go_big_quiet (fail)
       have HB:=eu (HB.out.trans ((gB (fu _ ax) nq).mono HB.out.size));clear q0 q3 q4 q5 q1 y1 y2 y4 v1 v2 v4;obtain⟨aC,hW⟩:∃W2,ax.drewN nq=W2:=⟨_,rfl⟩
       rw[hW]at HB⊢;clear hW;obtain⟨q0,q3,q4,q5,q1⟩:=ak.out aC HB.out;obtain⟨g',hg',-,y1,y2,y4⟩:=aa.out aC HB.out pre o _ HS.out;obtain rfl:g=g':=by injection hg' with hg';injection hg'
       clear hg';rw[HM.out]at y1 y2 y4;obtain⟨g',hg',-,v1,v2,v4⟩:=aa.out aC HB.out (pre++[o]) o2 q2 HS2.out;obtain rfl:g=g':=by injection hg' with hg';injection hg'
       clear hg';rw[ae.out]at v1 v2 v4;go_upto_region 24 with fail
       obtain⟨a',cap',z1,z2,z3,z4⟩:=(HP.out.below HB.out).pfxq (pre:=(pre++[o])) (U:=o2::q2) HS2.out;rw[dn.out]at z1;injection z1 with z1 ai aj
       subst z1 aj;rw[bM.out]at z2;have bF:=eu (z4.below (eZ aC (.cells #[] 114)));have bS:=eu (kK (e:=114) iA aC);have aD:=eu (eZ aC (.cells #[] 114));have dC:=gX (o:=.cells #[] 114) q4;have dD:(o2::q2:List Ps.Op).reverse.length<=100000:=by rw[iI];rw[gy,ae.out];omega
       have bT:=eu (show([]:List Ps.Op).length+(o2::q2:List Ps.Op).reverse.length<=maxLen by simp only[maxLen,lI];omega);have bU:=eu (show(([]:List Ps.Op).length+(o2::q2:List Ps.Op).reverse.length)*40<=140737488355328 by simp only[lI];omega);have hm:(o2::q2:List Ps.Op).length=M2+1:=by rw[gy,ae.out]
       rw[hm]at bF;have dE:=eu (show(o2::q2:List Ps.Op).reverse.length=M2+1 from by rw[iI];exact hm);have bG:=eu (HP.out.below HB.out);have HEq:=eu (HX.out.keep (TF.below HB.out));have bV:=eu (HT.out.trans (TF.below HB.out));have bW:=eu (show w0.heap.size<=aC.heap.size from bG.out.kE.size);clear dD ai z3 z4 hm HB HP HT;go_upto_region 25 with(at_builtin;go_must (refine iw FQ rfl (.tmp 184) (.tmp 191) rfl aC.heap.size _ ([]:List Ps.Op) rfl bS.out _ (o2::q2:List Ps.Op).reverse rfl bF.out bT.out bU.out aD.out.size ?_;intro kv w2 hown2 hg2 bX;rw[uk]at hown2;obtain⟨ka,kc,bY⟩:=(Reads.fJ (E:=iA) hown2).shape;rw[dE.out]at bY;subst bY;have hP2:=bG.out.below (aD.out.grown hg2 aD.out.size (λq hq=>kZ (jF hq)));have HT2:=eu (bV.out.trans (TF.below (aD.out.grown hg2 aD.out.size (λq hq=>kZ (jF hq)))));have u4:=hP2.cell 4 _ rfl;have f4:=hP2.free 4;have bZ:=eu (iK hown2 bW.out);have cr:=eu hP2;have HE2:=eu (HEq.out.keep (TF.below (aD.out.grown hg2 aD.out.size (λq hq=>kZ (jF hq)))));clear hown2 hg2 bX hP2))
       clear bG HEq bV bW bS aD bF bT bU dC z2;obtain⟨hP3,bg⟩:=cr.out.l6 (p':={p with st:=(o2::q2:List Ps.Op)}) (sv':=.slice ka (M2+1) kc) rfl rfl rfl rfl bZ.out;obtain⟨w3,hw3⟩:=eX (w2.setCell ⟨c.pb,4,none⟩ (.slice ka (M2+1) kc));rw[hw3]at hP3 bg;obtain⟨HT3,cz,bn,HW3⟩:=jk (HT2.out.trans bg) (HE2.out.keep bg) hP3 hw3;clear hP3 bg hw3 cr HT2 HE2 bZ;rw[HW3.out];clear HW3 u4 f4;clear gw gp dB bQ bR gc dA g3 v1 v2 v4 y1 y2 y4 q0 q3 q4 q5 q1;obtain⟨nd,cB,hok⟩:∃nd:Nat,o2.node=(nd:Int)/\Ps.OK c.l B nd e0 p.s:=by
        have hh:=HH.out;have hcc:=HC.out;rw[HU.out]at hh hcc;exact(Ps.tV hcc.2 (Ps.jT.outer hcc hh)).1
       obtain⟨bq,cK⟩:=fD cB hok;clear cB hok;go_upto_region 32 with fail
       obtain⟨g9,dH,z1,z2,z3,z4,y0,y1,y2,y3,y4⟩:=bn.out.top (o:=o2) (r:=q2) rfl;injection z1 with z1 ai aj
       subst z1 aj;rw[ae.out]at y0 y1 y2 y3 y4;have u4:w3.cell? ⟨c.pb,4,none⟩=some (.slice (some ⟨g9,0,none⟩) ((M2)+1) kc):=bn.out.cell 4 _ rfl;have dK:((M2:Nat):Int)<(((M2)+1:Nat):Int):=by omega
       clear ai z2 z3 z4 y0 y1 y2 y3 y4
       go_big_quiet (fail)
       obtain⟨w8,hw8⟩:=eX (w3.drewN nq);have bz:Below w3.heap.size w3 w8:=hw8▸gB (fu _ w3) nq;rw[hw8];have bH:=bn.out.below bz;have cO:=eu (HT3.out.trans (TF.below bz));have cZ:=eu (cz.out.keep (TF.below bz));obtain⟨g',cap',z1,z2,z3,z4,y0,y1,y2,y3,y4⟩:=bH.top (o:=o2) (r:=q2) rfl;injection z1 with z1 ai aj
       injection z1 with z1
       injection z1 with z1
       subst z1;have f4:=z3 ((M2)*5+4);obtain⟨bA,aO⟩:=bH.je (p':={s:=p.s,doc:=p.doc,root:=p.root,st:=(⟨o2.node,o2.kind,o2.fo,o2.cur,false⟩:Ps.Op)::q2,read:=p.read}) (T:=o2) (T':=(⟨o2.node,o2.kind,o2.fo,o2.cur,false⟩:Ps.Op)) (SS:=q2) 4 (.bool false) rfl rfl rfl (by decide) rfl rfl rfl rfl;rw[ae.out]at y0 y1 y2 y3 y4 bA aO;obtain⟨w9,bI⟩:=eX (w8.setCell ⟨g9,(M2)*5+4,none⟩ (.bool false));rw[bI]at bA aO;obtain⟨df,dh,bJ,di⟩:=jk bA (cO.out.trans aO) (cZ.out.keep aO) bI;clear hw8 bz bH bA aO bI ai aj z2 z3 z4 cO cZ bn HT3 cz u4;go_upto_region 34 with fail
       rw[di.out];clear di y0 y1 y2 y3 y4 f4;have b0:=bJ.out.c0;obtain⟨CR,dm⟩:=eX (Ps.cur c.l p.s (nd:Int) x);have bB:=eu dm;clear dm;go_wp2_with fail
       ·have aP:x.dash=true:=by assumption
        have ay:=eu (df.out.below (fu _ w9).drew);have aQ:=eu (dh.out.trans (TF.below (fu _ w9).drew));have aB:=eu (bJ.out.keep (TF.below (fu _ w9).drew));have r0:w9.drew.cell? ⟨c.pb,0,none⟩=some (RG c.rb):=ay.out.cell 0 _ rfl;have r2:=aB.out.c2;have r3:=aB.out.c3;obtain⟨g',cap',z1,-,-,-,rn,-,-,-,-⟩:=ay.out.top (o:=(⟨o2.node,o2.kind,o2.fo,o2.cur,false⟩:Ps.Op)) (r:=q2) rfl;injection z1 with z1 ai aj
        clear ai aj;injection z1 with z1
        injection z1 with z1
        subst z1;rw[ae.out]at rn;have HA:=eu (show Calls prog 68 #[RG c.rb,.int .i64 o2.node,.int .i64 4,.int .i64 x.from',.int .i64 x.au] w9.drew (fU w0 w9.drew c.rb c.tv e c.l _ (.int .i64 CR.2) CR.1)from by rw[<-bB.out,bq.out];exact yC ay.out.gs (cK.out.le (e':=x.from') (b':=(x.from':Int)) (by omega) (by omega)) hlt hle (by have h2:=HN.out;omega) aP);clear aP;refine fB (λwx=>wx.cell? ⟨c.pb,0,none⟩=some (RG c.rb)/\wx.cell? ⟨g9,(M2)*5,none⟩=some (.int .i64 o2.node)/\wx.cell? ⟨bx,2,none⟩=some (.int .i64 x.from')/\wx.cell? ⟨bx,3,none⟩=some (.int .i64 x.au)) 16 (by kernel_rfl) ?_;have hH:(λwx:World=>wx.cell? ⟨c.pb,0,none⟩=some (RG c.rb)/\wx.cell? ⟨g9,(M2)*5,none⟩=some (.int .i64 o2.node)/\wx.cell? ⟨bx,2,none⟩=some (.int .i64 x.from')/\wx.cell? ⟨bx,3,none⟩=some (.int .i64 x.au)) w9.drew:=⟨r0,rn,r2,r3⟩
        refine fw 0 (.pointer (some ⟨g9,(M2)*5,none⟩)) rfl (by kernel_rfl) rfl eY (λW hW=>by go_simp) hH ?_;refine fw 1 (RG c.pb) rfl (by kernel_rfl) rfl eY (λW hW=>by go_simp) hH ?_;refine fw 2 (.pointer (some ⟨c.pb,0,none⟩)) rfl (by kernel_rfl) rfl eY (λW hW=>by go_simp) hH ?_;refine fw 3 (.pointer (some ⟨c.pb,0,none⟩)) rfl (by kernel_rfl) rfl eY (λW hW=>by go_simp) hH ?_;refine fw 4 (RG c.rb) rfl (by kernel_rfl) rfl eY (λW hW=>?_) hH ?_
        ·obtain⟨z0,z1,z2,z3⟩:=hW;go_simp
        refine fw 5 (.pointer (some ⟨g9,(M2)*5,none⟩)) rfl (by kernel_rfl) rfl eY (λW hW=>by go_simp) hH ?_;refine fw 6 (.pointer (some ⟨g9,(M2)*5,none⟩)) rfl (by kernel_rfl) rfl eY (λW hW=>by go_simp) hH ?_;refine fw 7 (.pointer (some ⟨g9,(M2)*5,none⟩)) rfl (by kernel_rfl) rfl eY (λW hW=>by go_simp) hH ?_;refine fw 8 (.int .i64 o2.node) rfl (by kernel_rfl) rfl eY (λW hW=>?_) hH ?_
        ·obtain⟨z0,z1,z2,z3⟩:=hW;go_simp
        refine fw 9 (.pointer (some ⟨bx,2,none⟩)) rfl (by kernel_rfl) rfl eY (λW hW=>by go_simp) hH ?_;refine fw 10 (.int .i64 (x.from':Int)) rfl (by kernel_rfl) rfl eY (λW hW=>?_) hH ?_
        ·obtain⟨z0,z1,z2,z3⟩:=hW;go_simp
        refine fw 11 (.pointer (some ⟨bx,3,none⟩)) rfl (by kernel_rfl) rfl eY (λW hW=>by go_simp) hH ?_;refine fw 12 (.int .i64 (x.au:Int)) rfl (by kernel_rfl) rfl eY (λW hW=>?_) hH ?_
        ·obtain⟨z0,z1,z2,z3⟩:=hW;go_simp
        refine iD 13 (by kernel_rfl) rfl λK hK=>?_
        go_simp;refine HA.out.mono ?_;rintro e10 aR ⟨rfl,dF,aF,aG⟩;obtain⟨af,az⟩:=ay.out.step aF aG;have c0:aR.cell? ⟨c.pb,0,none⟩=some (RG c.rb):=af.cell 0 _ rfl;have e10:=aB.out.keep az;have d2:=e10.c2;have d3:=e10.c3;obtain⟨g',cap',z1,-,z3,-,cn,-,-,y3,-⟩:=af.top (o:=(⟨o2.node,o2.kind,o2.fo,o2.cur,false⟩:Ps.Op)) (r:=q2) rfl;injection z1 with z1 ai aj
        clear ai aj;injection z1 with z1
        injection z1 with z1
        subst z1;have f3:=z3 ((M2)*5+3);obtain⟨ag,ah⟩:=af.je (p':={s:=CR.1,doc:=p.doc,root:=p.root,st:=(⟨o2.node,o2.kind,o2.fo,CR.2,false⟩:Ps.Op)::q2,read:=p.read}) (T:=(⟨o2.node,o2.kind,o2.fo,o2.cur,false⟩:Ps.Op)) (T':=(⟨o2.node,o2.kind,o2.fo,CR.2,false⟩:Ps.Op)) (SS:=q2) 3 (.int .i64 CR.2) rfl rfl rfl (by decide) rfl rfl rfl rfl;rw[ae.out]at cn y3 ag ah;obtain⟨bK,aA⟩:=eX (aR.setCell ⟨g9,(M2)*5+3,none⟩ (.int .i64 CR.2));rw[aA]at ag ah;have HD:=eu (HQ.out bK 0 _ (by unfold Ps.place;rw[HU.out];show(if o.fo=x.fo then _ else _)=_;rw[eT aL.out,eQ (by rw[av.out];exact aM.out),eQ (by rw[av.out];exact aN.out)];show(if o2.fo=x.fo/\o2.kind=5 then _ else _)=_;rw[eT ⟨aZ.out,bf.out⟩];unfold Ps.again;rw[bq.out,bB.out]) ⟨_,_,_,ag,(aQ.out.trans az).trans ah⟩);have aH:=eu aA;clear aF aG af az ag ah e10 z3 aA HA ay aQ aB r0 rn r2 r3;refine hK.out _ _ (λ_=>⟨c0,cn,d2,d3⟩) (λhH2=>?_);clear hK K;replace hH:=hH2 (by kernel_rfl);clear hH2;try simp only[Act.put,fF,fH,fG]
        refine fM 14 (.pointer (some ⟨g9,(M2)*5,none⟩)) rfl (by kernel_rfl) rfl eY (λW=>by go_simp) (λ_=>hH) ?_;refine fw 15 (.pointer (some ⟨g9,(M2)*5+3,none⟩)) rfl (by kernel_rfl) rfl eY (λW hW=>by go_simp) hH ?_;refine iD 16 (by kernel_rfl) rfl λK hK=>?_
        go_simp;refine hK.out _ _ (jg (by kernel_rfl)) (λ_=>?_);clear hK K;try simp only[Act.put,fF,fH,fG]
        rename_i bL;clear bL hH;refine fA (by kernel_rfl) ?_ _;go_upto_region 37 with fail
        rw[aH.out];clear aH c0 cn d2 d3 y3 f3;go_wp2_with fail
        first|exact HD.out|(go_ret;exact HD.out)
       have aP:x.dash=false:=by assumption
       have ay:=eu (df.out.below (fu _ w9).drew);have aQ:=eu (dh.out.trans (TF.below (fu _ w9).drew));have aB:=eu (bJ.out.keep (TF.below (fu _ w9).drew));have r0:w9.drew.cell? ⟨c.pb,0,none⟩=some (RG c.rb):=ay.out.cell 0 _ rfl;have r2:=aB.out.c2;have r3:=aB.out.c3;obtain⟨g',cap',z1,-,-,-,rn,-,-,-,-⟩:=ay.out.top (o:=(⟨o2.node,o2.kind,o2.fo,o2.cur,false⟩:Ps.Op)) (r:=q2) rfl;injection z1 with z1 ai aj
       clear ai aj;injection z1 with z1
       injection z1 with z1
       subst z1;rw[ae.out]at rn;have HA:=eu (show Calls prog 87 #[RG c.rb,.int .i64 o2.node,.int .i64 x.from',.int .i64 x.au] w9.drew (fU w0 w9.drew c.rb c.tv e c.l _ (.int .i64 CR.2) CR.1)from by rw[<-bB.out,bq.out];exact yD ay.out.gs (cK.out.le (e':=x.from') (b':=(x.from':Int)) (by omega) (by omega)) hlt hle (by have h2:=HN.out;omega) aP);clear aP;refine fB (λwx=>wx.cell? ⟨c.pb,0,none⟩=some (RG c.rb)/\wx.cell? ⟨g9,(M2)*5,none⟩=some (.int .i64 o2.node)/\wx.cell? ⟨bx,2,none⟩=some (.int .i64 x.from')/\wx.cell? ⟨bx,3,none⟩=some (.int .i64 x.au)) 16 (by kernel_rfl) ?_;have hH:(λwx:World=>wx.cell? ⟨c.pb,0,none⟩=some (RG c.rb)/\wx.cell? ⟨g9,(M2)*5,none⟩=some (.int .i64 o2.node)/\wx.cell? ⟨bx,2,none⟩=some (.int .i64 x.from')/\wx.cell? ⟨bx,3,none⟩=some (.int .i64 x.au)) w9.drew:=⟨r0,rn,r2,r3⟩
       refine fw 0 (.pointer (some ⟨g9,(M2)*5,none⟩)) rfl (by kernel_rfl) rfl eY (λW hW=>by go_simp) hH ?_;refine fw 1 (RG c.pb) rfl (by kernel_rfl) rfl eY (λW hW=>by go_simp) hH ?_;refine fw 2 (.pointer (some ⟨c.pb,0,none⟩)) rfl (by kernel_rfl) rfl eY (λW hW=>by go_simp) hH ?_;refine fw 3 (.pointer (some ⟨c.pb,0,none⟩)) rfl (by kernel_rfl) rfl eY (λW hW=>by go_simp) hH ?_;refine fw 4 (RG c.rb) rfl (by kernel_rfl) rfl eY (λW hW=>?_) hH ?_
       ·obtain⟨z0,z1,z2,z3⟩:=hW;go_simp
       refine fw 5 (.pointer (some ⟨g9,(M2)*5,none⟩)) rfl (by kernel_rfl) rfl eY (λW hW=>by go_simp) hH ?_;refine fw 6 (.pointer (some ⟨g9,(M2)*5,none⟩)) rfl (by kernel_rfl) rfl eY (λW hW=>by go_simp) hH ?_;refine fw 7 (.pointer (some ⟨g9,(M2)*5,none⟩)) rfl (by kernel_rfl) rfl eY (λW hW=>by go_simp) hH ?_;refine fw 8 (.int .i64 o2.node) rfl (by kernel_rfl) rfl eY (λW hW=>?_) hH ?_
       ·obtain⟨z0,z1,z2,z3⟩:=hW;go_simp
       refine fw 9 (.pointer (some ⟨bx,2,none⟩)) rfl (by kernel_rfl) rfl eY (λW hW=>by go_simp) hH ?_;refine fw 10 (.int .i64 (x.from':Int)) rfl (by kernel_rfl) rfl eY (λW hW=>?_) hH ?_
       ·obtain⟨z0,z1,z2,z3⟩:=hW;go_simp
       refine fw 11 (.pointer (some ⟨bx,3,none⟩)) rfl (by kernel_rfl) rfl eY (λW hW=>by go_simp) hH ?_;refine fw 12 (.int .i64 (x.au:Int)) rfl (by kernel_rfl) rfl eY (λW hW=>?_) hH ?_
       ·obtain⟨z0,z1,z2,z3⟩:=hW;go_simp
       refine iD 13 (by kernel_rfl) rfl λK hK=>?_
       go_simp;refine HA.out.mono ?_;rintro e10 aR ⟨rfl,dF,aF,aG⟩;obtain⟨af,az⟩:=ay.out.step aF aG;have c0:aR.cell? ⟨c.pb,0,none⟩=some (RG c.rb):=af.cell 0 _ rfl;have e10:=aB.out.keep az;have d2:=e10.c2;have d3:=e10.c3;obtain⟨g',cap',z1,-,z3,-,cn,-,-,y3,-⟩:=af.top (o:=(⟨o2.node,o2.kind,o2.fo,o2.cur,false⟩:Ps.Op)) (r:=q2) rfl;injection z1 with z1 ai aj
       clear ai aj;injection z1 with z1
       injection z1 with z1
       subst z1;have f3:=z3 ((M2)*5+3);obtain⟨ag,ah⟩:=af.je (p':={s:=CR.1,doc:=p.doc,root:=p.root,st:=(⟨o2.node,o2.kind,o2.fo,CR.2,false⟩:Ps.Op)::q2,read:=p.read}) (T:=(⟨o2.node,o2.kind,o2.fo,o2.cur,false⟩:Ps.Op)) (T':=(⟨o2.node,o2.kind,o2.fo,CR.2,false⟩:Ps.Op)) (SS:=q2) 3 (.int .i64 CR.2) rfl rfl rfl (by decide) rfl rfl rfl rfl;rw[ae.out]at cn y3 ag ah;obtain⟨bK,aA⟩:=eX (aR.setCell ⟨g9,(M2)*5+3,none⟩ (.int .i64 CR.2));rw[aA]at ag ah;have HD:=eu (HQ.out bK 0 _ (by unfold Ps.place;rw[HU.out];show(if o.fo=x.fo then _ else _)=_;rw[eT aL.out,eQ (by rw[av.out];exact aM.out),eQ (by rw[av.out];exact aN.out)];show(if o2.fo=x.fo/\o2.kind=5 then _ else _)=_;rw[eT ⟨aZ.out,bf.out⟩];unfold Ps.again;rw[bq.out,bB.out]) ⟨_,_,_,ag,(aQ.out.trans az).trans ah⟩);have aH:=eu aA;clear aF aG af az ag ah e10 z3 aA HA ay aQ aB r0 rn r2 r3;refine hK.out _ _ (λ_=>⟨c0,cn,d2,d3⟩) (λhH2=>?_);clear hK K;replace hH:=hH2 (by kernel_rfl);clear hH2;try simp only[Act.put,fF,fH,fG]
       refine fM 14 (.pointer (some ⟨g9,(M2)*5,none⟩)) rfl (by kernel_rfl) rfl eY (λW=>by go_simp) (λ_=>hH) ?_;refine fw 15 (.pointer (some ⟨g9,(M2)*5+3,none⟩)) rfl (by kernel_rfl) rfl eY (λW hW=>by go_simp) hH ?_;refine iD 16 (by kernel_rfl) rfl λK hK=>?_
       go_simp;refine hK.out _ _ (jg (by kernel_rfl)) (λ_=>?_);clear hK K;try simp only[Act.put,fF,fH,fG]
       rename_i bL;clear bL hH;refine fA (by kernel_rfl) ?_ _;go_upto_region 37 with fail
       rw[aH.out];clear aH c0 cn d2 d3 y3 f3;go_wp2_with fail
       first|exact HD.out|(go_ret;exact HD.out)
      have bR:((o2.kind:Int)==5)=false:=by simp;omega
      have bf:=eu aY;clear aI aY;go_upto_region 13 with fail
      go_big_quiet (fail)
      have HB:=eu (HB.out.trans ((gB (fu _ ax) nq).mono HB.out.size));clear q0 q3 q4 q5 q1 y1 y2 y4 v1 v2 v4;obtain⟨aS,hW⟩:∃W2,ax.drewN nq=W2:=⟨_,rfl⟩
      rw[hW]at HB⊢;clear hW;obtain⟨q0,q3,q4,q5,q1⟩:=ak.out aS HB.out;obtain⟨g',hg',-,y1,y2,y4⟩:=aa.out aS HB.out pre o _ HS.out;obtain rfl:g=g':=by injection hg' with hg';injection hg'
      clear hg';rw[HM.out]at y1 y2 y4;obtain⟨g',hg',-,v1,v2,v4⟩:=aa.out aS HB.out (pre++[o]) o2 q2 HS2.out;obtain rfl:g=g':=by injection hg' with hg';injection hg'
      clear hg';rw[ae.out]at v1 v2 v4;go_upto_region 16 with fail
      go_big_quiet (fail)
      have HB:=eu (HB.out.trans ((gB (fu _ aS) nq).mono HB.out.size));clear q0 q3 q4 q5 q1 y1 y2 y4 v1 v2 v4;obtain⟨bC,hW⟩:∃W2,aS.drewN nq=W2:=⟨_,rfl⟩
      rw[hW]at HB⊢;clear hW;obtain⟨q0,q3,q4,q5,q1⟩:=ak.out bC HB.out;obtain⟨g',hg',-,y1,y2,y4⟩:=aa.out bC HB.out pre o _ HS.out;obtain rfl:g=g':=by injection hg' with hg';injection hg'
      clear hg';rw[HM.out]at y1 y2 y4;obtain⟨g',hg',-,v1,v2,v4⟩:=aa.out bC HB.out (pre++[o]) o2 q2 HS2.out;obtain rfl:g=g':=by injection hg' with hg';injection hg'
      clear hg';rw[ae.out]at v1 v2 v4;have HD:=eu (HQ.out bC 5 p (by unfold Ps.place;rw[HU.out];show(if o.fo=x.fo then _ else _)=_;rw[eT aL.out,eQ (by rw[av.out];exact aM.out),eQ (by rw[av.out];exact aN.out)];show(if o2.fo=x.fo/\o2.kind=5 then _ else _)=_;rw[eQ (λh=>bf.out h.2)]) ⟨_,_,_,HP.out.below HB.out,HT.out.trans (TF.below HB.out)⟩);go_wp2_with fail
      first|exact HD.out|(go_ret;exact HD.out)
     have bQ:(o2.fo==x.fo)=false:=by simp[aI]
     have aZ:=eu aI;clear aI;go_upto_region 13 with fail
     go_big_quiet (fail)
     have HB:=eu (HB.out.trans ((gB (fu _ ax) nq).mono HB.out.size));clear q0 q3 q4 q5 q1 y1 y2 y4 v1 v2 v4;obtain⟨aT,hW⟩:∃W2,ax.drewN nq=W2:=⟨_,rfl⟩
     rw[hW]at HB⊢;clear hW;obtain⟨q0,q3,q4,q5,q1⟩:=ak.out aT HB.out;obtain⟨g',hg',-,y1,y2,y4⟩:=aa.out aT HB.out pre o _ HS.out;obtain rfl:g=g':=by injection hg' with hg';injection hg'
     clear hg';rw[HM.out]at y1 y2 y4;obtain⟨g',hg',-,v1,v2,v4⟩:=aa.out aT HB.out (pre++[o]) o2 q2 HS2.out;obtain rfl:g=g':=by injection hg' with hg';injection hg'
     clear hg';rw[ae.out]at v1 v2 v4;go_upto_region 16 with fail
     go_big_quiet (fail)
     have HB:=eu (HB.out.trans ((gB (fu _ aT) nq).mono HB.out.size));clear q0 q3 q4 q5 q1 y1 y2 y4 v1 v2 v4;obtain⟨aJ,hW⟩:∃W2,aT.drewN nq=W2:=⟨_,rfl⟩
     rw[hW]at HB⊢;clear hW;obtain⟨q0,q3,q4,q5,q1⟩:=ak.out aJ HB.out;obtain⟨g',hg',-,y1,y2,y4⟩:=aa.out aJ HB.out pre o _ HS.out;obtain rfl:g=g':=by injection hg' with hg';injection hg'
     clear hg';rw[HM.out]at y1 y2 y4;obtain⟨g',hg',-,v1,v2,v4⟩:=aa.out aJ HB.out (pre++[o]) o2 q2 HS2.out;obtain rfl:g=g':=by injection hg' with hg';injection hg'
     clear hg';rw[ae.out]at v1 v2 v4;have HD:=eu (HQ.out aJ 5 p (by unfold Ps.place;rw[HU.out];show(if o.fo=x.fo then _ else _)=_;rw[eT aL.out,eQ (by rw[av.out];exact aM.out),eQ (by rw[av.out];exact aN.out)];show(if o2.fo=x.fo/\o2.kind=5 then _ else _)=_;rw[eQ (λh=>aZ.out h.1)]) ⟨_,_,_,HP.out.below HB.out,HT.out.trans (TF.below HB.out)⟩);go_wp2_with fail
     first|exact HD.out|(go_ret;exact HD.out)
end
end Go.Proofs.YtfbiffdmhcjhbaaGreat

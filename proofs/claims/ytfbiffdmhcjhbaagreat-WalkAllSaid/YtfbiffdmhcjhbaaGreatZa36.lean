import Derived.Test.YtfbiffdmhcjhbaaGreatZa30
import Derived.Deep.Cut
set_option linter.all false
set_option maxHeartbeats 16000000
set_option maxRecDepth 100000
set_option synthInstance.maxSize 4000
set_option synthInstance.maxHeartbeats 0
namespace Go.Proofs.YtfbiffdmhcjhbaaGreat
open Go.RowKit Tryz
section
open Go.RowKit
open Sq
open Ar
open Fl (Tk raw jh iM cnt back fQ gI)
theorem NA(w0 w:World)(c:Cx)(e:Nat)(p:Ps.PS)(sv:Value)(R:Nat->Prop)(r:Rw.R)(a b:Nat)(B:Ps.Bs)(h:PG w0 w c e p sv R)(hrs:c.rs=Rw.fE c.l)(hO:Ps.sS c.l B a p)(hB:B.1<=a)(hab:a<b)(hb:b<=c.l.length)(hdp:p.st.length<=c.depth)(aL:c.depth<=50)(hcs:p.st.dropWhile (λo=>decide (r.fo<=o.fo))≠[])
 (hn:p.s.t.length<=450000000000) (hd:p.s.d.length<=450000000000):
 Calls prog 72 #[RG c.pb,.agg #[.int .i64 r.kind,.int .i64 r.from',.int .i64 r.au,.int .i64 r.fo],.int .i64 a,.int .i64 b] w (iJ w0 w c (.tuple #[]) (Ps.bare c.l c.rs c.depth p r a b)):=by
 obtain⟨d,hdd,hc,hh⟩:=hO;obtain⟨mh,aM,aF⟩:=hh.hold;have ai:Ps.holder p=(mh:Int):=by rw[Ps.lS,hdd];exact aM
 obtain⟨hc',hh'⟩:=Ps.jT.drop (λo=>decide (r.fo<=o.fo)) hc hh;have hls:=h.toks.2.2.2;obtain⟨-,m2⟩:=Fe.jL (code:=7) aF (f:=a) (t:=b) (by omega) hab (by omega) (by omega) hB (by omega) (by omega);have bE:=eu (λW R' (hW:GS w0 W c.rb c.tv e c.l p.s R')=>show∃v,Calls prog 47 #[RG c.rb,.int .i64 (Ps.holder p),.int .i64 a,.int .i64 b,.int .i64 7] W (fU w0 W c.rb c.tv e c.l R' (.int .i64 v) (Fl.err c.l p.s (Ps.holder p) a b 7))from by rw[ai];exact vW w0 W c.rb c.tv e c.l p.s R' mh a b 7 hW (jD.of aF.ck (by omega)) (lh m2) hab (by omega) (by omega));have bF:=eu (λW sv' R' (hW:PG w0 W c e p sv' R')=>vL w0 W c e p sv' R' hW (by omega));obtain⟨w1,hw1⟩:=eX (w.alloc (.cells #[.int .i64 r.kind,.int .i64 r.from',.int .i64 r.au,.int .i64 r.fo] 67));have hb1:Below w.heap.size w w1:=hw1▸(fu _ w).alloc (fC _) _;have hX1:RB w1 w.heap.size r.kind r.from' r.au r.fo:=hw1▸RB.new w _ _ _ _;have hP1:=h.below hb1;have hT1:=TF.below hb1;obtain⟨bx,hbx⟩:=eX (w.heap.size);rw[hbx]at hX1;obtain⟨sa,sc,hsv⟩:=(Reads.fJ (E:=iA) h.mJ).shape;rw[iI]at hsv;obtain⟨SL,av⟩:=eX (p.st.length);have aN:=eu av;rw[av]at hsv hdp;obtain⟨Q,hQ⟩:=eX (iJ w0 w c (.tuple #[]) (Ps.bare c.l c.rs c.depth p r a b));have HQ:=eu (λW p' (hz:Ps.bare c.l c.rs c.depth p r a b=p')(h:∃e sv R,PG w0 W c e p' sv R/\TF w W)=>show Q (.returned (.tuple #[])) W from by rw[<-hQ,hz];exact⟨rfl,h⟩);rw[hQ]
 have aG:=eu (λW (hb:Below w1.heap.size w1 W)=>show W.cell? ⟨c.pb,0,none⟩=some (RG c.rb)/\W.cell? ⟨c.pb,3,none⟩=some (.bool p.root)/\W.cell? ⟨c.pb,4,none⟩=some (.slice sa SL sc)/\W.cell? ⟨bx,3,none⟩=some (.int .i64 r.fo)from
  ⟨(hP1.below hb).cell 0 _ rfl,(hP1.below hb).cell 3 _ rfl,by rw[<-hsv];exact(hP1.below hb).cell 4 _ rfl,(hX1.keep (TF.below hb)).c3⟩)
 have aO:=eu (λW (hb:Below w1.heap.size w1 W) pre o r (hs:p.st=pre++o::r)=>show∃g,sa=some ⟨g,0,none⟩/\r.length<SL/\
  W.cell? ⟨g,r.length*5+2,none⟩=some (.int .i64 o.fo)/\W.cell? ⟨g,r.length*5+4,none⟩=some (.bool o.has)from by
  obtain⟨g,cap,g1,-,-,-,-,-,g3,-,g4⟩:=(hP1.below hb).nth hs;rw[hsv]at g1;injection g1 with g1
  exact⟨g,g1,by rw[<-av,hs];simp;omega,g3,g4⟩)
 have bG:=eu (λW e' sv' R' (p':Ps.PS)(hW:PG w0 W c e' p' sv' R')(k:Nat)(hs:p'.s=p.s)(hl:p'.st.length<=c.depth)(hok:Ps.OK c.l B k a p.s)=>vM w0 W c e' p' sv' R' k a a B hW hrs (by rw[hs];exact hok) (fC _) hB (by omega) hl aL (by rw[hs];omega) (by rw[hs];omega));obtain⟨HP,HT,HW1,HC,HH,bS⟩:=j6 hP1 hT1 hw1 hc' hh' hdd;obtain⟨bH,bI⟩:=fD hsv hcs;have k4:=(aG.out w1 (fu _ w1)).2.2.1;have hsl:SL<=50:=by omega
 have bT:a<=100000:=by omega
 have hb5:b<=100000:=by omega
 have bJ:=eu hdp;clear hcs hQ h hP1 hX1 hT1 hw1 hc' hh' hc hh hdd hsv av hn hd hb1 ai aM aF m2 hdp hls
 go_enter func72,ntmps72
 go_upto_region 1 with fail
 rw[HW1.out];go_wp2_with fail
 clear k4
 go_loopw [8] (λkv wr=>∃(k:Int)(pre u:List Ps.Op),kv=.int .i64 k/\k=(u.length:Int)-1/\Hid (p.st=pre++u)/\Hid (∀o∈pre,r.fo<=o.fo)/\Hid (Below w1.heap.size w1 wr)) (λkv _=>(intOf kv+1).toNat)
 case atStart=>exact⟨_,[],p.st,rfl,by rw[aN.out],eu rfl,eu (λo ho=>by cases ho),eu (fu _ _)⟩
 case round=>
  obtain⟨k,pre,u,rfl,hk,HS,ax,HB⟩:=hrel;obtain⟨q0,q3,q4,q1⟩:=aG.out wr HB.out;cases u with
  |nil=>
   obtain rfl:k=-1:=by rw[hk];rfl
   clear hk
   have HU:=eu (show p.st.dropWhile (λo=>decide (r.fo<=o.fo))=[]from by
    rw[HS.out,qR (λo ho=>iO (ax.out o ho))];rfl)
   exact absurd HU.out bI.out
  |cons o q=>
   obtain rfl:k=(q.length:Int):=by rw[hk,gy];omega
   clear hk;obtain⟨g,rfl,hrl,y2,y4⟩:=aO.out wr HB.out pre o q HS.out;obtain⟨M,hM⟩:=eX (q.length);have HM:=eu hM;rw[hM]at hrl y2 y4⊢;clear hM;by_cases hcl:r.fo<=o.fo
   ·have gg:o.fo>=r.fo:=hcl;have gk:(M:Int)<(SL:Int):=by omega
    go_wp2_with fail
    go_big_quiet (fail)
    have HB2:=eu (HB.out.trans ((gB (fu _ wr) nq).mono HB.out.size));have HS2:=eu (show p.st=(pre++[o])++q by rw[HS.out];simp)
    have aP:=eu (show∀y∈pre++[o],r.fo<=y.fo from λy hy=>by
     rcases kS.1 hy with h|h
     ·exact ax.out y h
     obtain rfl:y=o:=by simpa using h
     exact hcl)
    clear q0 q3 q4 q1 y2 y4 gg HB HS ax hcl;go_wp2_with fail
    go_roundw
    case rel=>exact⟨_,pre++[o],q,by go_num,by rw[HM.out],HS2,aP,HB2⟩
    case measure=>simp[intOf];try omega
   have HU:=eu (show p.st.dropWhile (λo=>decide (r.fo<=o.fo))=o::q from by
    rw[HS.out,qR (λo ho=>iO (ax.out o ho)),xS,eQ (by simpa using hcl)])
   have gg:decide (o.fo>=r.fo)=false:=iF hcl;have bK:decide (r.fo<=o.fo)=false:=iF hcl;have gk:(M:Int)<(SL:Int):=by omega
   go_wp2_with fail
   go_big_quiet (fail)
   have HB:=eu (HB.out.trans ((gB (fu _ wr) nq).mono HB.out.size));clear q0 q3 q4 q1 y2 y4;obtain⟨aa,hW⟩:∃W2,wr.drewN nq=W2:=⟨_,rfl⟩
   rw[hW]at HB⊢;clear hW;obtain⟨q0,q3,q4,q1⟩:=aG.out aa HB.out;obtain⟨g',hg',-,y2,y4⟩:=aO.out aa HB.out pre o _ HS.out;obtain rfl:g=g':=by injection hg' with hg';injection hg'
   clear hg';rw[HM.out]at y2 y4;clear gg bK hcl;have gl:decide ((M:Int)<0)=false:=iF (by omega);cases aj:o.has with
   |true=>
    rw[aj]at y4;go_upto_region 5 with fail
    have ay:=eu ((HP.out.below HB.out).below (fu _ aa).drew);have aQ:=eu (HT.out.trans (TF.below (HB.out.trans ((fu _ aa).drew.mono HB.out.size))));have r0:aa.drew.cell? ⟨c.pb,0,none⟩=some (RG c.rb):=ay.out.cell 0 _ rfl;clear q0 q3 q4 q1;refine fB (λwx=>wx.cell? ⟨c.pb,0,none⟩=some (RG c.rb)) 8 (by kernel_rfl) ?_;have hH:(λwx:World=>wx.cell? ⟨c.pb,0,none⟩=some (RG c.rb)) aa.drew:=r0;refine fM 0 (RG c.pb) rfl (by kernel_rfl) rfl eY (λW=>by go_simp) (λ_=>hH) ?_;refine fM 1 (.pointer (some ⟨c.pb,0,none⟩)) rfl (by kernel_rfl) rfl eY (λW=>by go_simp) (λ_=>hH) ?_;refine fM 2 (.pointer (some ⟨c.pb,0,none⟩)) rfl (by kernel_rfl) rfl eY (λW=>by go_simp) (λ_=>hH) ?_;refine fw 3 (RG c.rb) rfl (by kernel_rfl) rfl eY (λW hW=>by go_simp) hH ?_;refine fM 4 (RG c.pb) rfl (by kernel_rfl) rfl eY (λW=>by go_simp) (λ_=>hH) ?_;refine fw 6 (.int .i64 (a:Int)) rfl (by kernel_rfl) rfl eY (λW hW=>by go_simp) hH ?_;refine fw 7 (.int .i64 (b:Int)) rfl (by kernel_rfl) rfl eY (λW hW=>by go_simp) hH ?_;refine iD 5 (by kernel_rfl) rfl λK hK=>?_
    go_simp;refine(bF.out aa.drew _ _ ay.out).mono ?_;rintro e5 w5 ⟨rfl,hb5⟩;have az:=eu (ay.out.below hb5);have aR:=eu (aQ.out.trans (TF.below hb5));have r5:w5.cell? ⟨c.pb,0,none⟩=some (RG c.rb):=az.out.cell 0 _ rfl;obtain⟨ve,aS⟩:=bE.out w5 _ az.out.gs;have aT:=eu aS;clear hb5 aS ay aQ r0;refine hK.out _ _ (λ_=>r5) (λhH2=>?_);clear hK K;replace hH:=hH2 (by kernel_rfl);clear hH2;try simp only[Act.put,fF,fH,fG]
    refine iD 8 (by kernel_rfl) rfl λK hK=>?_
    go_simp;refine aT.out.mono ?_;rintro e6 w6 ⟨rfl,R6,aU,aV⟩;obtain⟨ae,ak⟩:=az.out.step aU aV;have HD:=eu (HQ.out w6 _ (by unfold Ps.bare;rw[HU.out];show(if o.has=true then _ else _)=_;rw[eT aj]) ⟨_,_,_,ae,aR.out.trans ak⟩);clear aU aV ae ak r5 az aR aT;refine hK.out _ _ (jg (by kernel_rfl)) (λ_=>?_);clear hK K;try simp only[Act.put,fF,fH,fG]
    refine fA (by kernel_rfl) ?_ _;go_wp2_with fail
    first|exact HD.out|(go_end0;exact HD.out)|(go_ret;exact HD.out)
   |false=>
    rw[aj]at y4;have aW:=eu aj;clear aj;go_upto_region 6 with fail
    obtain⟨a',cap',z1,z2,z3,z4⟩:=(HP.out.below HB.out).pfxq (pre:=pre) (U:=o::q) HS.out;rw[bH.out]at z1;injection z1 with z1 af ag
    subst z1 ag;rw[aN.out]at z2;have aH:=eu (z4.below (eZ aa (.cells #[] 114)));have aX:=eu (kK (e:=114) iA aa);have ah:=eu (eZ aa (.cells #[] 114));have bL:=gX (o:=.cells #[] 114) q4;have bM:(o::q:List Ps.Op).reverse.length<=100000:=by rw[iI];rw[gy,HM.out];omega
    have aY:=eu (show([]:List Ps.Op).length+(o::q:List Ps.Op).reverse.length<=maxLen by simp only[maxLen,lI];omega);have aZ:=eu (show(([]:List Ps.Op).length+(o::q:List Ps.Op).reverse.length)*40<=140737488355328 by simp only[lI];omega);have hm:(o::q:List Ps.Op).length=M+1:=by rw[gy,HM.out]
    rw[hm]at aH;have bN:=eu (show(o::q:List Ps.Op).reverse.length=M+1 from by rw[iI];exact hm);have aI:=eu (HP.out.below HB.out);have bf:=eu (HT.out.trans (TF.below HB.out));have bg:=eu (show w0.heap.size<=aa.heap.size from aI.out.kE.size);clear bM af z3 z4 hm HB HP HT q0 q3 q4 q1;go_upto_region 7 with(at_builtin;go_must (refine iw FQ rfl (.tmp 64) (.tmp 71) rfl aa.heap.size _ ([]:List Ps.Op) rfl aX.out _ (o::q:List Ps.Op).reverse rfl aH.out aY.out aZ.out ah.out.size ?_;intro kv w2 hown2 hg2 bn;rw[uk]at hown2;obtain⟨ka,kc,bq⟩:=(Reads.fJ (E:=iA) hown2).shape;rw[bN.out]at bq;subst bq;have hP2:=aI.out.below (ah.out.grown hg2 ah.out.size (λq hq=>kZ (jF hq)));have HT2:=eu (bf.out.trans (TF.below (ah.out.grown hg2 ah.out.size (λq hq=>kZ (jF hq)))));have u4:=hP2.cell 4 _ rfl;have f4:=hP2.free 4;have bz:=eu (iK hown2 bg.out);have bA:=eu hP2;clear hown2 hg2 bn hP2))
    clear aI bf bg aX ah aH aY aZ bL z2;obtain⟨hP3,aJ⟩:=bA.out.l6 (p':={p with st:=(o::q:List Ps.Op)}) (sv':=.slice ka (M+1) kc) rfl rfl rfl rfl bz.out;obtain⟨w3,hw3⟩:=eX (w2.setCell ⟨c.pb,4,none⟩ (.slice ka (M+1) kc));rw[hw3]at hP3 aJ;obtain⟨HT3,aA,HW3⟩:=gW (HT2.out.trans aJ) hP3 hw3;clear hP3 aJ hw3 bA HT2 bz;rw[HW3.out];clear HW3 u4 f4;obtain⟨g9,bQ,z1,z2,z3,z4,y0,y1,y2,y3,y4⟩:=aA.out.top (o:=o) (r:=q) rfl;injection z1 with z1 af ag
    subst z1 ag;clear af z2 z3 z4 y0 y1 y2 y3 y4
    obtain⟨mm,e1,e2⟩:=(show Ps.xO c.l B o.cur a p.s from by
     have hh:=HH.out;rw[HU.out]at hh
     exact hh.2 aW.out)
    have hv:=bG.out w3.drew _ _ _ {p with st:=(o::q:List Ps.Op)} (aA.out.below (fu _ w3).drew) mm rfl (by show(o::q:List Ps.Op).length<=_;have h9:=bJ.out;rw[gy,HM.out];omega) e2;have hvk:∀k:Int,k=(mm:Int)->Calls prog 69 #[RG c.pb,.int .i64 k,.int .i64 a] w3.drew (nC w0 w3.drew c (.slice (some ⟨g9,0,none⟩) (M+1) kc) (.bool (Ps.value c.l c.rs c.depth {p with st:=(o::q:List Ps.Op)} k a).2) (Ps.value c.l c.rs c.depth {p with st:=(o::q:List Ps.Op)} k a).1):=by rintro _ rfl;exact hv
    replace hv:=hvk o.cur e1;clear hvk;obtain⟨V,hV⟩:=eX (Ps.value c.l c.rs c.depth {p with st:=(o::q:List Ps.Op)} o.cur a);rw[hV]at hv;have aD:V.1.st=o::q:=by rw[<-hV];rfl
    obtain⟨HV,bO,bB⟩:=gW hv hV aD;clear hv hV e1 e2 aD;have aK:=eu (aA.out.below (fu _ w3).drew);have bC:=eu (HT3.out.trans (TF.below (fu _ w3).drew));clear aA HT3;have r4:w3.drew.cell? ⟨c.pb,4,none⟩=some (.slice (some ⟨g9,0,none⟩) (M+1) kc):=aK.out.cell 4 _ rfl;obtain⟨g',cap',z1,-,-,-,-,-,-,r3,-⟩:=aK.out.top (o:=o) (r:=q) rfl;injection z1 with z1 af ag
    clear af ag;injection z1 with z1
    injection z1 with z1
    subst z1;rw[HM.out]at r3;have bU:((M:Nat):Int)<((M:Nat):Int)+1:=by omega
    have bR:¬(((M:Nat):Int)+1<=((M:Nat):Int)):=by omega
    have gl:decide ((M:Int)<0)=false:=iF (by omega);go_upto_region 9 with fail
    clear gl;refine fB (λwx=>wx.cell? ⟨c.pb,4,none⟩=some (.slice (some ⟨g9,0,none⟩) (M+1) kc)/\wx.cell? ⟨g9,M*5+3,none⟩=some (.int .i64 o.cur)) 18 (by kernel_rfl) ?_;have hH:(λwx:World=>wx.cell? ⟨c.pb,4,none⟩=some (.slice (some ⟨g9,0,none⟩) (M+1) kc)/\wx.cell? ⟨g9,M*5+3,none⟩=some (.int .i64 o.cur)) w3.drew:=⟨r4,r3⟩
    refine fw 0 (RG c.pb) rfl (by kernel_rfl) rfl eY (λW hW=>by go_simp) hH ?_;refine fw 1 (.pointer (some ⟨c.pb,0,none⟩)) rfl (by kernel_rfl) rfl eY (λW hW=>by go_simp) hH ?_;refine fw 2 (.pointer (some ⟨c.pb,4,none⟩)) rfl (by kernel_rfl) rfl eY (λW hW=>by go_simp) hH ?_;refine fw 3 (.slice (some ⟨g9,0,none⟩) (M+1) kc) rfl (by kernel_rfl) rfl eY (λW hW=>?_) hH ?_
    ·obtain⟨z0,z1⟩:=hW;go_simp
    refine fw 4 (.int .i64 (M:Int)) rfl (by kernel_rfl) rfl eY (λW hW=>by go_simp) hH ?_;refine fw 5 (RG c.pb) rfl (by kernel_rfl) rfl eY (λW hW=>by go_simp) hH ?_;refine fw 6 (RG c.pb) rfl (by kernel_rfl) rfl eY (λW hW=>by go_simp) hH ?_;refine fw 7 (.pointer (some ⟨c.pb,0,none⟩)) rfl (by kernel_rfl) rfl eY (λW hW=>by go_simp) hH ?_;refine fw 8 (.pointer (some ⟨c.pb,4,none⟩)) rfl (by kernel_rfl) rfl eY (λW hW=>by go_simp) hH ?_;refine fw 9 (.slice (some ⟨g9,0,none⟩) (M+1) kc) rfl (by kernel_rfl) rfl eY (λW hW=>?_) hH ?_
    ·obtain⟨z0,z1⟩:=hW;go_simp
    refine fw 10 (.int .i64 (M:Int)) rfl (by kernel_rfl) rfl eY (λW hW=>by go_simp) hH ?_;refine fw 11 (.pointer (some ⟨g9,M*5,none⟩)) rfl (by kernel_rfl) rfl eY (λW hW=>by go_simp) hH ?_;refine fw 12 (.pointer (some ⟨g9,M*5+3,none⟩)) rfl (by kernel_rfl) rfl eY (λW hW=>by go_simp) hH ?_;refine fw 13 (.int .i64 o.cur) rfl (by kernel_rfl) rfl eY (λW hW=>?_) hH ?_
    ·obtain⟨z0,z1⟩:=hW;go_simp
    refine fw 14 (.int .i64 (a:Int)) rfl (by kernel_rfl) rfl eY (λW hW=>by go_simp) hH ?_;refine iD 15 (by kernel_rfl) rfl λK hK=>?_
    go_simp;refine HV.out.mono ?_;rintro e5 w5 ⟨rfl,e6,R6,ae,ak⟩;have d4:w5.cell? ⟨c.pb,4,none⟩=some (.slice (some ⟨g9,0,none⟩) (M+1) kc):=ae.cell 4 _ rfl;obtain⟨g',cap',z1,-,z3,-,-,-,-,d3,y4⟩:=ae.top (o:=o) (r:=q) bB.out;injection z1 with z1 af ag
    clear af ag;injection z1 with z1
    injection z1 with z1
    subst z1;rw[HM.out]at d3 y4;have f4:=z3 (M*5+4);obtain⟨aB,aC⟩:=ae.je (p':={V.1 with st:={o with has:=V.2}::q}) (T:=o) (T':={o with has:=V.2}) (SS:=q) 4 (.bool V.2) bB.out rfl rfl (by decide) rfl rfl rfl rfl;rw[HM.out]at aB aC;obtain⟨w7,hw7⟩:=eX (w5.setCell ⟨g9,M*5+4,none⟩ (.bool V.2));rw[hw7]at aB aC;have bD:=eu hw7;have HD:=eu (HQ.out w7 _ (by unfold Ps.bare;rw[HU.out];show(if o.has=true then _ else _)=_;rw[eQ (by rw[aW.out];decide)];dsimp only;rw[bO.out]) ⟨_,_,_,aB,(bC.out.trans ak).trans aC⟩);clear ae ak aB aC hw7 r4 r3 HV aK bC;refine hK.out _ _ (λ_=>⟨d4,d3⟩) (λhH2=>?_);clear hK K;replace hH:=hH2 (by kernel_rfl);clear hH2;try simp only[Act.put,fF,fH,fG]
    refine fM 16 (.pointer (some ⟨g9,M*5,none⟩)) rfl (by kernel_rfl) rfl eY (λW=>by go_simp) (λ_=>hH) ?_;refine fw 17 (.pointer (some ⟨g9,M*5+4,none⟩)) rfl (by kernel_rfl) rfl eY (λW hW=>by go_simp) hH ?_;refine iD 18 (by kernel_rfl) rfl λK hK=>?_
    go_simp;refine hK.out _ _ (jg (by kernel_rfl)) (λ_=>?_);clear hK K;try simp only[Act.put,fF,fH,fG]
    rename_i bP;clear bP hH;refine fA (by kernel_rfl) ?_ _;rw[bD.out];clear bD d4 d3 y4 f4;go_wp2_with fail
    first|exact HD.out|(go_end0;exact HD.out)|(go_ret;exact HD.out)
end
section
open Go.RowKit
open Sq
open Ar
open Fl (Tk raw jh iM cnt back fQ gI)
theorem K9(w0 w:World)(c:Cx)(e:Nat)(p:Ps.PS)(sv:Value)(R:Nat->Prop)(x:Rw.E)(e0:Nat)(B:Ps.Bs)(h:PG w0 w c e p sv R)(hO:Ps.sS c.l B e0 p)(hB:B.1<=x.from')(he:e0<=x.from')(hlt:x.from'<x.au)(hle:x.au<=c.l.length)(hd1:1<=c.depth)(cz:c.depth<=50)(hst:p.st.length<=100000)(hcs:(p.st.dropWhile (λo=>decide (x.fo<o.fo))≠[])/\(∀o r,p.st.dropWhile (λo=>decide (x.fo<o.fo))=o::r->o.fo=x.fo/\o.kind=Ps.kindOf x))
 (hn:p.s.t.length<=600000000000):
 Calls prog 73 #[RG c.pb,.agg #[.bool x.dash,.int .i64 x.fo,.int .i64 x.from',.int .i64 x.au]] w (iJ w0 w c (.int .i64 (Ps.place c.l c.depth p x).1) (Ps.place c.l c.depth p x).2):=by
 obtain⟨d,hdd,hc,hh⟩:=hO;obtain⟨hc',hh'⟩:=Ps.jT.drop (λo=>decide (x.fo<o.fo)) hc hh;have hls:=h.toks.2.2.2;obtain⟨w1,hw1⟩:=eX (w.alloc (.cells #[.bool x.dash,.int .i64 x.fo,.int .i64 x.from',.int .i64 x.au] 112));have hb1:Below w.heap.size w w1:=hw1▸(fu _ w).alloc (fC _) _;have hX1:EB w1 w.heap.size x:=hw1▸EB.new w _;have hP1:=h.below hb1;have hT1:=TF.below hb1;obtain⟨bx,hbx⟩:=eX (w.heap.size);rw[hbx]at hX1;obtain⟨sa,sc,hsv⟩:=(Reads.fJ (E:=iA) h.mJ).shape;rw[iI]at hsv;obtain⟨SL,aH⟩:=eX (p.st.length);have bn:=eu aH;rw[aH]at hsv hst;obtain⟨Kd,aB⟩:=eX (Ps.kindOf x);obtain⟨Q,hQ⟩:=eX (iJ w0 w c (.int .i64 (Ps.place c.l c.depth p x).1) (Ps.place c.l c.depth p x).2);have HQ:=eu (λW z p' (hz:Ps.place c.l c.depth p x=(z,p'))(h:∃e sv R,PG w0 W c e p' sv R/\TF w W)=>show Q (.returned (.int .i64 (z:Nat))) W from by rw[<-hQ,hz];exact⟨rfl,h⟩);rw[hQ]
 have aI:=eu (λW (hb:Below w1.heap.size w1 W)=>show W.cell? ⟨c.pb,0,none⟩=some (RG c.rb)/\W.cell? ⟨c.pb,3,none⟩=some (.bool p.root)/\W.cell? ⟨c.pb,4,none⟩=some (.slice sa SL sc)/\W.cell? ⟨c.pb,5,none⟩=some (.int .i64 (c.depth:Int))/\W.cell? ⟨bx,1,none⟩=some (.int .i64 x.fo)from
  ⟨(hP1.below hb).cell 0 _ rfl,(hP1.below hb).cell 3 _ rfl,by rw[<-hsv];exact(hP1.below hb).cell 4 _ rfl,(hP1.below hb).cell 5 _ rfl,(hX1.keep (TF.below hb)).c1⟩)
 have aR:=eu (λW (hb:Below w1.heap.size w1 W) pre o r (hs:p.st=pre++o::r)=>show∃g,sa=some ⟨g,0,none⟩/\r.length<SL/\
  W.cell? ⟨g,r.length*5+1,none⟩=some (.int .i64 o.kind)/\W.cell? ⟨g,r.length*5+2,none⟩=some (.int .i64 o.fo)/\W.cell? ⟨g,r.length*5+4,none⟩=some (.bool o.has)from by
  obtain⟨g,cap,g1,-,-,-,-,g2,g3,-,g4⟩:=(hP1.below hb).nth hs;rw[hsv]at g1;injection g1 with g1
  exact⟨g,g1,by rw[<-aH,hs];simp;omega,g2,g3,g4⟩)
 obtain⟨HP,HX,HT,HW1,aS,HC⟩:=j6 hP1 hX1 hT1 hw1 aB hc';obtain⟨HH,cK,bU,HN,bV,bW⟩:=j6 hh' hdd hsv hn hcs.1 hcs.2;have bq:=hX1.c0;have k4:=(aI.out w1 (fu _ w1)).2.2.1;clear hcs hQ h hP1 hX1 hT1 hw1 hc' hh' hc hh hdd hsv aH hn hb1
 go_enter func73,ntmps73
 go_upto_region 1 with fail
 rw[HW1.out]
 go_upto_if 11 with(fail)
 go_cut [5] (λv wx=>v=.int .i64 (Kd:Nat)/\w1=wx)
 case first=>
  have e3:x.dash=true->Kd=3:=λhx=>by rw[<-aB];unfold Ps.kindOf;rw[eT hx]
  have e5:x.dash=false->Kd=5:=λhx=>by rw[<-aB];unfold Ps.kindOf;rw[eQ (by rw[hx];decide)]
  obtain⟨H3,H5⟩:=fD e3 e5;clear e3 e5 aB bq;go_wp2_with fail
  all_goals go_meet
  case rel=>exact⟨by rw[H3.out (by assumption)];rfl,rfl⟩
  case rel=>exact⟨by rw[H5.out (by assumption)];rfl,rfl⟩
 case rest=>
  obtain⟨rfl,rfl⟩:=hcut;clear bq aB;go_wp2_with fail
  clear k4
  go_loopw [6] (λkv wr=>∃(k:Int)(pre u:List Ps.Op),kv=.int .i64 k/\k=(u.length:Int)-1/\Hid (p.st=pre++u)/\Hid (∀o∈pre,x.fo<o.fo)/\Hid (Below w1.heap.size w1 wr)) (λkv _=>(intOf kv+1).toNat)
  case atStart=>exact⟨_,[],p.st,rfl,by rw[bn.out],eu rfl,eu (λo ho=>by cases ho),eu (fu _ _)⟩
  case round=>
   obtain⟨k,pre,u,rfl,hk,HS,aJ,HB⟩:=hrel;obtain⟨q0,q3,q4,q5,q1⟩:=aI.out wr HB.out;cases u with
   |nil=>
    obtain rfl:k=-1:=by rw[hk];rfl
    clear hk
    have HU:=eu (show p.st.dropWhile (λo=>decide (x.fo<o.fo))=[]from by
     rw[HS.out,qR (λo ho=>iO (aJ.out o ho))];rfl)
    exact absurd HU.out bV.out
   |cons o r=>
    obtain rfl:k=(r.length:Int):=by rw[hk,gy];omega
    clear hk;obtain⟨g,rfl,hrl,y1,y2,y4⟩:=aR.out wr HB.out pre o r HS.out;obtain⟨M,hM⟩:=eX (r.length);have HM:=eu hM;rw[hM]at hrl y1 y2 y4⊢;clear hM;by_cases hcl:x.fo<o.fo
    ·have gg:o.fo>x.fo:=hcl;have gk:(M:Int)<(SL:Int):=by omega
     go_wp2_with fail
     go_big_quiet (fail)
     have HB2:=eu (HB.out.trans ((gB (fu _ wr) nq).mono HB.out.size));have HS2:=eu (show p.st=(pre++[o])++r by rw[HS.out];simp)
     have bz:=eu (show∀y∈pre++[o],x.fo<y.fo from λy hy=>by
      rcases kS.1 hy with h|h
      ·exact aJ.out y h
      obtain rfl:y=o:=by simpa using h
      exact hcl)
     clear q0 q3 q4 q5 q1 y1 y2 y4 gg HB HS aJ hcl;go_wp2_with fail
     go_roundw
     case rel=>exact⟨_,pre++[o],r,by go_num,by rw[HM.out],HS2,bz,HB2⟩
     case measure=>simp[intOf];try omega
    have HU:=eu (show p.st.dropWhile (λo=>decide (x.fo<o.fo))=o::r from by
     rw[HS.out,qR (λo ho=>iO (aJ.out o ho)),xS,eQ (by simpa using hcl)])
    have gg:decide (o.fo>x.fo)=false:=iF hcl;have gk:(M:Int)<(SL:Int):=by omega
    go_wp2_with fail
    go_big_quiet (fail)
    have HB:=eu (HB.out.trans ((gB (fu _ wr) nq).mono HB.out.size));clear q0 q3 q4 q5 q1 y1 y2 y4;obtain⟨aK,hW⟩:∃W2,wr.drewN nq=W2:=⟨_,rfl⟩
    rw[hW]at HB⊢;clear hW;obtain⟨q0,q3,q4,q5,q1⟩:=aI.out aK HB.out;obtain⟨g',hg',-,y1,y2,y4⟩:=aR.out aK HB.out pre o _ HS.out;obtain rfl:g=g':=by injection hg' with hg';injection hg'
    clear hg';rw[HM.out]at y1 y2 y4;clear gg;have hcs:=bW.out o r HU.out;obtain⟨aT,hcs⟩:=hcs;have gc:(o.fo==x.fo)=true:=by simp[aT]
    have bA:=eu aT;clear aT hcl;have aU:o.kind=Kd:=by rw[<-aS.out];exact hcs
    clear hcs;have cO:((o.kind:Int)==(Kd:Int))=true:=by simp[aU]
    have bB:=eu aU;clear aU;go_upto_region 8 with fail
    go_big_quiet (fail)
    have HB:=eu (HB.out.trans ((gB (fu _ aK) nq).mono HB.out.size));clear q0 q3 q4 q5 q1 y1 y2 y4;obtain⟨wq2,hW⟩:∃W2,aK.drewN nq=W2:=⟨_,rfl⟩
    rw[hW]at HB⊢;clear hW;obtain⟨q0,q3,q4,q5,q1⟩:=aI.out wq2 HB.out;obtain⟨g',hg',-,y1,y2,y4⟩:=aR.out wq2 HB.out pre o _ HS.out;obtain rfl:g=g':=by injection hg' with hg';injection hg'
    clear hg';rw[HM.out]at y1 y2 y4;go_upto_region 24 with fail
    obtain⟨a',cap',z1,z2,z3,z4⟩:=(HP.out.below HB.out).pfxq (pre:=pre) (U:=o::r) HS.out;rw[bU.out]at z1;injection z1 with z1 ag ah
    subst z1 ah;rw[bn.out]at z2;have aV:=eu (z4.below (eZ wq2 (.cells #[] 114)));have bC:=eu (kK (e:=114) iA wq2);have ax:=eu (eZ wq2 (.cells #[] 114));have bX:=gX (o:=.cells #[] 114) q4;have bY:(o::r:List Ps.Op).reverse.length<=100000:=by rw[iI];rw[gy,HM.out];omega
    have bD:=eu (show([]:List Ps.Op).length+(o::r:List Ps.Op).reverse.length<=maxLen by simp only[maxLen,lI];omega);have bE:=eu (show(([]:List Ps.Op).length+(o::r:List Ps.Op).reverse.length)*40<=140737488355328 by simp only[lI];omega);have hm:(o::r:List Ps.Op).length=M+1:=by rw[gy,HM.out]
    rw[hm]at aV;have bZ:=eu (show(o::r:List Ps.Op).reverse.length=M+1 from by rw[iI];exact hm);have aW:=eu (HP.out.below HB.out);have HEq:=eu (HX.out.keep (TF.below HB.out));have bF:=eu (HT.out.trans (TF.below HB.out));have bG:=eu (show w0.heap.size<=wq2.heap.size from aW.out.kE.size);clear bY ag z3 z4 hm HB HP HT;go_upto_region 25 with(at_builtin;go_must (refine iw FQ rfl (.tmp 184) (.tmp 191) rfl wq2.heap.size _ ([]:List Ps.Op) rfl bC.out _ (o::r:List Ps.Op).reverse rfl aV.out bD.out bE.out ax.out.size ?_;intro kv w2 hown2 hg2 bH;rw[uk]at hown2;obtain⟨ka,kc,bI⟩:=(Reads.fJ (E:=iA) hown2).shape;rw[bZ.out]at bI;subst bI;have hP2:=aW.out.below (ax.out.grown hg2 ax.out.size (λq hq=>kZ (jF hq)));have HT2:=eu (bF.out.trans (TF.below (ax.out.grown hg2 ax.out.size (λq hq=>kZ (jF hq)))));have u4:=hP2.cell 4 _ rfl;have f4:=hP2.free 4;have bJ:=eu (iK hown2 bG.out);have bK:=eu hP2;have HE2:=eu (HEq.out.keep (TF.below (ax.out.grown hg2 ax.out.size (λq hq=>kZ (jF hq)))));clear hown2 hg2 bH hP2))
    clear aW HEq bF bG bC ax aV bD bE bX z2;obtain⟨hP3,aL⟩:=bK.out.l6 (p':={p with st:=(o::r:List Ps.Op)}) (sv':=.slice ka (M+1) kc) rfl rfl rfl rfl bJ.out;obtain⟨w3,hw3⟩:=eX (w2.setCell ⟨c.pb,4,none⟩ (.slice ka (M+1) kc));rw[hw3]at hP3 aL;obtain⟨HT3,bL,aM,HW3⟩:=jk (HT2.out.trans aL) (HE2.out.keep aL) hP3 hw3;clear hP3 aL hw3 bK HT2 HE2 bJ;rw[HW3.out];clear HW3 u4 f4;obtain⟨nd,bM,hok⟩:∃nd:Nat,o.node=(nd:Int)/\Ps.OK c.l B nd e0 p.s:=by
     have hh:=HH.out;rw[HU.out]at hh;exact hh.1
    obtain⟨aN,bN⟩:=fD bM hok;clear bM hok;go_upto_region 32 with fail
    obtain⟨g9,cB,z1,z2,z3,z4,y0,y1,y2,y3,y4⟩:=aM.out.top (o:=o) (r:=r) rfl;injection z1 with z1 ag ah
    subst z1 ah;rw[HM.out]at y0 y1 y2 y3 y4;have u4:w3.cell? ⟨c.pb,4,none⟩=some (.slice (some ⟨g9,0,none⟩) ((M)+1) kc):=aM.out.cell 4 _ rfl;have cZ:((M:Nat):Int)<(((M)+1:Nat):Int):=by omega
    clear ag z2 z3 z4 y0 y1 y2 y3 y4
    go_big_quiet (fail)
    obtain⟨w8,hw8⟩:=eX (w3.drewN nq);have aO:Below w3.heap.size w3 w8:=hw8▸gB (fu _ w3) nq;rw[hw8];have aX:=aM.out.below aO;have bO:=eu (HT3.out.trans (TF.below aO));have bP:=eu (bL.out.keep (TF.below aO));obtain⟨g',cap',z1,z2,z3,z4,y0,y1,y2,y3,y4⟩:=aX.top (o:=o) (r:=r) rfl;injection z1 with z1 ag ah
    injection z1 with z1
    injection z1 with z1
    subst z1;have f4:=z3 ((M)*5+4);obtain⟨aP,aC⟩:=aX.je (p':={s:=p.s,doc:=p.doc,root:=p.root,st:=(⟨o.node,o.kind,o.fo,o.cur,false⟩:Ps.Op)::r,read:=p.read}) (T:=o) (T':=(⟨o.node,o.kind,o.fo,o.cur,false⟩:Ps.Op)) (SS:=r) 4 (.bool false) rfl rfl rfl (by decide) rfl rfl rfl rfl;rw[HM.out]at y0 y1 y2 y3 y4 aP aC;obtain⟨w9,aY⟩:=eX (w8.setCell ⟨g9,(M)*5+4,none⟩ (.bool false));rw[aY]at aP aC;obtain⟨bQ,bR,aZ,bS⟩:=jk aP (bO.out.trans aC) (bP.out.keep aC) aY;clear hw8 aO aX aP aC aY ag ah z2 z3 z4 bO bP aM HT3 bL u4;go_upto_region 34 with fail
    rw[bS.out];clear bS y0 y1 y2 y3 y4 f4;have b0:=aZ.out.c0;obtain⟨CR,bT⟩:=eX (Ps.cur c.l p.s (nd:Int) x);have aQ:=eu bT;clear bT;go_wp2_with fail
    ·have aD:x.dash=true:=by assumption
     have ai:=eu (bQ.out.below (fu _ w9).drew);have aF:=eu (bR.out.trans (TF.below (fu _ w9).drew));have av:=eu (aZ.out.keep (TF.below (fu _ w9).drew));have r0:w9.drew.cell? ⟨c.pb,0,none⟩=some (RG c.rb):=ai.out.cell 0 _ rfl;have r2:=av.out.c2;have r3:=av.out.c3;obtain⟨g',cap',z1,-,-,-,rn,-,-,-,-⟩:=ai.out.top (o:=(⟨o.node,o.kind,o.fo,o.cur,false⟩:Ps.Op)) (r:=r) rfl;injection z1 with z1 ag ah
     clear ag ah;injection z1 with z1
     injection z1 with z1
     subst z1;rw[HM.out]at rn;have HA:=eu (show Calls prog 68 #[RG c.rb,.int .i64 o.node,.int .i64 4,.int .i64 x.from',.int .i64 x.au] w9.drew (fU w0 w9.drew c.rb c.tv e c.l _ (.int .i64 CR.2) CR.1)from by rw[<-aQ.out,aN.out];exact yC ai.out.gs (bN.out.le (e':=x.from') (b':=(x.from':Int)) (by omega) (by omega)) hlt hle (by have h2:=HN.out;omega) aD);clear aD;refine fB (λwx=>wx.cell? ⟨c.pb,0,none⟩=some (RG c.rb)/\wx.cell? ⟨g9,(M)*5,none⟩=some (.int .i64 o.node)/\wx.cell? ⟨bx,2,none⟩=some (.int .i64 x.from')/\wx.cell? ⟨bx,3,none⟩=some (.int .i64 x.au)) 16 (by kernel_rfl) ?_;have hH:(λwx:World=>wx.cell? ⟨c.pb,0,none⟩=some (RG c.rb)/\wx.cell? ⟨g9,(M)*5,none⟩=some (.int .i64 o.node)/\wx.cell? ⟨bx,2,none⟩=some (.int .i64 x.from')/\wx.cell? ⟨bx,3,none⟩=some (.int .i64 x.au)) w9.drew:=⟨r0,rn,r2,r3⟩
     refine fw 0 (.pointer (some ⟨g9,(M)*5,none⟩)) rfl (by kernel_rfl) rfl eY (λW hW=>by go_simp) hH ?_;refine fw 1 (RG c.pb) rfl (by kernel_rfl) rfl eY (λW hW=>by go_simp) hH ?_;refine fw 2 (.pointer (some ⟨c.pb,0,none⟩)) rfl (by kernel_rfl) rfl eY (λW hW=>by go_simp) hH ?_;refine fw 3 (.pointer (some ⟨c.pb,0,none⟩)) rfl (by kernel_rfl) rfl eY (λW hW=>by go_simp) hH ?_;refine fw 4 (RG c.rb) rfl (by kernel_rfl) rfl eY (λW hW=>?_) hH ?_
     ·obtain⟨z0,z1,z2,z3⟩:=hW;go_simp
     refine fw 5 (.pointer (some ⟨g9,(M)*5,none⟩)) rfl (by kernel_rfl) rfl eY (λW hW=>by go_simp) hH ?_;refine fw 6 (.pointer (some ⟨g9,(M)*5,none⟩)) rfl (by kernel_rfl) rfl eY (λW hW=>by go_simp) hH ?_;refine fw 7 (.pointer (some ⟨g9,(M)*5,none⟩)) rfl (by kernel_rfl) rfl eY (λW hW=>by go_simp) hH ?_;refine fw 8 (.int .i64 o.node) rfl (by kernel_rfl) rfl eY (λW hW=>?_) hH ?_
     ·obtain⟨z0,z1,z2,z3⟩:=hW;go_simp
     refine fw 9 (.pointer (some ⟨bx,2,none⟩)) rfl (by kernel_rfl) rfl eY (λW hW=>by go_simp) hH ?_;refine fw 10 (.int .i64 (x.from':Int)) rfl (by kernel_rfl) rfl eY (λW hW=>?_) hH ?_
     ·obtain⟨z0,z1,z2,z3⟩:=hW;go_simp
     refine fw 11 (.pointer (some ⟨bx,3,none⟩)) rfl (by kernel_rfl) rfl eY (λW hW=>by go_simp) hH ?_;refine fw 12 (.int .i64 (x.au:Int)) rfl (by kernel_rfl) rfl eY (λW hW=>?_) hH ?_
     ·obtain⟨z0,z1,z2,z3⟩:=hW;go_simp
     refine iD 13 (by kernel_rfl) rfl λK hK=>?_
     go_simp;refine HA.out.mono ?_;rintro e10 aG ⟨rfl,cr,ay,az⟩;obtain⟨aa,aj⟩:=ai.out.step ay az;have c0:aG.cell? ⟨c.pb,0,none⟩=some (RG c.rb):=aa.cell 0 _ rfl;have e10:=av.out.keep aj;have d2:=e10.c2;have d3:=e10.c3;obtain⟨g',cap',z1,-,z3,-,cn,-,-,y3,-⟩:=aa.top (o:=(⟨o.node,o.kind,o.fo,o.cur,false⟩:Ps.Op)) (r:=r) rfl;injection z1 with z1 ag ah
     clear ag ah;injection z1 with z1
     injection z1 with z1
     subst z1;have f3:=z3 ((M)*5+3);obtain⟨ae,af⟩:=aa.je (p':={s:=CR.1,doc:=p.doc,root:=p.root,st:=(⟨o.node,o.kind,o.fo,CR.2,false⟩:Ps.Op)::r,read:=p.read}) (T:=(⟨o.node,o.kind,o.fo,o.cur,false⟩:Ps.Op)) (T':=(⟨o.node,o.kind,o.fo,CR.2,false⟩:Ps.Op)) (SS:=r) 3 (.int .i64 CR.2) rfl rfl rfl (by decide) rfl rfl rfl rfl;rw[HM.out]at cn y3 ae af;obtain⟨bf,ak⟩:=eX (aG.setCell ⟨g9,(M)*5+3,none⟩ (.int .i64 CR.2));rw[ak]at ae af;have HD:=eu (HQ.out bf 0 _ (by unfold Ps.place;rw[HU.out];show(if o.fo=x.fo then _ else _)=_;rw[eT bA.out,eT (by rw[aS.out];exact bB.out)];unfold Ps.again;rw[aN.out,aQ.out]) ⟨_,_,_,ae,(aF.out.trans aj).trans af⟩);have aA:=eu ak;clear ay az aa aj ae af e10 z3 ak HA ai aF av r0 rn r2 r3;refine hK.out _ _ (λ_=>⟨c0,cn,d2,d3⟩) (λhH2=>?_);clear hK K;replace hH:=hH2 (by kernel_rfl);clear hH2;try simp only[Act.put,fF,fH,fG]
     refine fM 14 (.pointer (some ⟨g9,(M)*5,none⟩)) rfl (by kernel_rfl) rfl eY (λW=>by go_simp) (λ_=>hH) ?_;refine fw 15 (.pointer (some ⟨g9,(M)*5+3,none⟩)) rfl (by kernel_rfl) rfl eY (λW hW=>by go_simp) hH ?_;refine iD 16 (by kernel_rfl) rfl λK hK=>?_
     go_simp;refine hK.out _ _ (jg (by kernel_rfl)) (λ_=>?_);clear hK K;try simp only[Act.put,fF,fH,fG]
     rename_i bg;clear bg hH;refine fA (by kernel_rfl) ?_ _;go_upto_region 37 with fail
     rw[aA.out];clear aA c0 cn d2 d3 y3 f3;go_wp2_with fail
     first|exact HD.out|(go_ret;exact HD.out)
    have aD:x.dash=false:=by assumption
    have ai:=eu (bQ.out.below (fu _ w9).drew);have aF:=eu (bR.out.trans (TF.below (fu _ w9).drew));have av:=eu (aZ.out.keep (TF.below (fu _ w9).drew));have r0:w9.drew.cell? ⟨c.pb,0,none⟩=some (RG c.rb):=ai.out.cell 0 _ rfl;have r2:=av.out.c2;have r3:=av.out.c3;obtain⟨g',cap',z1,-,-,-,rn,-,-,-,-⟩:=ai.out.top (o:=(⟨o.node,o.kind,o.fo,o.cur,false⟩:Ps.Op)) (r:=r) rfl;injection z1 with z1 ag ah
    clear ag ah;injection z1 with z1
    injection z1 with z1
    subst z1;rw[HM.out]at rn;have HA:=eu (show Calls prog 87 #[RG c.rb,.int .i64 o.node,.int .i64 x.from',.int .i64 x.au] w9.drew (fU w0 w9.drew c.rb c.tv e c.l _ (.int .i64 CR.2) CR.1)from by rw[<-aQ.out,aN.out];exact yD ai.out.gs (bN.out.le (e':=x.from') (b':=(x.from':Int)) (by omega) (by omega)) hlt hle (by have h2:=HN.out;omega) aD);clear aD;refine fB (λwx=>wx.cell? ⟨c.pb,0,none⟩=some (RG c.rb)/\wx.cell? ⟨g9,(M)*5,none⟩=some (.int .i64 o.node)/\wx.cell? ⟨bx,2,none⟩=some (.int .i64 x.from')/\wx.cell? ⟨bx,3,none⟩=some (.int .i64 x.au)) 16 (by kernel_rfl) ?_;have hH:(λwx:World=>wx.cell? ⟨c.pb,0,none⟩=some (RG c.rb)/\wx.cell? ⟨g9,(M)*5,none⟩=some (.int .i64 o.node)/\wx.cell? ⟨bx,2,none⟩=some (.int .i64 x.from')/\wx.cell? ⟨bx,3,none⟩=some (.int .i64 x.au)) w9.drew:=⟨r0,rn,r2,r3⟩
    refine fw 0 (.pointer (some ⟨g9,(M)*5,none⟩)) rfl (by kernel_rfl) rfl eY (λW hW=>by go_simp) hH ?_;refine fw 1 (RG c.pb) rfl (by kernel_rfl) rfl eY (λW hW=>by go_simp) hH ?_;refine fw 2 (.pointer (some ⟨c.pb,0,none⟩)) rfl (by kernel_rfl) rfl eY (λW hW=>by go_simp) hH ?_;refine fw 3 (.pointer (some ⟨c.pb,0,none⟩)) rfl (by kernel_rfl) rfl eY (λW hW=>by go_simp) hH ?_;refine fw 4 (RG c.rb) rfl (by kernel_rfl) rfl eY (λW hW=>?_) hH ?_
    ·obtain⟨z0,z1,z2,z3⟩:=hW;go_simp
    refine fw 5 (.pointer (some ⟨g9,(M)*5,none⟩)) rfl (by kernel_rfl) rfl eY (λW hW=>by go_simp) hH ?_;refine fw 6 (.pointer (some ⟨g9,(M)*5,none⟩)) rfl (by kernel_rfl) rfl eY (λW hW=>by go_simp) hH ?_;refine fw 7 (.pointer (some ⟨g9,(M)*5,none⟩)) rfl (by kernel_rfl) rfl eY (λW hW=>by go_simp) hH ?_;refine fw 8 (.int .i64 o.node) rfl (by kernel_rfl) rfl eY (λW hW=>?_) hH ?_
    ·obtain⟨z0,z1,z2,z3⟩:=hW;go_simp
    refine fw 9 (.pointer (some ⟨bx,2,none⟩)) rfl (by kernel_rfl) rfl eY (λW hW=>by go_simp) hH ?_;refine fw 10 (.int .i64 (x.from':Int)) rfl (by kernel_rfl) rfl eY (λW hW=>?_) hH ?_
    ·obtain⟨z0,z1,z2,z3⟩:=hW;go_simp
    refine fw 11 (.pointer (some ⟨bx,3,none⟩)) rfl (by kernel_rfl) rfl eY (λW hW=>by go_simp) hH ?_;refine fw 12 (.int .i64 (x.au:Int)) rfl (by kernel_rfl) rfl eY (λW hW=>?_) hH ?_
    ·obtain⟨z0,z1,z2,z3⟩:=hW;go_simp
    refine iD 13 (by kernel_rfl) rfl λK hK=>?_
    go_simp;refine HA.out.mono ?_;rintro e10 aG ⟨rfl,cr,ay,az⟩;obtain⟨aa,aj⟩:=ai.out.step ay az;have c0:aG.cell? ⟨c.pb,0,none⟩=some (RG c.rb):=aa.cell 0 _ rfl;have e10:=av.out.keep aj;have d2:=e10.c2;have d3:=e10.c3;obtain⟨g',cap',z1,-,z3,-,cn,-,-,y3,-⟩:=aa.top (o:=(⟨o.node,o.kind,o.fo,o.cur,false⟩:Ps.Op)) (r:=r) rfl;injection z1 with z1 ag ah
    clear ag ah;injection z1 with z1
    injection z1 with z1
    subst z1;have f3:=z3 ((M)*5+3);obtain⟨ae,af⟩:=aa.je (p':={s:=CR.1,doc:=p.doc,root:=p.root,st:=(⟨o.node,o.kind,o.fo,CR.2,false⟩:Ps.Op)::r,read:=p.read}) (T:=(⟨o.node,o.kind,o.fo,o.cur,false⟩:Ps.Op)) (T':=(⟨o.node,o.kind,o.fo,CR.2,false⟩:Ps.Op)) (SS:=r) 3 (.int .i64 CR.2) rfl rfl rfl (by decide) rfl rfl rfl rfl;rw[HM.out]at cn y3 ae af;obtain⟨bf,ak⟩:=eX (aG.setCell ⟨g9,(M)*5+3,none⟩ (.int .i64 CR.2));rw[ak]at ae af;have HD:=eu (HQ.out bf 0 _ (by unfold Ps.place;rw[HU.out];show(if o.fo=x.fo then _ else _)=_;rw[eT bA.out,eT (by rw[aS.out];exact bB.out)];unfold Ps.again;rw[aN.out,aQ.out]) ⟨_,_,_,ae,(aF.out.trans aj).trans af⟩);have aA:=eu ak;clear ay az aa aj ae af e10 z3 ak HA ai aF av r0 rn r2 r3;refine hK.out _ _ (λ_=>⟨c0,cn,d2,d3⟩) (λhH2=>?_);clear hK K;replace hH:=hH2 (by kernel_rfl);clear hH2;try simp only[Act.put,fF,fH,fG]
    refine fM 14 (.pointer (some ⟨g9,(M)*5,none⟩)) rfl (by kernel_rfl) rfl eY (λW=>by go_simp) (λ_=>hH) ?_;refine fw 15 (.pointer (some ⟨g9,(M)*5+3,none⟩)) rfl (by kernel_rfl) rfl eY (λW hW=>by go_simp) hH ?_;refine iD 16 (by kernel_rfl) rfl λK hK=>?_
    go_simp;refine hK.out _ _ (jg (by kernel_rfl)) (λ_=>?_);clear hK K;try simp only[Act.put,fF,fH,fG]
    rename_i bg;clear bg hH;refine fA (by kernel_rfl) ?_ _;go_upto_region 37 with fail
    rw[aA.out];clear aA c0 cn d2 d3 y3 f3;go_wp2_with fail
    first|exact HD.out|(go_ret;exact HD.out)
end
end Go.Proofs.YtfbiffdmhcjhbaaGreat

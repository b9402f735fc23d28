import Derived.Test.YtfbiffdmhcjhbaaZa23
set_option linter.all false
set_option maxHeartbeats 16000000
set_option maxRecDepth 100000
set_option synthInstance.maxSize 4000
set_option synthInstance.maxHeartbeats 0
namespace Go.Proofs.Ytfbiffdmhcjhbaa
open Go.RowKit Try
section
open Go.RowKit
open Sq
open Ar
open Fl (Tk raw p9 oW cnt back nD nM)
theorem TA(w0 w:World)(c:Cx)(e:Nat)(p:Ps.PS)(sv:Value)(R:Nat->Prop)(r:Rw.R)(a b:Nat)(B:Ps.Bs)(h:PG w0 w c e p sv R)(hrs:c.rs=Rw.mQ c.l)(hO:Ps.zh c.l B a p)(hB:B.1<=a)(hab:a<b)(hb:b<=c.l.length)(hdp:p.st.length<=c.depth)(aD:c.depth<=50)(hcs:p.st.dropWhile (λo=>decide (r.mE<=o.mE))=[])
 (hn:p.s.t.length<=450000000000) (hd:p.s.d.length<=450000000000):
 Calls prog 69 #[RG c.pb,.agg #[.int .i64 r.kind,.int .i64 r.from',.int .i64 r.au,.int .i64 r.mE],.int .i64 a,.int .i64 b] w (oQ w0 w c (.tuple #[]) (Ps.bare c.l c.rs c.depth p r a b)):=by
 obtain⟨d,hdd,hc,hh⟩:=hO;obtain⟨mh,aF,ax⟩:=hh.hold;have ag:Ps.holder p=(mh:Int):=by rw[Ps.sS,hdd];exact aF
 obtain⟨hc',hh'⟩:=Ps.qN.drop (λo=>decide (r.mE<=o.mE)) hc hh;have hls:=h.toks.2.2.2;obtain⟨-,m2⟩:=Fe.qF (code:=7) ax (f:=a) (t:=b) (by omega) hab (by omega) (by omega) hB (by omega) (by omega);have aZ:=eu (λW R' (hW:GS w0 W c.rb c.tv e c.l p.s R')=>show∃v,Calls prog 43 #[RG c.rb,.int .i64 (Ps.holder p),.int .i64 a,.int .i64 b,.int .i64 7] W (nE w0 W c.rb c.tv e c.l R' (.int .i64 v) (Fl.err c.l p.s (Ps.holder p) a b 7))from by rw[ag];exact BR w0 W c.rb c.tv e c.l p.s R' mh a b 7 hW (qp.of ax.ck (by omega)) (rY m2) hab (by omega) (by omega));have bf:=eu (λW sv' R' (hW:PG w0 W c e p sv' R')=>BB w0 W c e p sv' R' hW (by omega));obtain⟨w1,hw1⟩:=my (w.alloc (.cells #[.int .i64 r.kind,.int .i64 r.from',.int .i64 r.au,.int .i64 r.mE] 63));have hb1:Below w.heap.size w w1:=hw1▸(mF _ w).alloc (mJ _) _;have hX1:RB w1 w.heap.size r.kind r.from' r.au r.mE:=hw1▸RB.new w _ _ _ _;have hP1:=h.below hb1;have hT1:=TF.below hb1;obtain⟨bx,hbx⟩:=my (w.heap.size);rw[hbx]at hX1;obtain⟨sa,sc,hsv⟩:=(Reads.mW (E:=oJ) h.tZ).shape;rw[pE]at hsv;obtain⟨SL,ai⟩:=my (p.st.length);have aG:=eu ai;rw[ai]at hsv hdp;obtain⟨Q,hQ⟩:=my (oQ w0 w c (.tuple #[]) (Ps.bare c.l c.rs c.depth p r a b));have HQ:=eu (λW p' (hz:Ps.bare c.l c.rs c.depth p r a b=p')(h:∃e sv R,PG w0 W c e p' sv R/\TF w W)=>show Q (.returned (.tuple #[])) W from by rw[<-hQ,hz];exact⟨rfl,h⟩);rw[hQ]
 have ay:=eu (λW (hb:Below w1.heap.size w1 W)=>show W.cell? ⟨c.pb,0,none⟩=some (RG c.rb)/\W.cell? ⟨c.pb,3,none⟩=some (.bool p.root)/\W.cell? ⟨c.pb,4,none⟩=some (.slice sa SL sc)/\W.cell? ⟨bx,3,none⟩=some (.int .i64 r.mE)from
  ⟨(hP1.below hb).cell 0 _ rfl,(hP1.below hb).cell 3 _ rfl,by rw[<-hsv];exact(hP1.below hb).cell 4 _ rfl,(hX1.keep (TF.below hb)).c3⟩)
 have bg:=eu (λW (hb:Below w1.heap.size w1 W) pre o r (hs:p.st=pre++o::r)=>show∃g,sa=some ⟨g,0,none⟩/\r.length<SL/\
  W.cell? ⟨g,r.length*5+2,none⟩=some (.int .i64 o.mE)/\W.cell? ⟨g,r.length*5+4,none⟩=some (.bool o.has)from by
  obtain⟨g,cap,g1,-,-,-,-,-,g3,-,g4⟩:=(hP1.below hb).nth hs;rw[hsv]at g1;injection g1 with g1
  exact⟨g,g1,by rw[<-ai,hs];simp;omega,g3,g4⟩)
 have bn:=eu (λW e' sv' R' (p':Ps.PS)(hW:PG w0 W c e' p' sv' R')(k:Nat)(hs:p'.s=p.s)(hl:p'.st.length<=c.depth)(hok:Ps.OK c.l B k a p.s)=>BC w0 W c e' p' sv' R' k a a B hW hrs (by rw[hs];exact hok) (mJ _) hB (by omega) hl aD (by rw[hs];omega) (by rw[hs];omega));obtain⟨HP,HT,HW1,HC,HH,bq⟩:=qW hP1 hT1 hw1 hc' hh' hdd;obtain⟨bz,bA⟩:=mR hsv hcs;have k4:=(ay.out w1 (mF _ w1)).2.2.1;have hsl:SL<=50:=by omega
 have bI:a<=100000:=by omega
 have hb5:b<=100000:=by omega
 have bJ:=eu hdp;clear hcs hQ h hP1 hX1 hT1 hw1 hc' hh' hc hh hdd hsv ai hn hd hb1 ag aF ax m2 hdp hls
 go_enter func69,ntmps69
 go_upto_region 1 with fail
 rw[HW1.out];go_wp2_with fail
 clear k4
 go_loopw [8] (λkv wr=>∃(k:Int)(pre u:List Ps.Op),kv=.int .i64 k/\k=(u.length:Int)-1/\Hid (p.st=pre++u)/\Hid (∀o∈pre,r.mE<=o.mE)/\Hid (Below w1.heap.size w1 wr)) (λkv _=>(intOf kv+1).toNat)
 case atStart=>exact⟨_,[],p.st,rfl,by rw[aG.out],eu rfl,eu (λo ho=>by cases ho),eu (mF _ _)⟩
 case round=>
  obtain⟨k,pre,u,rfl,hk,HS,aj,HB⟩:=hrel;obtain⟨q0,q3,q4,q1⟩:=ay.out wr HB.out;cases u with
  |nil=>
   obtain rfl:k=-1:=by rw[hk];rfl
   clear hk
   have HU:=eu (show p.st.dropWhile (λo=>decide (r.mE<=o.mE))=[]from by
    rw[HS.out,xO (λo ho=>oP (aj.out o ho))];rfl)
   go_wp2_with fail
   go_big_quiet (fail)
   have HB:=eu (HB.out.trans ((nG (mF _ wr) nq).mono HB.out.size));clear q0 q3 q4 q1;obtain⟨aa,hW⟩:∃W2,wr.drewN nq=W2:=⟨_,rfl⟩
   rw[hW]at HB⊢;clear hW;obtain⟨q0,q3,q4,q1⟩:=ay.out aa HB.out;cases hro:p.root with
   |true=>
    rw[hro]at q3;go_upto_region 5 with fail
    have ak:=eu ((HP.out.below HB.out).below (mF _ aa).drew);have aH:=eu (HT.out.trans (TF.below (HB.out.trans ((mF _ aa).drew.mono HB.out.size))));have r0:aa.drew.cell? ⟨c.pb,0,none⟩=some (RG c.rb):=ak.out.cell 0 _ rfl;clear q0 q3 q4 q1;refine mK (λwx=>wx.cell? ⟨c.pb,0,none⟩=some (RG c.rb)) 8 (by kernel_rfl) ?_;have hH:(λwx:World=>wx.cell? ⟨c.pb,0,none⟩=some (RG c.rb)) aa.drew:=r0;refine nA 0 (RG c.pb) rfl (by kernel_rfl) rfl mD (λW=>by go_simp) (λ_=>hH) ?_;refine nA 1 (.pointer (some ⟨c.pb,0,none⟩)) rfl (by kernel_rfl) rfl mD (λW=>by go_simp) (λ_=>hH) ?_;refine nA 2 (.pointer (some ⟨c.pb,0,none⟩)) rfl (by kernel_rfl) rfl mD (λW=>by go_simp) (λ_=>hH) ?_;refine mI 3 (RG c.rb) rfl (by kernel_rfl) rfl mD (λW hW=>by go_simp) hH ?_;refine nA 4 (RG c.pb) rfl (by kernel_rfl) rfl mD (λW=>by go_simp) (λ_=>hH) ?_;refine mI 6 (.int .i64 (a:Int)) rfl (by kernel_rfl) rfl mD (λW hW=>by go_simp) hH ?_;refine mI 7 (.int .i64 (b:Int)) rfl (by kernel_rfl) rfl mD (λW hW=>by go_simp) hH ?_;refine oD 5 (by kernel_rfl) rfl λK hK=>?_
    go_simp;refine(bf.out aa.drew _ _ ak.out).mono ?_;rintro e5 w5 ⟨rfl,hb5⟩;have av:=eu (ak.out.below hb5);have aI:=eu (aH.out.trans (TF.below hb5));have r5:w5.cell? ⟨c.pb,0,none⟩=some (RG c.rb):=av.out.cell 0 _ rfl;obtain⟨ve,aJ⟩:=aZ.out w5 _ av.out.gs;have aK:=eu aJ;clear hb5 aJ ak aH r0;refine hK.out _ _ (λ_=>r5) (λhH2=>?_);clear hK K;replace hH:=hH2 (by kernel_rfl);clear hH2;try simp only[Act.put,mM,mP,mO]
    refine oD 8 (by kernel_rfl) rfl λK hK=>?_
    go_simp;refine aK.out.mono ?_;rintro e6 w6 ⟨rfl,R6,aL,aM⟩;obtain⟨ae,ah⟩:=av.out.step aL aM;have HD:=eu (HQ.out w6 _ (by unfold Ps.bare;rw[HU.out];show(if p.root=true then _ else _)=_;rw[gu hro]) ⟨_,_,_,ae,aI.out.trans ah⟩);clear aL aM ae ah r5 av aI aK;refine hK.out _ _ (pV (by kernel_rfl)) (λ_=>?_);clear hK K;try simp only[Act.put,mM,mP,mO]
    refine mH (by kernel_rfl) ?_ _;go_wp2_with fail
    first|exact HD.out|(go_end0;exact HD.out)|(go_ret;exact HD.out)
   |false=>
    rw[hro]at q3;have bB:=eu hro;clear hro;go_upto_region 6 with fail
    obtain⟨a',cap',z1,z2,z3,z4⟩:=(HP.out.below HB.out).pfxq (pre:=p.st) (U:=[]) (rD _).symm;rw[bz.out]at z1;injection z1 with z1 bC bD
    subst z1 bD;rw[aG.out]at z2;have az:=eu (z4.below (mr aa (.cells #[] 112)));have aN:=eu (rG (e:=112) oJ aa);have af:=eu (mr aa (.cells #[] 112));have bE:=oG (o:=.cells #[] 112) q4;have bF:([]:List Ps.Op).reverse.length<=100000:=by rw[pE];decide
    have aO:=eu (show([]:List Ps.Op).length+([]:List Ps.Op).reverse.length<=maxLen by simp only[maxLen,sH];omega);have aP:=eu (show(([]:List Ps.Op).length+([]:List Ps.Op).reverse.length)*40<=140737488355328 by simp only[sH];omega);have hm:([]:List Ps.Op).length=0:=rfl;rw[hm]at az;have bG:=eu (show([]:List Ps.Op).reverse.length=0 from by rw[pE];exact hm);have aA:=eu (HP.out.below HB.out);have aQ:=eu (HT.out.trans (TF.below HB.out));have aR:=eu (show w0.heap.size<=aa.heap.size from aA.out.qK.size);clear bF bC z3 z4 hm HB HP HT q0 q3 q4 q1;go_upto_region 7 with(at_builtin;go_must (refine oH Lx rfl (.tmp 64) (.tmp 71) rfl aa.heap.size _ ([]:List Ps.Op) rfl aN.out _ ([]:List Ps.Op).reverse rfl az.out aO.out aP.out af.out.size ?_;intro kv w2 hown2 hg2 aS;rw[zU]at hown2;obtain⟨ka,kc,aT⟩:=(Reads.mW (E:=oJ) hown2).shape;rw[bG.out]at aT;subst aT;have hP2:=aA.out.below (af.out.grown hg2 af.out.size (λq hq=>rR (qJ hq)));have HT2:=eu (aQ.out.trans (TF.below (af.out.grown hg2 af.out.size (λq hq=>rR (qJ hq)))));have u4:=hP2.cell 4 _ rfl;have f4:=hP2.free 4;have aU:=eu (oU hown2 aR.out);have aV:=eu hP2;clear hown2 hg2 aS hP2))
    clear aA aQ aR aN af az aO aP bE z2;obtain⟨hP3,aB⟩:=aV.out.tC (p':={p with st:=([]:List Ps.Op)}) (sv':=.slice ka (0) kc) rfl rfl rfl rfl aU.out;obtain⟨w3,hw3⟩:=my (w2.setCell ⟨c.pb,4,none⟩ (.slice ka (0) kc));rw[hw3]at hP3 aB;obtain⟨HT3,aC,HW3⟩:=nY (HT2.out.trans aB) hP3 hw3;clear hP3 aB hw3 aV HT2 aU;rw[HW3.out];clear HW3 u4 f4;have u2:w3.cell? ⟨c.pb,2,none⟩=some (.int .i64 p.doc):=aC.out.cell 2 _ rfl;have hh:=HH.out;rw[HU.out]at hh;obtain⟨mm,e1,e2⟩:=hh;obtain rfl:mm=d:=by omega
    have hv:=bn.out w3 _ _ _ {p with st:=([]:List Ps.Op)} aC.out mm rfl (nO _) e2;clear e1 e2;have hvk:∀k:Int,k=(mm:Int)->Calls prog 66 #[RG c.pb,.int .i64 k,.int .i64 a] w3 (uE w0 w3 c (.slice ka 0 kc) (.bool (Ps.value c.l c.rs c.depth {p with st:=([]:List Ps.Op)} k a).2) (Ps.value c.l c.rs c.depth {p with st:=([]:List Ps.Op)} k a).1):=by rintro _ rfl;exact hv
    replace hv:=hvk p.doc bq.out;clear hvk;obtain⟨V,hV⟩:=my (Ps.value c.l c.rs c.depth {p with st:=([]:List Ps.Op)} p.doc a);rw[hV]at hv;obtain⟨HV,bH⟩:=mR hv hV;clear hv hV aC;go_wp2_with fail
    refine HV.out.mono ?_;rintro e5 w5 ⟨rfl,e6,R6,ae,ah⟩;have d3:=ae.cell 3 _ rfl;have f3:=ae.free 3;obtain⟨aW,aX⟩:=ae.toCell (p':={V.1 with root:=V.2}) (i:=3) (u:=.bool V.2) rfl rfl rfl;have HD:=eu (HQ.out _ _ (by unfold Ps.bare;rw[HU.out];show(if p.root=true then _ else _)=_;rw[fu (by rw[bB.out];decide),bH.out]) ⟨_,_,_,aW,(HT3.out.trans ah).trans aX⟩);clear ae ah aW aX HV HT3 u2;go_wp2_with fail
    first|exact HD.out|(go_end0;exact HD.out)|(go_ret;exact HD.out)
  |cons o q=>
   obtain rfl:k=(q.length:Int):=by rw[hk,nI];omega
   clear hk;obtain⟨g,rfl,hrl,y2,y4⟩:=bg.out wr HB.out pre o q HS.out;obtain⟨M,hM⟩:=my (q.length);have HM:=eu hM;rw[hM]at hrl y2 y4⊢;clear hM;by_cases hcl:r.mE<=o.mE
   ·have gg:o.mE>=r.mE:=hcl;have gk:(M:Int)<(SL:Int):=by omega
    go_wp2_with fail
    go_big_quiet (fail)
    have HB2:=eu (HB.out.trans ((nG (mF _ wr) nq).mono HB.out.size));have HS2:=eu (show p.st=(pre++[o])++q by rw[HS.out];simp)
    have aY:=eu (show∀y∈pre++[o],r.mE<=y.mE from λy hy=>by
     rcases rQ.1 hy with h|h
     ·exact aj.out y h
     obtain rfl:y=o:=by simpa using h
     exact hcl)
    clear q0 q3 q4 q1 y2 y4 gg HB HS aj hcl;go_wp2_with fail
    go_roundw
    case rel=>exact⟨_,pre++[o],q,by go_num,by rw[HM.out],HS2,aY,HB2⟩
    case measure=>simp[intOf];try omega
   have hu:p.st.dropWhile (λo=>decide (r.mE<=o.mE))=o::q:=by
    rw[HS.out,xO (λo ho=>oP (aj.out o ho)),Dy,fu (by simpa using hcl)]
   rw[bA.out]at hu;cases hu
end
section
open Go.RowKit
open Sq
open Ar
open Fl (Tk raw p9 oW cnt back nD nM)
theorem Qr(w0 w:World)(c:Cx)(e:Nat)(p:Ps.PS)(sv:Value)(R:Nat->Prop)(x:Rw.E)(e0:Nat)(B:Ps.Bs)(h:PG w0 w c e p sv R)(hO:Ps.zh c.l B e0 p)(hB:B.1<=x.from')(he:e0<=x.from')(hlt:x.from'<x.au)(hle:x.au<=c.l.length)(hd1:1<=c.depth)(ed:c.depth<=50)(hst:p.st.length<=100000)(hcs:(p.st.dropWhile (λo=>decide (x.mE<o.mE))≠[])/\(∀o r,p.st.dropWhile (λo=>decide (x.mE<o.mE))=o::r->¬o.mE=x.mE/\r=[]))
 (hn:p.s.t.length<=600000000000):
 Calls prog 70 #[RG c.pb,.agg #[.bool x.dash,.int .i64 x.mE,.int .i64 x.from',.int .i64 x.au]] w (oQ w0 w c (.int .i64 (Ps.place c.l c.depth p x).1) (Ps.place c.l c.depth p x).2):=by
 obtain⟨d,hdd,hc,hh⟩:=hO;obtain⟨hc',hh'⟩:=Ps.qN.drop (λo=>decide (x.mE<o.mE)) hc hh;have hls:=h.toks.2.2.2;obtain⟨w1,hw1⟩:=my (w.alloc (.cells #[.bool x.dash,.int .i64 x.mE,.int .i64 x.from',.int .i64 x.au] 110));have hb1:Below w.heap.size w w1:=hw1▸(mF _ w).alloc (mJ _) _;have hX1:EB w1 w.heap.size x:=hw1▸EB.new w _;have hP1:=h.below hb1;have hT1:=TF.below hb1;obtain⟨bx,hbx⟩:=my (w.heap.size);rw[hbx]at hX1;obtain⟨sa,sc,hsv⟩:=(Reads.mW (E:=oJ) h.tZ).shape;rw[pE]at hsv;obtain⟨SL,aU⟩:=my (p.st.length);have bS:=eu aU;rw[aU]at hsv hst;obtain⟨Kd,aM⟩:=my (Ps.kindOf x);obtain⟨Q,hQ⟩:=my (oQ w0 w c (.int .i64 (Ps.place c.l c.depth p x).1) (Ps.place c.l c.depth p x).2);have HQ:=eu (λW z p' (hz:Ps.place c.l c.depth p x=(z,p'))(h:∃e sv R,PG w0 W c e p' sv R/\TF w W)=>show Q (.returned (.int .i64 (z:Nat))) W from by rw[<-hQ,hz];exact⟨rfl,h⟩);rw[hQ]
 have aF:=eu (λW (hb:Below w1.heap.size w1 W)=>show W.cell? ⟨c.pb,0,none⟩=some (RG c.rb)/\W.cell? ⟨c.pb,3,none⟩=some (.bool p.root)/\W.cell? ⟨c.pb,4,none⟩=some (.slice sa SL sc)/\W.cell? ⟨c.pb,5,none⟩=some (.int .i64 (c.depth:Int))/\W.cell? ⟨bx,1,none⟩=some (.int .i64 x.mE)from
  ⟨(hP1.below hb).cell 0 _ rfl,(hP1.below hb).cell 3 _ rfl,by rw[<-hsv];exact(hP1.below hb).cell 4 _ rfl,(hP1.below hb).cell 5 _ rfl,(hX1.keep (TF.below hb)).c1⟩)
 have aH:=eu (λW (hb:Below w1.heap.size w1 W) pre o r (hs:p.st=pre++o::r)=>show∃g,sa=some ⟨g,0,none⟩/\r.length<SL/\
  W.cell? ⟨g,r.length*5+1,none⟩=some (.int .i64 o.kind)/\W.cell? ⟨g,r.length*5+2,none⟩=some (.int .i64 o.mE)/\W.cell? ⟨g,r.length*5+4,none⟩=some (.bool o.has)from by
  obtain⟨g,cap,g1,-,-,-,-,g2,g3,-,g4⟩:=(hP1.below hb).nth hs;rw[hsv]at g1;injection g1 with g1
  exact⟨g,g1,by rw[<-aU,hs];simp;omega,g2,g3,g4⟩)
 obtain⟨HP,HX,HT,HW1,bF,HC⟩:=qW hP1 hX1 hT1 hw1 aM hc';obtain⟨HH,eB,dR,HN,dS,dU⟩:=qW hh' hdd hsv hn hcs.1 hcs.2;have bT:=hX1.c0;have k4:=(aF.out w1 (mF _ w1)).2.2.1;clear hcs hQ h hP1 hX1 hT1 hw1 hc' hh' hc hh hdd hsv aU hn hb1
 go_enter func70,ntmps70
 go_upto_region 1 with fail
 rw[HW1.out]
 go_upto_if 11 with(fail)
 go_cut [5] (λv wx=>v=.int .i64 (Kd:Nat)/\w1=wx)
 case first=>
  have e3:x.dash=true->Kd=3:=λhx=>by rw[<-aM];unfold Ps.kindOf;rw[gu hx]
  have e5:x.dash=false->Kd=5:=λhx=>by rw[<-aM];unfold Ps.kindOf;rw[fu (by rw[hx];decide)]
  obtain⟨H3,H5⟩:=mR e3 e5;clear e3 e5 aM bT;go_wp2_with fail
  all_goals go_meet
  case rel=>exact⟨by rw[H3.out (by assumption)];rfl,rfl⟩
  case rel=>exact⟨by rw[H5.out (by assumption)];rfl,rfl⟩
 case rest=>
  obtain⟨rfl,rfl⟩:=hcut;clear bT aM;go_wp2_with fail
  clear k4
  go_loopw [6] (λkv wr=>∃(k:Int)(pre u:List Ps.Op),kv=.int .i64 k/\k=(u.length:Int)-1/\Hid (p.st=pre++u)/\Hid (∀o∈pre,x.mE<o.mE)/\Hid (Below w1.heap.size w1 wr)) (λkv _=>(intOf kv+1).toNat)
  case atStart=>exact⟨_,[],p.st,rfl,by rw[bS.out],eu rfl,eu (λo ho=>by cases ho),eu (mF _ _)⟩
  case round=>
   obtain⟨k,pre,u,rfl,hk,HS,aV,HB⟩:=hrel;obtain⟨q0,q3,q4,q5,q1⟩:=aF.out wr HB.out;cases u with
   |nil=>
    obtain rfl:k=-1:=by rw[hk];rfl
    clear hk
    have HU:=eu (show p.st.dropWhile (λo=>decide (x.mE<o.mE))=[]from by
     rw[HS.out,xO (λo ho=>oP (aV.out o ho))];rfl)
    exact absurd HU.out dS.out
   |cons o r=>
    obtain rfl:k=(r.length:Int):=by rw[hk,nI];omega
    clear hk;obtain⟨g,rfl,hrl,y1,y2,y4⟩:=aH.out wr HB.out pre o r HS.out;obtain⟨M,hM⟩:=my (r.length);have HM:=eu hM;rw[hM]at hrl y1 y2 y4⊢;clear hM;by_cases hcl:x.mE<o.mE
    ·have gg:o.mE>x.mE:=hcl;have gk:(M:Int)<(SL:Int):=by omega
     go_wp2_with fail
     go_big_quiet (fail)
     have HB2:=eu (HB.out.trans ((nG (mF _ wr) nq).mono HB.out.size));have HS2:=eu (show p.st=(pre++[o])++r by rw[HS.out];simp)
     have bU:=eu (show∀y∈pre++[o],x.mE<y.mE from λy hy=>by
      rcases rQ.1 hy with h|h
      ·exact aV.out y h
      obtain rfl:y=o:=by simpa using h
      exact hcl)
     clear q0 q3 q4 q5 q1 y1 y2 y4 gg HB HS aV hcl;go_wp2_with fail
     go_roundw
     case rel=>exact⟨_,pre++[o],r,by go_num,by rw[HM.out],HS2,bU,HB2⟩
     case measure=>simp[intOf];try omega
    have HU:=eu (show p.st.dropWhile (λo=>decide (x.mE<o.mE))=o::r from by
     rw[HS.out,xO (λo ho=>oP (aV.out o ho)),Dy,fu (by simpa using hcl)])
    have gg:decide (o.mE>x.mE)=false:=nK hcl;have gk:(M:Int)<(SL:Int):=by omega
    go_wp2_with fail
    go_big_quiet (fail)
    have HB:=eu (HB.out.trans ((nG (mF _ wr) nq).mono HB.out.size));clear q0 q3 q4 q5 q1 y1 y2 y4;obtain⟨aW,hW⟩:∃W2,wr.drewN nq=W2:=⟨_,rfl⟩
    rw[hW]at HB⊢;clear hW;obtain⟨q0,q3,q4,q5,q1⟩:=aF.out aW HB.out;obtain⟨g',hg',-,y1,y2,y4⟩:=aH.out aW HB.out pre o _ HS.out;obtain rfl:g=g':=by injection hg' with hg';injection hg'
    clear hg';rw[HM.out]at y1 y2 y4;clear gg;have hcs:=dU.out o r HU.out;obtain⟨bG,hcs2⟩:=hcs;have gc:(o.mE==x.mE)=false:=by simp[bG]
    have aX:=eu bG;clear bG hcl;go_upto_region 8 with fail
    go_big_quiet (fail)
    have HB:=eu (HB.out.trans ((nG (mF _ aW) nq).mono HB.out.size));clear q0 q3 q4 q5 q1 y1 y2 y4;obtain⟨wq2,hW⟩:∃W2,aW.drewN nq=W2:=⟨_,rfl⟩
    rw[hW]at HB⊢;clear hW;obtain⟨q0,q3,q4,q5,q1⟩:=aF.out wq2 HB.out;obtain⟨g',hg',-,y1,y2,y4⟩:=aH.out wq2 HB.out pre o _ HS.out;obtain rfl:g=g':=by injection hg' with hg';injection hg'
    clear hg';rw[HM.out]at y1 y2 y4;go_upto_region 10 with fail
    go_big_quiet (fail)
    have HB:=eu (HB.out.trans ((nG (mF _ wq2) nq).mono HB.out.size));clear q0 q3 q4 q5 q1 y1 y2 y4;obtain⟨aY,hW⟩:∃W2,wq2.drewN nq=W2:=⟨_,rfl⟩
    rw[hW]at HB⊢;clear hW;obtain⟨q0,q3,q4,q5,q1⟩:=aF.out aY HB.out;obtain⟨g',hg',-,y1,y2,y4⟩:=aH.out aY HB.out pre o _ HS.out;obtain rfl:g=g':=by injection hg' with hg';injection hg'
    clear hg';rw[HM.out]at y1 y2 y4;obtain rfl:M=0:=by rw[<-HM.out,hcs2];rfl
    clear hcs2;go_upto_region 13 with fail
    go_big_quiet (fail)
    have HB:=eu (HB.out.trans ((nG (mF _ aY) nq).mono HB.out.size));clear q0 q3 q4 q5 q1 y1 y2 y4;obtain⟨aZ,hW⟩:∃W2,aY.drewN nq=W2:=⟨_,rfl⟩
    rw[hW]at HB⊢;clear hW;obtain⟨q0,q3,q4,q5,q1⟩:=aF.out aZ HB.out;obtain⟨g',hg',-,y1,y2,y4⟩:=aH.out aZ HB.out pre o _ HS.out;obtain rfl:g=g':=by injection hg' with hg';injection hg'
    clear hg';rw[HM.out]at y1 y2 y4;go_upto_region 16 with fail
    go_big_quiet (fail)
    have HB:=eu (HB.out.trans ((nG (mF _ aZ) nq).mono HB.out.size));clear q0 q3 q4 q5 q1 y1 y2 y4;obtain⟨ay,hW⟩:∃W2,aZ.drewN nq=W2:=⟨_,rfl⟩
    rw[hW]at HB⊢;clear hW;obtain⟨q0,q3,q4,q5,q1⟩:=aF.out ay HB.out;obtain⟨g',hg',-,y1,y2,y4⟩:=aH.out ay HB.out pre o _ HS.out;obtain rfl:g=g':=by injection hg' with hg';injection hg'
    clear hg';rw[HM.out]at y1 y2 y4;cases aI:o.has with
    |true=>
     rw[aI]at y4;have HD:=eu (HQ.out ay 6 p (by unfold Ps.place;rw[HU.out];show(if o.mE=x.mE then _ else _)=_;rw[fu aX.out];rw[gu aI]) ⟨_,_,_,HP.out.below HB.out,HT.out.trans (TF.below HB.out)⟩);go_wp2_with fail
     first|exact HD.out|(go_ret;exact HD.out)
    |false=>
     rw[aI]at y4;by_cases hdp:c.depth<2
     ·have bV:(2:Int)>(c.depth:Int):=by omega
      have HD:=eu (HQ.out ay 10 p (by unfold Ps.place;rw[HU.out];show(if o.mE=x.mE then _ else _)=_;rw[fu aX.out];rw[fu (by rw[aI];decide)];unfold Ps.fresh;rw[gu (by rw[nI,HM.out];omega)]) ⟨_,_,_,HP.out.below HB.out,HT.out.trans (TF.below HB.out)⟩);go_wp2_with fail
      first|exact HD.out|(go_ret;exact HD.out)
     have bV:¬(2:Int)>(c.depth:Int):=by omega
     go_upto_region 24 with fail
     obtain⟨a',cap',z1,z2,z3,z4⟩:=(HP.out.below HB.out).pfxq (pre:=pre) (U:=o::r) HS.out;rw[dR.out]at z1;injection z1 with z1 ag ah
     subst z1 ah;rw[bS.out]at z2;have bH:=eu (z4.below (mr ay (.cells #[] 112)));have bW:=eu (rG (e:=112) oJ ay);have az:=eu (mr ay (.cells #[] 112));have dV:=oG (o:=.cells #[] 112) q4;have dW:(o::r:List Ps.Op).reverse.length<=100000:=by rw[pE];rw[nI,HM.out];omega
     have bX:=eu (show([]:List Ps.Op).length+(o::r:List Ps.Op).reverse.length<=maxLen by simp only[maxLen,sH];omega);have bY:=eu (show(([]:List Ps.Op).length+(o::r:List Ps.Op).reverse.length)*40<=140737488355328 by simp only[sH];omega);have hm:(o::r:List Ps.Op).length=1:=by rw[nI,HM.out]
     rw[hm]at bH;have ak:=eu (show(o::r:List Ps.Op).reverse.length=1 from by rw[pE];exact hm);have bI:=eu (HP.out.below HB.out);have HEq:=eu (HX.out.keep (TF.below HB.out));have bZ:=eu (HT.out.trans (TF.below HB.out));have cr:=eu (show w0.heap.size<=ay.heap.size from bI.out.qK.size);clear dW ag z3 z4 hm HB HP HT;go_upto_region 25 with(at_builtin;go_must (refine oH Lx rfl (.tmp 184) (.tmp 191) rfl ay.heap.size _ ([]:List Ps.Op) rfl bW.out _ (o::r:List Ps.Op).reverse rfl bH.out bX.out bY.out az.out.size ?_;intro kv w2 hown2 hg2 cz;rw[zU]at hown2;obtain⟨ka,kc,cB⟩:=(Reads.mW (E:=oJ) hown2).shape;rw[ak.out]at cB;subst cB;have hP2:=bI.out.below (az.out.grown hg2 az.out.size (λq hq=>rR (qJ hq)));have HT2:=eu (bZ.out.trans (TF.below (az.out.grown hg2 az.out.size (λq hq=>rR (qJ hq)))));have u4:=hP2.cell 4 _ rfl;have f4:=hP2.free 4;have cK:=eu (oU hown2 cr.out);have cO:=eu hP2;have HE2:=eu (HEq.out.keep (TF.below (az.out.grown hg2 az.out.size (λq hq=>rR (qJ hq)))));clear hown2 hg2 cz hP2))
     clear bI HEq bZ cr bW az bH bX bY dV z2;obtain⟨hP3,bf⟩:=cO.out.tC (p':={p with st:=(o::r:List Ps.Op)}) (sv':=.slice ka (1) kc) rfl rfl rfl rfl cK.out;obtain⟨w3,hw3⟩:=my (w2.setCell ⟨c.pb,4,none⟩ (.slice ka (1) kc));rw[hw3]at hP3 bf;obtain⟨HT3,cZ,aN,HW3⟩:=qg (HT2.out.trans bf) (HE2.out.keep bf) hP3 hw3;clear hP3 bf hw3 cO HT2 HE2 cK;rw[HW3.out];clear HW3 u4 f4;obtain⟨bg,df⟩:=mR aI hdp;clear aI hdp bV gc q0 q3 q4 q5 q1 y1 y2 y4;obtain⟨g9,dh,z1,z2,z3,z4,y0,y1,y2,y3,y4⟩:=aN.out.top (o:=o) (r:=r) rfl;injection z1 with z1 ag ah
     subst z1 ah;rw[HM.out]at y0 y1 y2 y3 y4;simp only[zV,qz]at y0 y1 y2 y3 y4;have u2:w3.cell? ⟨c.pb,2,none⟩=some (.int .i64 p.doc):=aN.out.cell 2 _ rfl;have u4:w3.cell? ⟨c.pb,4,none⟩=some (.slice (some ⟨g9,0,none⟩) (1) kc):=aN.out.cell 4 _ rfl;rw[bg.out]at y4;have f4:=z3 (4);clear ag z2 z3 z4 y0 y1 y2;obtain⟨aO,aJ⟩:=aN.out.pY (p':={p with st:=(({o with has:=true}::r):List Ps.Op)}) (T:=o) (T':={o with has:=true}) (SS:=r) 4 (.bool true) rfl rfl rfl (by decide) rfl rfl rfl rfl;rw[HM.out]at aO aJ;simp only[zV,qz]at aO aJ;obtain⟨w4,hw4⟩:=my (w3.setCell ⟨g9,4,none⟩ (.bool true));rw[hw4]at aO aJ;obtain⟨di,dm,dn,dw⟩:=qg (HT3.out.trans aJ) (cZ.out.keep aJ) aO hw4;clear aO aJ hw4 aN HT3 cZ;have ak:=eu (show(({o with has:=true}::r):List Ps.Op).reverse.length=1 from by rw[pE,nI,HM.out]);go_upto_region 31 with fail
     rw[dw.out];clear dw u2 u4 y3 y4 f4;obtain⟨mu,bJ,hok⟩:∃mu:Nat,o.cur=(mu:Int)/\Ps.OK c.l B mu e0 p.s:=by
      have hh:=HH.out;rw[HU.out]at hh;exact hh.2 bg.out
     have hkd:1<=Kd/\Kd<=10:=by rw[<-bF.out];unfold Ps.kindOf;split<;>omega
     obtain⟨s5,a1,a2,a3,a4⟩:=Ps.Ab (kind:=Kd) (f:=x.from') (t:=x.au) hok (by omega) (by omega) hle hkd.1 hkd.2;have hsz:=Fe.pM p.s (mu:Int) Kd x.from' x.au;have hn:=HN.out;obtain⟨NL,bn⟩:=my (p.s.t.length);rw[bn]at a1 a2 a3 hn hsz;rw[a1]at hsz;dsimp only at hsz
     have HA:=eu (λW R' (hW:GS w0 W c.rb c.tv e c.l p.s R')=>show Calls prog 65 #[RG c.rb,.int .i64 o.cur,.int .i64 Kd,.int .i64 x.from',.int .i64 x.au] W (nE w0 W c.rb c.tv e c.l R' (.int .i64 (NL:Nat)) s5)from by
      have h:=Gb w0 W c.rb c.tv e c.l p.s R' mu e0 Kd x.from' x.au e0 hW hok.ck hok.fits hok.lf hok.no (by rw[bn];omega) (by omega) (by omega) hle hkd.1 hkd.2;rw[a1]at h
      rw[bJ];exact h)
     obtain⟨HA1,HA2,eD,eF,dx,dA⟩:=qW a1 a2 a3 a4 hsz bn;have bD:=eu bJ;have aa:=eu (dn.out.below (mF _ w4).drew);have aA:=eu (di.out.trans (TF.below (mF _ w4).drew));have ai:=eu (dm.out.keep (TF.below (mF _ w4).drew));have r0:w4.drew.cell? ⟨c.pb,0,none⟩=some (RG c.rb):=aa.out.cell 0 _ rfl;have r4:w4.drew.cell? ⟨c.pb,4,none⟩=some (.slice (some ⟨g9,0,none⟩) (1) kc):=aa.out.cell 4 _ rfl;have r1:=ai.out.c1;have r2:=ai.out.c2;have r3:=ai.out.c3;have dX:=eu (show(({o with has:=true}::r):List Ps.Op).reverse.length+1<=maxLen by rw[ak.out];simp only[maxLen];omega);have dY:=eu (show((({o with has:=true}::r):List Ps.Op).reverse.length+1)*40<=140737488355328 by rw[ak.out];omega);clear a1 a2 a3 a4 hsz hn bn bJ hok hkd dn di dm;refine mK (λwx=>wx.cell? ⟨c.pb,0,none⟩=some (RG c.rb)/\wx.cell? ⟨c.pb,4,none⟩=some (.slice (some ⟨g9,0,none⟩) (1) kc)/\wx.cell? ⟨bx,1,none⟩=some (.int .i64 x.mE)/\wx.cell? ⟨bx,2,none⟩=some (.int .i64 x.from')/\wx.cell? ⟨bx,3,none⟩=some (.int .i64 x.au)) 24 (by kernel_rfl) ?_;have hH:(λwx:World=>wx.cell? ⟨c.pb,0,none⟩=some (RG c.rb)/\wx.cell? ⟨c.pb,4,none⟩=some (.slice (some ⟨g9,0,none⟩) (1) kc)/\wx.cell? ⟨bx,1,none⟩=some (.int .i64 x.mE)/\wx.cell? ⟨bx,2,none⟩=some (.int .i64 x.from')/\wx.cell? ⟨bx,3,none⟩=some (.int .i64 x.au)) w4.drew:=⟨r0,r4,r1,r2,r3⟩
     refine mI 0 (RG c.pb) rfl (by kernel_rfl) rfl mD (λW hW=>by go_simp) hH ?_;refine mI 1 (RG c.pb) rfl (by kernel_rfl) rfl mD (λW hW=>by go_simp) hH ?_;refine mI 2 (.pointer (some ⟨c.pb,0,none⟩)) rfl (by kernel_rfl) rfl mD (λW hW=>by go_simp) hH ?_;refine mI 3 (.pointer (some ⟨c.pb,4,none⟩)) rfl (by kernel_rfl) rfl mD (λW hW=>by go_simp) hH ?_;refine mI 4 (.slice (some ⟨g9,0,none⟩) (1) kc) rfl (by kernel_rfl) rfl mD (λW hW=>?_) hH ?_
     ·obtain⟨z0,z1,z2,z3,z4⟩:=hW;go_simp
     refine mI 5 (RG c.pb) rfl (by kernel_rfl) rfl mD (λW hW=>by go_simp) hH ?_;refine mI 6 (.pointer (some ⟨c.pb,0,none⟩)) rfl (by kernel_rfl) rfl mD (λW hW=>by go_simp) hH ?_;refine mI 7 (.pointer (some ⟨c.pb,0,none⟩)) rfl (by kernel_rfl) rfl mD (λW hW=>by go_simp) hH ?_;refine mI 8 (RG c.rb) rfl (by kernel_rfl) rfl mD (λW hW=>?_) hH ?_
     ·obtain⟨z0,z1,z2,z3,z4⟩:=hW;go_simp
     refine mI 9 (.int .i64 o.cur) rfl (by kernel_rfl) rfl mD (λW hW=>by go_simp) hH ?_;refine mI 10 (.int .i64 (Kd:Int)) rfl (by kernel_rfl) rfl mD (λW hW=>by go_simp) hH ?_;refine mI 11 (.pointer (some ⟨bx,2,none⟩)) rfl (by kernel_rfl) rfl mD (λW hW=>by go_simp) hH ?_;refine mI 12 (.int .i64 (x.from':Int)) rfl (by kernel_rfl) rfl mD (λW hW=>?_) hH ?_
     ·obtain⟨z0,z1,z2,z3,z4⟩:=hW;go_simp
     refine mI 13 (.pointer (some ⟨bx,3,none⟩)) rfl (by kernel_rfl) rfl mD (λW hW=>by go_simp) hH ?_;refine mI 14 (.int .i64 (x.au:Int)) rfl (by kernel_rfl) rfl mD (λW hW=>?_) hH ?_
     ·obtain⟨z0,z1,z2,z3,z4⟩:=hW;go_simp
     refine mI 16 (.int .i64 (Kd:Int)) rfl (by kernel_rfl) rfl mD (λW hW=>by go_simp) hH ?_;refine mI 17 (.pointer (some ⟨bx,1,none⟩)) rfl (by kernel_rfl) rfl mD (λW hW=>by go_simp) hH ?_;refine mI 18 (.int .i64 x.mE) rfl (by kernel_rfl) rfl mD (λW hW=>?_) hH ?_
     ·obtain⟨z0,z1,z2,z3,z4⟩:=hW;go_simp
     refine oD 15 (by kernel_rfl) rfl λK hK=>?_
     go_simp;refine(HA.out w4.drew _ aa.out.gs).mono ?_;rintro e5 w5 ⟨rfl,R5,hS5,dB⟩;obtain⟨bq,bK⟩:=aa.out.step hS5 dB;have dC:w5.cell? ⟨c.pb,0,none⟩=some (RG c.rb):=bq.cell 0 _ rfl;have dD:w5.cell? ⟨c.pb,4,none⟩=some (.slice (some ⟨g9,0,none⟩) (1) kc):=bq.cell 4 _ rfl;have e5:=ai.out.keep bK;have d1:=e5.c1;have d2:=e5.c2;have d3:=e5.c3;obtain⟨wx,hwx⟩:=my (w5.alloc (.cells #[.int .i64 (NL:Int),.int .i64 (Kd:Int),.int .i64 x.mE,.int .i64 0,.bool false] 112));have hbx:Below w5.heap.size w5 wx:=by rw[<-hwx];exact mr w5 _
     have aK:=bq.below hbx;have x0:wx.cell? ⟨c.pb,0,none⟩=some (RG c.rb):=aK.cell 0 _ rfl;have x4:wx.cell? ⟨c.pb,4,none⟩=some (.slice (some ⟨g9,0,none⟩) (1) kc):=aK.cell 4 _ rfl;have ex:=e5.keep (TF.below hbx);have x1:=ex.c1;have x2:=ex.c2;have x3:=ex.c3;have dE:=eu ((aA.out.trans bK).trans (TF.below hbx));obtain⟨aP,bL,dF⟩:=nY ex aK hwx;have hws:w0.heap.size<=wx.heap.size:=aK.qK.size;have dG:=eu (show wx.ownsRow w0.heap.size 112 oJ.k (.slice (some ⟨g9,0,none⟩) (1) kc) (({o with has:=true}::r):List Ps.Op).reverse.length (oJ.all (({o with has:=true}::r):List Ps.Op).reverse)from aK.tZ)
     have bE:=eu (show∀jj cc,(oJ.all [(⟨(NL:Int),Kd,x.mE,0,false⟩:Ps.Op)])[jj]?=some cc->wx.cell? ⟨w5.heap.size,jj,none⟩=some cc from by
      intro jj cc hj;rw[<-hwx];show(w5.alloc _).cell? ⟨w5.heap.size,jj,none⟩=_;rw[wh]
      simpa [qP.all,oJ,uH]using hj)
     clear hS5 dB bq bK e5 hwx hbx aK ex HA aa aA ai r0 r1 r2 r3 r4;refine hK.out _ _ (λ_=>⟨dC,dD,d1,d2,d3⟩) (λhH2=>?_);clear hK K;replace hH:=hH2 (by kernel_rfl);clear hH2;try simp only[Act.put,mM,mP,mO]
     refine mI 19 (.agg #[.int .i64 (NL:Int),.int .i64 (Kd:Int),.int .i64 x.mE,.int .i64 0,.bool false]) rfl (by kernel_rfl) rfl mD (λW hW=>by go_simp) hH ?_;refine oD 20 (by kernel_rfl) rfl λK hK=>?_
     go_simp;rw[dF.out];clear dC dD d1 d2 d3;refine hK.out _ _ (λ_=>⟨x0,x4,x1,x2,x3⟩) (λhH2=>?_);clear hK K;replace hH:=hH2 (by kernel_rfl);clear hH2;try simp only[Act.put,mM,mP,mO]
     refine oD 21 (by kernel_rfl) rfl λK hK=>?_
     refine nU Lx rfl (.tmp 224) (.tmp 240) rfl w0.heap.size (.slice (some ⟨g9,0,none⟩) (1) kc) (({o with has:=true}::r):List Ps.Op).reverse rfl dG.out w5.heap.size 1 [(⟨(NL:Int),Kd,x.mE,0,false⟩:Ps.Op)] rfl rfl bE.out dX.out dY.out hws ?_;intro v6 w6 hown6 bM dH;obtain⟨a6,c6,hv6⟩:=(Reads.mW (E:=oJ) hown6).shape;rw[show((({o with has:=true}::r):List Ps.Op).reverse++[(⟨(NL:Int),Kd,x.mE,0,false⟩:Ps.Op)]).length=(1)+1 from by rw[oq,ak.out];rfl]at hv6;subst hv6;obtain⟨aG,bN,bz⟩:=bL.out.push (p':={s:=s5,doc:=p.doc,root:=p.root,st:=(⟨(NL:Int),Kd,x.mE,0,false⟩:Ps.Op)::({o with has:=true}::r),read:=p.read}) bM (by rw[show((⟨(NL:Int),Kd,x.mE,0,false⟩:Ps.Op)::(({o with has:=true}::r):List Ps.Op)).reverse=_ from E6];exact hown6) rfl rfl rfl rfl;have v0:w6.cell? ⟨c.pb,0,none⟩=some (RG c.rb):=(nz aG 0).trans rfl;have v4:w6.cell? ⟨c.pb,4,none⟩=some (.slice (some ⟨g9,0,none⟩) (1) kc):=(nz aG 4).trans rfl;have vf:=oI aG 4;have e6:EB w6 bx x:=(bM.block bx (nQ aP.out) (λe'=>mV bL.out.tZ aP.out (by decide) e'.symm)).trans aP.out;have t1:=e6.c1;have t2:=e6.c2;have t3:=e6.c3;obtain⟨w7,hw7⟩:=my (w6.setCell ⟨c.pb,4,none⟩ (.slice a6 ((1)+1) c6));rw[hw7]at bN bz;obtain⟨bA,dI,dJ,dK⟩:=qg bN (dE.out.trans bz) (aP.out.keep bz) hw7;clear hown6 bM dH aG bN bz e6 hw7 bL dE aP dG bE dF x0 x1 x2 x3 x4;refine hK.out _ _ (λ_=>⟨v0,v4,t1,t2,t3⟩) (λhH2=>?_);clear hK K;replace hH:=hH2 (by kernel_rfl);clear hH2;try simp only[Act.put,mM,mP,mO]
     refine nA 22 (.pointer (some ⟨c.pb,0,none⟩)) rfl (by kernel_rfl) rfl mD (λW=>by go_simp) (λ_=>hH) ?_;refine mI 23 (.pointer (some ⟨c.pb,4,none⟩)) rfl (by kernel_rfl) rfl mD (λW hW=>by go_simp) hH ?_;refine oD 24 (by kernel_rfl) rfl λK hK=>?_
     go_simp;refine hK.out _ _ (pV (by kernel_rfl)) (λ_=>?_);clear hK K;try simp only[Act.put,mM,mP,mO]
     rename_i aQ;clear aQ hH;refine mH (by kernel_rfl) ?_ _;go_upto_region 32 with fail
     rw[dK.out];clear dK v0 v4 vf t1 t2 t3;obtain⟨g9,dh,z1,z2,z3,z4,y0,y1,y2,y3,y4⟩:=bA.out.top (o:=(⟨(NL:Int),Kd,x.mE,0,false⟩:Ps.Op)) (r:=({o with has:=true}::r)) rfl;injection z1 with z1 ag ah
     subst z1 ah;rw[show(({o with has:=true}::r):List Ps.Op).length=1 from by rw[<-pE];exact ak.out]at y0 y1 y2 y3 y4;simp only[Nat.reduceMul,Nat.reduceAdd]at y0 y1 y2 y3 y4;have u4:w7.cell? ⟨c.pb,4,none⟩=some (.slice (some ⟨g9,0,none⟩) ((1)+1) c6):=bA.out.cell 4 _ rfl;have eG:((1:Nat):Int)<(((1)+1:Nat):Int):=by omega
     clear ag z2 z3 z4 y0 y1 y2 y3 y4
     go_big_quiet (fail)
     obtain⟨w8,hw8⟩:=my (w7.drewN nq);have bB:Below w7.heap.size w7 w8:=hw8▸nG (mF _ w7) nq;rw[hw8];have bO:=bA.out.below bB;have dL:=eu (dI.out.trans (TF.below bB));have dM:=eu (dJ.out.keep (TF.below bB));obtain⟨g',cap',z1,z2,z3,z4,y0,y1,y2,y3,y4⟩:=bO.top (o:=(⟨(NL:Int),Kd,x.mE,0,false⟩:Ps.Op)) (r:=({o with has:=true}::r)) rfl;injection z1 with z1 ag ah
     injection z1 with z1
     injection z1 with z1
     subst z1;have f4:=z3 (9);obtain⟨aR,aL⟩:=bO.pY (p':={s:=s5,doc:=p.doc,root:=p.root,st:=(⟨(NL:Int),Kd,x.mE,0,false⟩:Ps.Op)::({o with has:=true}::r),read:=p.read}) (T:=(⟨(NL:Int),Kd,x.mE,0,false⟩:Ps.Op)) (T':=(⟨(NL:Int),Kd,x.mE,0,false⟩:Ps.Op)) (SS:=({o with has:=true}::r)) 4 (.bool false) rfl rfl rfl (by decide) rfl rfl rfl rfl;rw[show(({o with has:=true}::r):List Ps.Op).length=1 from by rw[<-pE];exact ak.out]at y0 y1 y2 y3 y4 aR aL;simp only[Nat.reduceMul,Nat.reduceAdd]at y0 y1 y2 y3 y4 aR aL;obtain⟨w9,bP⟩:=my (w8.setCell ⟨g9,9,none⟩ (.bool false));rw[bP]at aR aL;obtain⟨dN,dO,bQ,dP⟩:=qg aR (dL.out.trans aL) (dM.out.keep aL) bP;clear hw8 bB bO aR aL bP ag ah z2 z3 z4 dL dM bA dI dJ u4;go_upto_region 34 with fail
     rw[dP.out];clear dP y0 y1 y2 y3 y4 f4;have b0:=bQ.out.c0;obtain⟨CR,dQ⟩:=my (Ps.cur c.l s5 (NL:Int) x);have bC:=eu dQ;clear dQ;go_wp2_with fail
     ·have aS:x.dash=true:=by assumption
      have aa:=eu (dN.out.below (mF _ w9).drew);have aA:=eu (dO.out.trans (TF.below (mF _ w9).drew));have ai:=eu (bQ.out.keep (TF.below (mF _ w9).drew));have r0:w9.drew.cell? ⟨c.pb,0,none⟩=some (RG c.rb):=aa.out.cell 0 _ rfl;have r2:=ai.out.c2;have r3:=ai.out.c3;obtain⟨g',cap',z1,-,-,-,rn,-,-,-,-⟩:=aa.out.top (o:=(⟨(NL:Int),Kd,x.mE,0,false⟩:Ps.Op)) (r:=({o with has:=true}::r)) rfl;injection z1 with z1 ag ah
      clear ag ah;injection z1 with z1
      injection z1 with z1
      subst z1;rw[show(({o with has:=true}::r):List Ps.Op).length=1 from by rw[<-pE];exact ak.out]at rn;simp only[Nat.reduceMul]at rn;have HA:=eu (show Calls prog 65 #[RG c.rb,.int .i64 NL,.int .i64 4,.int .i64 x.from',.int .i64 x.au] w9.drew (nE w0 w9.drew c.rb c.tv e c.l _ (.int .i64 CR.2) CR.1)from by rw[<-bC.out];exact Ed aa.out.gs HA2.out hlt hle (by have h1:=dx.out.1;have h2:=HN.out;rw[dA.out]at h2;omega) aS);clear aS;refine mK (λwx=>wx.cell? ⟨c.pb,0,none⟩=some (RG c.rb)/\wx.cell? ⟨g9,5,none⟩=some (.int .i64 (NL:Int))/\wx.cell? ⟨bx,2,none⟩=some (.int .i64 x.from')/\wx.cell? ⟨bx,3,none⟩=some (.int .i64 x.au)) 16 (by kernel_rfl) ?_;have hH:(λwx:World=>wx.cell? ⟨c.pb,0,none⟩=some (RG c.rb)/\wx.cell? ⟨g9,5,none⟩=some (.int .i64 (NL:Int))/\wx.cell? ⟨bx,2,none⟩=some (.int .i64 x.from')/\wx.cell? ⟨bx,3,none⟩=some (.int .i64 x.au)) w9.drew:=⟨r0,rn,r2,r3⟩
      refine mI 0 (.pointer (some ⟨g9,5,none⟩)) rfl (by kernel_rfl) rfl mD (λW hW=>by go_simp) hH ?_;refine mI 1 (RG c.pb) rfl (by kernel_rfl) rfl mD (λW hW=>by go_simp) hH ?_;refine mI 2 (.pointer (some ⟨c.pb,0,none⟩)) rfl (by kernel_rfl) rfl mD (λW hW=>by go_simp) hH ?_;refine mI 3 (.pointer (some ⟨c.pb,0,none⟩)) rfl (by kernel_rfl) rfl mD (λW hW=>by go_simp) hH ?_;refine mI 4 (RG c.rb) rfl (by kernel_rfl) rfl mD (λW hW=>?_) hH ?_
      ·obtain⟨z0,z1,z2,z3⟩:=hW;go_simp
      refine mI 5 (.pointer (some ⟨g9,5,none⟩)) rfl (by kernel_rfl) rfl mD (λW hW=>by go_simp) hH ?_;refine mI 6 (.pointer (some ⟨g9,5,none⟩)) rfl (by kernel_rfl) rfl mD (λW hW=>by go_simp) hH ?_;refine mI 7 (.pointer (some ⟨g9,5,none⟩)) rfl (by kernel_rfl) rfl mD (λW hW=>by go_simp) hH ?_;refine mI 8 (.int .i64 (NL:Int)) rfl (by kernel_rfl) rfl mD (λW hW=>?_) hH ?_
      ·obtain⟨z0,z1,z2,z3⟩:=hW;go_simp
      refine mI 9 (.pointer (some ⟨bx,2,none⟩)) rfl (by kernel_rfl) rfl mD (λW hW=>by go_simp) hH ?_;refine mI 10 (.int .i64 (x.from':Int)) rfl (by kernel_rfl) rfl mD (λW hW=>?_) hH ?_
      ·obtain⟨z0,z1,z2,z3⟩:=hW;go_simp
      refine mI 11 (.pointer (some ⟨bx,3,none⟩)) rfl (by kernel_rfl) rfl mD (λW hW=>by go_simp) hH ?_;refine mI 12 (.int .i64 (x.au:Int)) rfl (by kernel_rfl) rfl mD (λW hW=>?_) hH ?_
      ·obtain⟨z0,z1,z2,z3⟩:=hW;go_simp
      refine oD 13 (by kernel_rfl) rfl λK hK=>?_
      go_simp;refine HA.out.mono ?_;rintro e10 aT ⟨rfl,dZ,aB,aC⟩;obtain⟨aj,av⟩:=aa.out.step aB aC;have c0:aT.cell? ⟨c.pb,0,none⟩=some (RG c.rb):=aj.cell 0 _ rfl;have e10:=ai.out.keep av;have d2:=e10.c2;have d3:=e10.c3;obtain⟨g',cap',z1,-,z3,-,cn,-,-,y3,-⟩:=aj.top (o:=(⟨(NL:Int),Kd,x.mE,0,false⟩:Ps.Op)) (r:=({o with has:=true}::r)) rfl;injection z1 with z1 ag ah
      clear ag ah;injection z1 with z1
      injection z1 with z1
      subst z1;have f3:=z3 (8);obtain⟨ae,af⟩:=aj.pY (p':={s:=CR.1,doc:=p.doc,root:=p.root,st:=(⟨(NL:Int),Kd,x.mE,CR.2,false⟩:Ps.Op)::({o with has:=true}::r),read:=p.read}) (T:=(⟨(NL:Int),Kd,x.mE,0,false⟩:Ps.Op)) (T':=(⟨(NL:Int),Kd,x.mE,CR.2,false⟩:Ps.Op)) (SS:=({o with has:=true}::r)) 3 (.int .i64 CR.2) rfl rfl rfl (by decide) rfl rfl rfl rfl;rw[show(({o with has:=true}::r):List Ps.Op).length=1 from by rw[<-pE];exact ak.out]at cn y3 ae af;simp only[Nat.reduceMul,Nat.reduceAdd]at cn y3 ae af;obtain⟨bR,ax⟩:=my (aT.setCell ⟨g9,8,none⟩ (.int .i64 CR.2));rw[ax]at ae af;have HD:=eu (HQ.out bR 0 _ (by unfold Ps.place;rw[HU.out];show(if o.mE=x.mE then _ else _)=_;rw[fu aX.out,fu (by rw[bg.out];decide)];unfold Ps.fresh;rw[fu (by have h9:=df.out;rw[nI,HM.out];omega),bF.out,bD.out,HA1.out];dsimp only;rw[bC.out]) ⟨_,_,_,ae,(aA.out.trans av).trans af⟩);have aD:=eu ax;clear aB aC aj av ae af e10 z3 ax HA aa aA ai r0 rn r2 r3;refine hK.out _ _ (λ_=>⟨c0,cn,d2,d3⟩) (λhH2=>?_);clear hK K;replace hH:=hH2 (by kernel_rfl);clear hH2;try simp only[Act.put,mM,mP,mO]
      refine nA 14 (.pointer (some ⟨g9,5,none⟩)) rfl (by kernel_rfl) rfl mD (λW=>by go_simp) (λ_=>hH) ?_;refine mI 15 (.pointer (some ⟨g9,8,none⟩)) rfl (by kernel_rfl) rfl mD (λW hW=>by go_simp) hH ?_;refine oD 16 (by kernel_rfl) rfl λK hK=>?_
      go_simp;refine hK.out _ _ (pV (by kernel_rfl)) (λ_=>?_);clear hK K;try simp only[Act.put,mM,mP,mO]
      rename_i aQ;clear aQ hH;refine mH (by kernel_rfl) ?_ _;go_upto_region 37 with fail
      rw[aD.out];clear aD c0 cn d2 d3 y3 f3;go_wp2_with fail
      first|exact HD.out|(go_ret;exact HD.out)
     have aS:x.dash=false:=by assumption
     have aa:=eu (dN.out.below (mF _ w9).drew);have aA:=eu (dO.out.trans (TF.below (mF _ w9).drew));have ai:=eu (bQ.out.keep (TF.below (mF _ w9).drew));have r0:w9.drew.cell? ⟨c.pb,0,none⟩=some (RG c.rb):=aa.out.cell 0 _ rfl;have r2:=ai.out.c2;have r3:=ai.out.c3;obtain⟨g',cap',z1,-,-,-,rn,-,-,-,-⟩:=aa.out.top (o:=(⟨(NL:Int),Kd,x.mE,0,false⟩:Ps.Op)) (r:=({o with has:=true}::r)) rfl;injection z1 with z1 ag ah
     clear ag ah;injection z1 with z1
     injection z1 with z1
     subst z1;rw[show(({o with has:=true}::r):List Ps.Op).length=1 from by rw[<-pE];exact ak.out]at rn;simp only[Nat.reduceMul]at rn;have HA:=eu (show Calls prog 84 #[RG c.rb,.int .i64 NL,.int .i64 x.from',.int .i64 x.au] w9.drew (nE w0 w9.drew c.rb c.tv e c.l _ (.int .i64 CR.2) CR.1)from by rw[<-bC.out];exact Ee aa.out.gs HA2.out hlt hle (by have h1:=dx.out.1;have h2:=HN.out;rw[dA.out]at h2;omega) aS);clear aS;refine mK (λwx=>wx.cell? ⟨c.pb,0,none⟩=some (RG c.rb)/\wx.cell? ⟨g9,5,none⟩=some (.int .i64 (NL:Int))/\wx.cell? ⟨bx,2,none⟩=some (.int .i64 x.from')/\wx.cell? ⟨bx,3,none⟩=some (.int .i64 x.au)) 16 (by kernel_rfl) ?_;have hH:(λwx:World=>wx.cell? ⟨c.pb,0,none⟩=some (RG c.rb)/\wx.cell? ⟨g9,5,none⟩=some (.int .i64 (NL:Int))/\wx.cell? ⟨bx,2,none⟩=some (.int .i64 x.from')/\wx.cell? ⟨bx,3,none⟩=some (.int .i64 x.au)) w9.drew:=⟨r0,rn,r2,r3⟩
     refine mI 0 (.pointer (some ⟨g9,5,none⟩)) rfl (by kernel_rfl) rfl mD (λW hW=>by go_simp) hH ?_;refine mI 1 (RG c.pb) rfl (by kernel_rfl) rfl mD (λW hW=>by go_simp) hH ?_;refine mI 2 (.pointer (some ⟨c.pb,0,none⟩)) rfl (by kernel_rfl) rfl mD (λW hW=>by go_simp) hH ?_;refine mI 3 (.pointer (some ⟨c.pb,0,none⟩)) rfl (by kernel_rfl) rfl mD (λW hW=>by go_simp) hH ?_;refine mI 4 (RG c.rb) rfl (by kernel_rfl) rfl mD (λW hW=>?_) hH ?_
     ·obtain⟨z0,z1,z2,z3⟩:=hW;go_simp
     refine mI 5 (.pointer (some ⟨g9,5,none⟩)) rfl (by kernel_rfl) rfl mD (λW hW=>by go_simp) hH ?_;refine mI 6 (.pointer (some ⟨g9,5,none⟩)) rfl (by kernel_rfl) rfl mD (λW hW=>by go_simp) hH ?_;refine mI 7 (.pointer (some ⟨g9,5,none⟩)) rfl (by kernel_rfl) rfl mD (λW hW=>by go_simp) hH ?_;refine mI 8 (.int .i64 (NL:Int)) rfl (by kernel_rfl) rfl mD (λW hW=>?_) hH ?_
     ·obtain⟨z0,z1,z2,z3⟩:=hW;go_simp
     refine mI 9 (.pointer (some ⟨bx,2,none⟩)) rfl (by kernel_rfl) rfl mD (λW hW=>by go_simp) hH ?_;refine mI 10 (.int .i64 (x.from':Int)) rfl (by kernel_rfl) rfl mD (λW hW=>?_) hH ?_
     ·obtain⟨z0,z1,z2,z3⟩:=hW;go_simp
     refine mI 11 (.pointer (some ⟨bx,3,none⟩)) rfl (by kernel_rfl) rfl mD (λW hW=>by go_simp) hH ?_;refine mI 12 (.int .i64 (x.au:Int)) rfl (by kernel_rfl) rfl mD (λW hW=>?_) hH ?_
     ·obtain⟨z0,z1,z2,z3⟩:=hW;go_simp
     refine oD 13 (by kernel_rfl) rfl λK hK=>?_
     go_simp;refine HA.out.mono ?_;rintro e10 aT ⟨rfl,dZ,aB,aC⟩;obtain⟨aj,av⟩:=aa.out.step aB aC;have c0:aT.cell? ⟨c.pb,0,none⟩=some (RG c.rb):=aj.cell 0 _ rfl;have e10:=ai.out.keep av;have d2:=e10.c2;have d3:=e10.c3;obtain⟨g',cap',z1,-,z3,-,cn,-,-,y3,-⟩:=aj.top (o:=(⟨(NL:Int),Kd,x.mE,0,false⟩:Ps.Op)) (r:=({o with has:=true}::r)) rfl;injection z1 with z1 ag ah
     clear ag ah;injection z1 with z1
     injection z1 with z1
     subst z1;have f3:=z3 (8);obtain⟨ae,af⟩:=aj.pY (p':={s:=CR.1,doc:=p.doc,root:=p.root,st:=(⟨(NL:Int),Kd,x.mE,CR.2,false⟩:Ps.Op)::({o with has:=true}::r),read:=p.read}) (T:=(⟨(NL:Int),Kd,x.mE,0,false⟩:Ps.Op)) (T':=(⟨(NL:Int),Kd,x.mE,CR.2,false⟩:Ps.Op)) (SS:=({o with has:=true}::r)) 3 (.int .i64 CR.2) rfl rfl rfl (by decide) rfl rfl rfl rfl;rw[show(({o with has:=true}::r):List Ps.Op).length=1 from by rw[<-pE];exact ak.out]at cn y3 ae af;simp only[Nat.reduceMul,Nat.reduceAdd]at cn y3 ae af;obtain⟨bR,ax⟩:=my (aT.setCell ⟨g9,8,none⟩ (.int .i64 CR.2));rw[ax]at ae af;have HD:=eu (HQ.out bR 0 _ (by unfold Ps.place;rw[HU.out];show(if o.mE=x.mE then _ else _)=_;rw[fu aX.out,fu (by rw[bg.out];decide)];unfold Ps.fresh;rw[fu (by have h9:=df.out;rw[nI,HM.out];omega),bF.out,bD.out,HA1.out];dsimp only;rw[bC.out]) ⟨_,_,_,ae,(aA.out.trans av).trans af⟩);have aD:=eu ax;clear aB aC aj av ae af e10 z3 ax HA aa aA ai r0 rn r2 r3;refine hK.out _ _ (λ_=>⟨c0,cn,d2,d3⟩) (λhH2=>?_);clear hK K;replace hH:=hH2 (by kernel_rfl);clear hH2;try simp only[Act.put,mM,mP,mO]
     refine nA 14 (.pointer (some ⟨g9,5,none⟩)) rfl (by kernel_rfl) rfl mD (λW=>by go_simp) (λ_=>hH) ?_;refine mI 15 (.pointer (some ⟨g9,8,none⟩)) rfl (by kernel_rfl) rfl mD (λW hW=>by go_simp) hH ?_;refine oD 16 (by kernel_rfl) rfl λK hK=>?_
     go_simp;refine hK.out _ _ (pV (by kernel_rfl)) (λ_=>?_);clear hK K;try simp only[Act.put,mM,mP,mO]
     rename_i aQ;clear aQ hH;refine mH (by kernel_rfl) ?_ _;go_upto_region 37 with fail
     rw[aD.out];clear aD c0 cn d2 d3 y3 f3;go_wp2_with fail
     first|exact HD.out|(go_ret;exact HD.out)
end
end Go.Proofs.Ytfbiffdmhcjhbaa

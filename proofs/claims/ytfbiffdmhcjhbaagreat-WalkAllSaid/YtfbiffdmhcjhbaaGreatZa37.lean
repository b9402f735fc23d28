import Derived.Test.YtfbiffdmhcjhbaaGreatZa20
import Derived.Test.YtfbiffdmhcjhbaaGreatZa28
import Derived.Test.YtfbiffdmhcjhbaaGreatZa31
import Derived.Test.YtfbiffdmhcjhbaaGreatZa32
import Derived.Test.YtfbiffdmhcjhbaaGreatZa33
import Derived.Test.YtfbiffdmhcjhbaaGreatZa34
import Derived.Test.YtfbiffdmhcjhbaaGreatZa35
import Derived.Test.YtfbiffdmhcjhbaaGreatZa36
set_option linter.all false
set_option maxHeartbeats 16000000
set_option maxRecDepth 100000
set_option synthInstance.maxSize 4000
set_option synthInstance.maxHeartbeats 0
namespace Go.Proofs.YtfbiffdmhcjhbaaGreat
open Go.RowKit Tryz
section
open Go.RowKit
open Sq
open Ar
open Fl (Tk raw jh iM cnt back fQ gI)
theorem NC(w0 w:World)(c:Cx)(e:Nat)(p:Ps.PS)(sv:Value)(R:Nat->Prop)(r:Rw.R)(a b:Nat)(B:Ps.Bs)(h:PG w0 w c e p sv R)(hrs:c.rs=Rw.fE c.l)(hO:Ps.sS c.l B a p)(hB:B.1<=a)(hab:a<b)(hb:b<=c.l.length)(hdp:p.st.length<=c.depth)(aD:c.depth<=50)(hcs:p.st.dropWhile (λo=>decide (r.fo<=o.fo))=[])
 (hn:p.s.t.length<=450000000000) (hd:p.s.d.length<=450000000000):
 Calls prog 72 #[RG c.pb,.agg #[.int .i64 r.kind,.int .i64 r.from',.int .i64 r.au,.int .i64 r.fo],.int .i64 a,.int .i64 b] w (iJ w0 w c (.tuple #[]) (Ps.bare c.l c.rs c.depth p r a b)):=by
 obtain⟨d,hdd,hc,hh⟩:=hO;obtain⟨mh,aF,ax⟩:=hh.hold;have ag:Ps.holder p=(mh:Int):=by rw[Ps.lS,hdd];exact aF
 obtain⟨hc',hh'⟩:=Ps.jT.drop (λo=>decide (r.fo<=o.fo)) hc hh;have hls:=h.toks.2.2.2;obtain⟨-,m2⟩:=Fe.jL (code:=7) ax (f:=a) (t:=b) (by omega) hab (by omega) (by omega) hB (by omega) (by omega);have aZ:=eu (λW R' (hW:GS w0 W c.rb c.tv e c.l p.s R')=>show∃v,Calls prog 47 #[RG c.rb,.int .i64 (Ps.holder p),.int .i64 a,.int .i64 b,.int .i64 7] W (fU w0 W c.rb c.tv e c.l R' (.int .i64 v) (Fl.err c.l p.s (Ps.holder p) a b 7))from by rw[ag];exact vW w0 W c.rb c.tv e c.l p.s R' mh a b 7 hW (jD.of ax.ck (by omega)) (lh m2) hab (by omega) (by omega));have bf:=eu (λW sv' R' (hW:PG w0 W c e p sv' R')=>vL w0 W c e p sv' R' hW (by omega));obtain⟨w1,hw1⟩:=eX (w.alloc (.cells #[.int .i64 r.kind,.int .i64 r.from',.int .i64 r.au,.int .i64 r.fo] 67));have hb1:Below w.heap.size w w1:=hw1▸(fu _ w).alloc (fC _) _;have hX1:RB w1 w.heap.size r.kind r.from' r.au r.fo:=hw1▸RB.new w _ _ _ _;have hP1:=h.below hb1;have hT1:=TF.below hb1;obtain⟨bx,hbx⟩:=eX (w.heap.size);rw[hbx]at hX1;obtain⟨sa,sc,hsv⟩:=(Reads.fJ (E:=iA) h.mJ).shape;rw[iI]at hsv;obtain⟨SL,ai⟩:=eX (p.st.length);have aG:=eu ai;rw[ai]at hsv hdp;obtain⟨Q,hQ⟩:=eX (iJ w0 w c (.tuple #[]) (Ps.bare c.l c.rs c.depth p r a b));have HQ:=eu (λW p' (hz:Ps.bare c.l c.rs c.depth p r a b=p')(h:∃e sv R,PG w0 W c e p' sv R/\TF w W)=>show Q (.returned (.tuple #[])) W from by rw[<-hQ,hz];exact⟨rfl,h⟩);rw[hQ]
 have ay:=eu (λW (hb:Below w1.heap.size w1 W)=>show W.cell? ⟨c.pb,0,none⟩=some (RG c.rb)/\W.cell? ⟨c.pb,3,none⟩=some (.bool p.root)/\W.cell? ⟨c.pb,4,none⟩=some (.slice sa SL sc)/\W.cell? ⟨bx,3,none⟩=some (.int .i64 r.fo)from
  ⟨(hP1.below hb).cell 0 _ rfl,(hP1.below hb).cell 3 _ rfl,by rw[<-hsv];exact(hP1.below hb).cell 4 _ rfl,(hX1.keep (TF.below hb)).c3⟩)
 have bg:=eu (λW (hb:Below w1.heap.size w1 W) pre o r (hs:p.st=pre++o::r)=>show∃g,sa=some ⟨g,0,none⟩/\r.length<SL/\
  W.cell? ⟨g,r.length*5+2,none⟩=some (.int .i64 o.fo)/\W.cell? ⟨g,r.length*5+4,none⟩=some (.bool o.has)from by
  obtain⟨g,cap,g1,-,-,-,-,-,g3,-,g4⟩:=(hP1.below hb).nth hs;rw[hsv]at g1;injection g1 with g1
  exact⟨g,g1,by rw[<-ai,hs];simp;omega,g3,g4⟩)
 have bn:=eu (λW e' sv' R' (p':Ps.PS)(hW:PG w0 W c e' p' sv' R')(k:Nat)(hs:p'.s=p.s)(hl:p'.st.length<=c.depth)(hok:Ps.OK c.l B k a p.s)=>vM w0 W c e' p' sv' R' k a a B hW hrs (by rw[hs];exact hok) (fC _) hB (by omega) hl aD (by rw[hs];omega) (by rw[hs];omega));obtain⟨HP,HT,HW1,HC,HH,bq⟩:=j6 hP1 hT1 hw1 hc' hh' hdd;obtain⟨bz,bA⟩:=fD hsv hcs;have k4:=(ay.out w1 (fu _ w1)).2.2.1;have hsl:SL<=50:=by omega
 have bI:a<=100000:=by omega
 have hb5:b<=100000:=by omega
 have bJ:=eu hdp;clear hcs hQ h hP1 hX1 hT1 hw1 hc' hh' hc hh hdd hsv ai hn hd hb1 ag aF ax m2 hdp hls
 go_enter func72,ntmps72
 go_upto_region 1 with fail
 rw[HW1.out];go_wp2_with fail
 clear k4
 go_loopw [8] (λkv wr=>∃(k:Int)(pre u:List Ps.Op),kv=.int .i64 k/\k=(u.length:Int)-1/\Hid (p.st=pre++u)/\Hid (∀o∈pre,r.fo<=o.fo)/\Hid (Below w1.heap.size w1 wr)) (λkv _=>(intOf kv+1).toNat)
 case atStart=>exact⟨_,[],p.st,rfl,by rw[aG.out],eu rfl,eu (λo ho=>by cases ho),eu (fu _ _)⟩
 case round=>
  obtain⟨k,pre,u,rfl,hk,HS,aj,HB⟩:=hrel;obtain⟨q0,q3,q4,q1⟩:=ay.out wr HB.out;cases u with
  |nil=>
   obtain rfl:k=-1:=by rw[hk];rfl
   clear hk
   have HU:=eu (show p.st.dropWhile (λo=>decide (r.fo<=o.fo))=[]from by
    rw[HS.out,qR (λo ho=>iO (aj.out o ho))];rfl)
   go_wp2_with fail
   go_big_quiet (fail)
   have HB:=eu (HB.out.trans ((gB (fu _ wr) nq).mono HB.out.size));clear q0 q3 q4 q1;obtain⟨aa,hW⟩:∃W2,wr.drewN nq=W2:=⟨_,rfl⟩
   rw[hW]at HB⊢;clear hW;obtain⟨q0,q3,q4,q1⟩:=ay.out aa HB.out;cases hro:p.root with
   |true=>
    rw[hro]at q3;go_upto_region 5 with fail
    have ak:=eu ((HP.out.below HB.out).below (fu _ aa).drew);have aH:=eu (HT.out.trans (TF.below (HB.out.trans ((fu _ aa).drew.mono HB.out.size))));have r0:aa.drew.cell? ⟨c.pb,0,none⟩=some (RG c.rb):=ak.out.cell 0 _ rfl;clear q0 q3 q4 q1;refine fB (λwx=>wx.cell? ⟨c.pb,0,none⟩=some (RG c.rb)) 8 (by kernel_rfl) ?_;have hH:(λwx:World=>wx.cell? ⟨c.pb,0,none⟩=some (RG c.rb)) aa.drew:=r0;refine fM 0 (RG c.pb) rfl (by kernel_rfl) rfl eY (λW=>by go_simp) (λ_=>hH) ?_;refine fM 1 (.pointer (some ⟨c.pb,0,none⟩)) rfl (by kernel_rfl) rfl eY (λW=>by go_simp) (λ_=>hH) ?_;refine fM 2 (.pointer (some ⟨c.pb,0,none⟩)) rfl (by kernel_rfl) rfl eY (λW=>by go_simp) (λ_=>hH) ?_;refine fw 3 (RG c.rb) rfl (by kernel_rfl) rfl eY (λW hW=>by go_simp) hH ?_;refine fM 4 (RG c.pb) rfl (by kernel_rfl) rfl eY (λW=>by go_simp) (λ_=>hH) ?_;refine fw 6 (.int .i64 (a:Int)) rfl (by kernel_rfl) rfl eY (λW hW=>by go_simp) hH ?_;refine fw 7 (.int .i64 (b:Int)) rfl (by kernel_rfl) rfl eY (λW hW=>by go_simp) hH ?_;refine iD 5 (by kernel_rfl) rfl λK hK=>?_
    go_simp;refine(bf.out aa.drew _ _ ak.out).mono ?_;rintro e5 w5 ⟨rfl,hb5⟩;have av:=eu (ak.out.below hb5);have aI:=eu (aH.out.trans (TF.below hb5));have r5:w5.cell? ⟨c.pb,0,none⟩=some (RG c.rb):=av.out.cell 0 _ rfl;obtain⟨ve,aJ⟩:=aZ.out w5 _ av.out.gs;have aK:=eu aJ;clear hb5 aJ ak aH r0;refine hK.out _ _ (λ_=>r5) (λhH2=>?_);clear hK K;replace hH:=hH2 (by kernel_rfl);clear hH2;try simp only[Act.put,fF,fH,fG]
    refine iD 8 (by kernel_rfl) rfl λK hK=>?_
    go_simp;refine aK.out.mono ?_;rintro e6 w6 ⟨rfl,R6,aL,aM⟩;obtain⟨ae,ah⟩:=av.out.step aL aM;have HD:=eu (HQ.out w6 _ (by unfold Ps.bare;rw[HU.out];show(if p.root=true then _ else _)=_;rw[eT hro]) ⟨_,_,_,ae,aI.out.trans ah⟩);clear aL aM ae ah r5 av aI aK;refine hK.out _ _ (jg (by kernel_rfl)) (λ_=>?_);clear hK K;try simp only[Act.put,fF,fH,fG]
    refine fA (by kernel_rfl) ?_ _;go_wp2_with fail
    first|exact HD.out|(go_end0;exact HD.out)|(go_ret;exact HD.out)
   |false=>
    rw[hro]at q3;have bB:=eu hro;clear hro;go_upto_region 6 with fail
    obtain⟨a',cap',z1,z2,z3,z4⟩:=(HP.out.below HB.out).pfxq (pre:=p.st) (U:=[]) (kH _).symm;rw[bz.out]at z1;injection z1 with z1 bC bD
    subst z1 bD;rw[aG.out]at z2;have az:=eu (z4.below (eZ aa (.cells #[] 114)));have aN:=eu (kK (e:=114) iA aa);have af:=eu (eZ aa (.cells #[] 114));have bE:=gX (o:=.cells #[] 114) q4;have bF:([]:List Ps.Op).reverse.length<=100000:=by rw[iI];decide
    have aO:=eu (show([]:List Ps.Op).length+([]:List Ps.Op).reverse.length<=maxLen by simp only[maxLen,lI];omega);have aP:=eu (show(([]:List Ps.Op).length+([]:List Ps.Op).reverse.length)*40<=140737488355328 by simp only[lI];omega);have hm:([]:List Ps.Op).length=0:=rfl;rw[hm]at az;have bG:=eu (show([]:List Ps.Op).reverse.length=0 from by rw[iI];exact hm);have aA:=eu (HP.out.below HB.out);have aQ:=eu (HT.out.trans (TF.below HB.out));have aR:=eu (show w0.heap.size<=aa.heap.size from aA.out.kE.size);clear bF bC z3 z4 hm HB HP HT q0 q3 q4 q1;go_upto_region 7 with(at_builtin;go_must (refine iw FQ rfl (.tmp 64) (.tmp 71) rfl aa.heap.size _ ([]:List Ps.Op) rfl aN.out _ ([]:List Ps.Op).reverse rfl az.out aO.out aP.out af.out.size ?_;intro kv w2 hown2 hg2 aS;rw[uk]at hown2;obtain⟨ka,kc,aT⟩:=(Reads.fJ (E:=iA) hown2).shape;rw[bG.out]at aT;subst aT;have hP2:=aA.out.below (af.out.grown hg2 af.out.size (λq hq=>kZ (jF hq)));have HT2:=eu (aQ.out.trans (TF.below (af.out.grown hg2 af.out.size (λq hq=>kZ (jF hq)))));have u4:=hP2.cell 4 _ rfl;have f4:=hP2.free 4;have aU:=eu (iK hown2 aR.out);have aV:=eu hP2;clear hown2 hg2 aS hP2))
    clear aA aQ aR aN af az aO aP bE z2;obtain⟨hP3,aB⟩:=aV.out.l6 (p':={p with st:=([]:List Ps.Op)}) (sv':=.slice ka (0) kc) rfl rfl rfl rfl aU.out;obtain⟨w3,hw3⟩:=eX (w2.setCell ⟨c.pb,4,none⟩ (.slice ka (0) kc));rw[hw3]at hP3 aB;obtain⟨HT3,aC,HW3⟩:=gW (HT2.out.trans aB) hP3 hw3;clear hP3 aB hw3 aV HT2 aU;rw[HW3.out];clear HW3 u4 f4;have u2:w3.cell? ⟨c.pb,2,none⟩=some (.int .i64 p.doc):=aC.out.cell 2 _ rfl;have hh:=HH.out;rw[HU.out]at hh;obtain⟨mm,e1,e2⟩:=hh;obtain rfl:mm=d:=by omega
    have hv:=bn.out w3 _ _ _ {p with st:=([]:List Ps.Op)} aC.out mm rfl (gG _) e2;clear e1 e2;have hvk:∀k:Int,k=(mm:Int)->Calls prog 69 #[RG c.pb,.int .i64 k,.int .i64 a] w3 (nC w0 w3 c (.slice ka 0 kc) (.bool (Ps.value c.l c.rs c.depth {p with st:=([]:List Ps.Op)} k a).2) (Ps.value c.l c.rs c.depth {p with st:=([]:List Ps.Op)} k a).1):=by rintro _ rfl;exact hv
    replace hv:=hvk p.doc bq.out;clear hvk;obtain⟨V,hV⟩:=eX (Ps.value c.l c.rs c.depth {p with st:=([]:List Ps.Op)} p.doc a);rw[hV]at hv;obtain⟨HV,bH⟩:=fD hv hV;clear hv hV aC;go_wp2_with fail
    refine HV.out.mono ?_;rintro e5 w5 ⟨rfl,e6,R6,ae,ah⟩;have d3:=ae.cell 3 _ rfl;have f3:=ae.free 3;obtain⟨aW,aX⟩:=ae.toCell (p':={V.1 with root:=V.2}) (i:=3) (u:=.bool V.2) rfl rfl rfl;have HD:=eu (HQ.out _ _ (by unfold Ps.bare;rw[HU.out];show(if p.root=true then _ else _)=_;rw[eQ (by rw[bB.out];decide),bH.out]) ⟨_,_,_,aW,(HT3.out.trans ah).trans aX⟩);clear ae ah aW aX HV HT3 u2;go_wp2_with fail
    first|exact HD.out|(go_end0;exact HD.out)|(go_ret;exact HD.out)
  |cons o q=>
   obtain rfl:k=(q.length:Int):=by rw[hk,gy];omega
   clear hk;obtain⟨g,rfl,hrl,y2,y4⟩:=bg.out wr HB.out pre o q HS.out;obtain⟨M,hM⟩:=eX (q.length);have HM:=eu hM;rw[hM]at hrl y2 y4⊢;clear hM;by_cases hcl:r.fo<=o.fo
   ·have gg:o.fo>=r.fo:=hcl;have gk:(M:Int)<(SL:Int):=by omega
    go_wp2_with fail
    go_big_quiet (fail)
    have HB2:=eu (HB.out.trans ((gB (fu _ wr) nq).mono HB.out.size));have HS2:=eu (show p.st=(pre++[o])++q by rw[HS.out];simp)
    have aY:=eu (show∀y∈pre++[o],r.fo<=y.fo from λy hy=>by
     rcases kS.1 hy with h|h
     ·exact aj.out y h
     obtain rfl:y=o:=by simpa using h
     exact hcl)
    clear q0 q3 q4 q1 y2 y4 gg HB HS aj hcl;go_wp2_with fail
    go_roundw
    case rel=>exact⟨_,pre++[o],q,by go_num,by rw[HM.out],HS2,aY,HB2⟩
    case measure=>simp[intOf];try omega
   have hu:p.st.dropWhile (λo=>decide (r.fo<=o.fo))=o::q:=by
    rw[HS.out,qR (λo ho=>iO (aj.out o ho)),xS,eQ (by simpa using hcl)]
   rw[bA.out]at hu;cases hu
end
section
open Go.RowKit
open Sq
open Ar
theorem Q9(w0 w:World)(c:Cx)(e:Nat)(p:Ps.PS)(sv:Value)(R:Nat->Prop)(r:Rw.R)(a b:Nat)(B:Ps.Bs)(h:PG w0 w c e p sv R)(hrs:c.rs=Rw.fE c.l)(hO:Ps.sS c.l B a p)(hB:B.1<=a)(hab:a<b)(hb:b<=c.l.length)(hdp:p.st.length<=c.depth)(aa:c.depth<=50)
 (hn:p.s.t.length<=450000000000) (hd:p.s.d.length<=450000000000):
 Calls prog 72 #[RG c.pb,.agg #[.int .i64 r.kind,.int .i64 r.from',.int .i64 r.au,.int .i64 r.fo],.int .i64 a,.int .i64 b] w (iJ w0 w c (.tuple #[]) (Ps.bare c.l c.rs c.depth p r a b)):=by
 by_cases hdw:p.st.dropWhile (λo=>decide (r.fo<=o.fo))=[]
 ·exact NC w0 w c e p sv R r a b B h hrs hO hB hab hb hdp aa hdw hn hd
 exact NA w0 w c e p sv R r a b B h hrs hO hB hab hb hdp aa hdw hn hd
end
section
open Go.RowKit
open Sq
open Ar
theorem PY(w0 w:World)(c:Cx)(e:Nat)(p:Ps.PS)(sv:Value)(R:Nat->Prop)(x:Rw.E)(e0:Nat)(B:Ps.Bs)(h:PG w0 w c e p sv R)(hO:Ps.sS c.l B e0 p)(hB:B.1<=x.from')(he:e0<=x.from')(hlt:x.from'<x.au)(hle:x.au<=c.l.length)(hd1:1<=c.depth)(aa:c.depth<=50)(hst:p.st.length<=100000)
 (hn:p.s.t.length<=600000000000):
 Calls prog 73 #[RG c.pb,.agg #[.bool x.dash,.int .i64 x.fo,.int .i64 x.from',.int .i64 x.au]] w (iJ w0 w c (.int .i64 (Ps.place c.l c.depth p x).1) (Ps.place c.l c.depth p x).2):=by
 cases hdw:p.st.dropWhile (λo=>decide (x.fo<o.fo))with
 |nil=>exact K7 w0 w c e p sv R x e0 B h hO hB he hlt hle hd1 aa hst hdw hn
 |cons o r=>
  have hne:p.st.dropWhile (λo=>decide (x.fo<o.fo))≠[]:=by rw[hdw];exact List.cons_ne_nil _ _
  have key:∀P:Ps.Op->List Ps.Op->Prop,P o r->∀o' r',p.st.dropWhile (λo=>decide (x.fo<o.fo))=o'::r'->P o' r':=by
   intro P hP o' r' h';rw[hdw]at h';injection h' with h1 h2
   subst h1 h2;exact hP
  by_cases hc:o.fo=x.fo
  ·by_cases hk:o.kind=Ps.kindOf x
   ·exact K9 w0 w c e p sv R x e0 B h hO hB he hlt hle hd1 aa hst ⟨hne,key _ ⟨hc,hk⟩⟩ hn
   by_cases hk3:Ps.kindOf x=3
   ·exact K6 w0 w c e p sv R x e0 B h hO hB he hlt hle hd1 aa hst ⟨hne,key _ ⟨hc,hk,hk3⟩⟩ hn
   exact K8 w0 w c e p sv R x e0 B h hO hB he hlt hle hd1 aa hst ⟨hne,key _ ⟨hc,hk,hk3⟩⟩ hn
  by_cases hr:r=[]
  ·exact K4 w0 w c e p sv R x e0 B h hO hB he hlt hle hd1 aa hst ⟨hne,key _ ⟨hc,hr⟩⟩ hn
  exact K5 w0 w c e p sv R x e0 B h hO hB he hlt hle hd1 aa hst ⟨hne,key _ ⟨hc,hr⟩⟩ hn
end
section
open Go.RowKit
open Sq
open Ar
open Fl (Tk raw jh iM cnt back fQ gI)
theorem Jl{w w':World}{B T s n:Nat}{v:Value}{xs:List Value}(h:w.ownsRow B T s v n xs)(hT:TF w w')(h1:62≠T)(h2:65≠T)(h3:114≠T)(h4:89≠T):w'.ownsRow B T s v n xs:=by
 refine il h (λg hgg=>?_);rcases h.2 with⟨h1',_⟩|⟨b,cap,cur,hv,_,hh,_⟩
 ·rw[h1']at hgg;cases hgg
 rw[hv]at hgg;obtain rfl:b=g:=by simpa [Value.ownBlock]using hgg
 exact hT b _ _ _ hh h1 h2 h3 h4
theorem ND(w0 w:World)(c:Cx)(e:Nat)(p:Ps.PS)(sv:Value)(R:Nat->Prop)(r:Rw.R)(e0:Nat)(B:Ps.Bs)(h:PG w0 w c e p sv R)(hrs:c.rs=Rw.fE c.l)(ht:Rw.jl 0 c.l)(hf:∀x∈c.l,x.2.1<=1000000)(hI:Ps.Inv c.l B e0 p)(hr:Ps.l8 c.l r)(h5:r.kind=5)(hB:B.1<=r.from')(he:e0<=r.from')(hd1:1<=c.depth)(aD:c.depth<=50)(hdp:p.st.length<=c.depth)(hcs:(Rw.lC c.l r).1=[])
 (hn:p.s.t.length<=420000000000) (hd:p.s.d.length<=420000000000):
 Calls prog 44 #[RG c.pb,.agg #[.int .i64 r.kind,.int .i64 r.from',.int .i64 r.au,.int .i64 r.fo]] w (iJ w0 w c (.tuple #[]) (Ps.body c.l c.rs c.depth p r)):=by
 have hls:=h.toks.2.2.2;have hlt:=hr.lt;have hle:=hr.le;have hlo:=hr.body h5;have hge:=Ps.jJ c.l r.from' r.au;have hcnt:=Ps.wE c.l hlo;obtain⟨n1,n2,n3,n4⟩:=Ps.tq ht hr h5;have hbl:=fQ c.l r.au (Ps.lo c.l r.from' r.au);have hbg:=Ps.pW c.l r.au _ _ (fC _) hlo hcnt;have hbody:=Ps.KX c.l c.rs c.depth p r hcs;obtain⟨w1,hw1⟩:=eX (w.alloc (.cells #[.int .i64 r.kind,.int .i64 r.from',.int .i64 r.au,.int .i64 r.fo] 67));have hb1:Below w.heap.size w w1:=hw1▸(fu _ w).alloc (fC _) _;have hX1:RB w1 w.heap.size r.kind r.from' r.au r.fo:=hw1▸RB.new w _ _ _ _;have hP1:=h.below hb1;have hT1:=TF.below hb1;have aa:=kD w0 w1 c e p sv R r.from' r.au hP1 (by omega) hle;obtain⟨bx,hbx⟩:=eX (w.heap.size);rw[hbx]at hX1;have x1:=hX1.c1;have x2:=hX1.c2;obtain⟨a,ha⟩:=eX (Ps.lo c.l r.from' r.au);rw[ha]at hlo hge hcnt n1 n3 hbl hbg hbody aa;obtain⟨b,hb⟩:=eX (back c.l r.au a);rw[hb]at n1 hbl hbg hbody aa;have af:=C9 w0 w1 c e p sv R a e0 B hP1 hI (by omega) (by omega) (by omega);obtain⟨o1,o2⟩:=Ps.nK hI (i:=a) (by omega) (by omega);have st1:=Ps.qM p a c.depth hdp;have aF:=Ps.oW p a;have aA:=Ps.tF p a;obtain⟨P1,hp1⟩:=eX (Ps.gu p a);rw[hp1]at o1 o2 st1 aF aA hbody af;have hent:=λW (hR:Reads iZ W c.tv c.l)=>BM c.tv c.l r W hR hls hf hlt hle
 obtain⟨EN,aG⟩:=eX (Rw.lC c.l r);rw[aG]at n1 n2 n3 n4 hent hcs;obtain⟨ES,RS⟩:=EN;dsimp only at n1 n2 n3 n4 hent hcs;obtain⟨Q,hQ⟩:=eX (iJ w0 w c (.tuple #[]) (Ps.body c.l c.rs c.depth p r));have HQ:=eu (λW p' (hz:Ps.body c.l c.rs c.depth p r=p')(h:∃e sv R,PG w0 W c e p' sv R/\TF w W)=>show Q (.returned (.tuple #[])) W from by rw[<-hQ,hz];exact⟨rfl,h⟩);rw[hQ];obtain⟨aB,ax,aH,aN,HW1,HX⟩:=j6 hbody aa af o1 hw1 hX1;obtain⟨HT,aO⟩:=fD hT1 st1;have ay:P1.s.t.length<=420000000001:=by omega
 have az:P1.s.d.length<=420000000000:=by rw[aA];exact hd
 obtain⟨aP,aQ⟩:=fD ay az;have hBa:B.1<=a:=by omega
 have aT:a<=100000:=by omega
 have hb5:b<=100000:=by omega
 have hbL:b<=c.l.length:=by omega
 have hbt:b<=r.au:=by omega
 subst hcs
 have aI:=eu (λW (hR:Reads iZ W c.tv c.l)=>show Calls prog 71 #[c.tv,.agg #[.int .i64 r.kind,.int .i64 r.from',.int .i64 r.au,.int .i64 r.fo]] W (λen w'=>∃ea ec,en=.returned (.tuple #[.slice ea 0 ec,.int .i64 (RS:Nat)])/\Below W.heap.size W w')from
  (hent W hR).mono λen w' h=>by
   obtain⟨a',c',h1,h2,h3⟩:=h.read
   exact⟨a',c',h1,h3⟩)
 have aS:RS<=100000:=by omega
 clear hQ h hP1 hX1 hT1 hw1 hbody aa af o1 o2 st1 aF aA ay az hn hd hb1 hI hr ht hf hcnt hent aG hp1 hb ha hdp hlo hge hbl h5 he hB n1 n2 n3 n4
 go_enter func44,ntmps44
 go_upto_region 1 with fail
 rw[HW1.out];go_wp2_with fail
 refine ax.out.mono ?_;rintro e1 v1 ⟨rfl,rfl⟩;clear x1 x2 ax;go_wp2_with fail
 refine aH.out.mono ?_;rintro e2 w2 ⟨rfl,e3,aR,R2,hP2,aC⟩;have ag:=eu (hP2.below (fu _ w2).drew);have HT2:=eu ((HT.out.trans aC).trans (TF.below (fu _ w2).drew));have ae:=eu ((HX.out.keep aC).keep (TF.below (fu _ w2).drew));clear hP2 aC aH HX HT HW1;have r0:w2.drew.cell? ⟨c.pb,0,none⟩=some (RG c.rb):=ag.out.cell 0 _ rfl;have rt:w2.drew.cell? ⟨c.rb,0,none⟩=some c.tv:=ag.out.gs.toks.1;have ai:=ae.out.c0;have aj:=ae.out.c1;have ak:=ae.out.c2;have av:=ae.out.c3;go_upto_region 3 with fail
 refine fB (λwx=>wx.cell? ⟨c.pb,0,none⟩=some (RG c.rb)/\wx.cell? ⟨c.rb,0,none⟩=some c.tv/\wx.cell? ⟨bx,0,none⟩=some (.int .i64 r.kind)/\wx.cell? ⟨bx,1,none⟩=some (.int .i64 r.from')/\wx.cell? ⟨bx,2,none⟩=some (.int .i64 r.au)/\wx.cell? ⟨bx,3,none⟩=some (.int .i64 r.fo)) 8 (by kernel_rfl) ?_;have hH:(λwx:World=>wx.cell? ⟨c.pb,0,none⟩=some (RG c.rb)/\wx.cell? ⟨c.rb,0,none⟩=some c.tv/\wx.cell? ⟨bx,0,none⟩=some (.int .i64 r.kind)/\wx.cell? ⟨bx,1,none⟩=some (.int .i64 r.from')/\wx.cell? ⟨bx,2,none⟩=some (.int .i64 r.au)/\wx.cell? ⟨bx,3,none⟩=some (.int .i64 r.fo)) w2.drew:=⟨r0,rt,ai,aj,ak,av⟩
 refine fM 0 (RG c.pb) rfl (by kernel_rfl) rfl eY (λW=>by go_simp) (λ_=>hH) ?_;refine fM 1 (.pointer (some ⟨c.pb,0,none⟩)) rfl (by kernel_rfl) rfl eY (λW=>by go_simp) (λ_=>hH) ?_;refine fM 2 (.pointer (some ⟨c.pb,0,none⟩)) rfl (by kernel_rfl) rfl eY (λW=>by go_simp) (λ_=>hH) ?_;refine fV [8,6,5,4] (i:=3) (oi:=⟨_,_,_,_,_,_⟩) (v:=RG c.rb) rfl (by kernel_rfl) (by kernel_rfl) (by kernel_rfl) (by kernel_rfl) (by kernel_rfl) eY (Or.inl ⟨rfl,λW hW=>?_⟩) hH ?_
 ·refine fZ.of_run ?_;obtain⟨z0,z1,z2,z3,z4,z5⟩:=hW;go_simp
 try simp only[Act.put,fF,fH,fG]
 refine fM 4 (.pointer (some ⟨c.rb,0,none⟩)) rfl (by kernel_rfl) rfl eY (λW=>by go_simp) (λ_=>hH) ?_;refine fM 5 (.pointer (some ⟨c.rb,0,none⟩)) rfl (by kernel_rfl) rfl eY (λW=>by go_simp) (λ_=>hH) ?_;refine fw 6 (c.tv) rfl (by kernel_rfl) rfl eY (λW hW=>?_) hH ?_
 ·obtain⟨z0,z1,z2,z3,z4,z5⟩:=hW;go_simp
 refine fw 7 (.agg #[.int .i64 r.kind,.int .i64 r.from',.int .i64 r.au,.int .i64 r.fo]) rfl (by kernel_rfl) rfl eY (λW hW=>?_) hH ?_
 ·obtain⟨z0,z1,z2,z3,z4,z5⟩:=hW;go_simp
 refine iD 8 (by kernel_rfl) rfl λK hK=>?_
 go_simp;refine(aI.out w2.drew ag.out.gs.toks.2.2.1).mono ?_;rintro e4 w3 ⟨ea,ec,rfl,hb3⟩;have aJ:=eu (ag.out.below hb3);have HT3:=eu (HT2.out.trans (TF.below hb3));have ah:=eu (ae.out.keep (TF.below hb3));clear hb3 ag HT2 ae r0 rt ai aj ak av aI;refine hK.out _ _ (jg (by kernel_rfl)) (λ_=>?_);clear hK K;try simp only[Act.put,fF,fH,fG]
 refine fM 9 (.tuple #[.slice ea 0 ec,.int .i64 (RS:Int)]) rfl (by kernel_rfl) rfl eY (λW=>by go_simp) (jg (by kernel_rfl)) ?_;refine fM 10 (.slice ea 0 ec) rfl (by kernel_rfl) rfl eY (λW=>by go_simp) (jg (by kernel_rfl)) ?_;refine fM 11 (.int .i64 (RS:Int)) rfl (by kernel_rfl) rfl eY (λW=>by go_simp) (jg (by kernel_rfl)) ?_;refine fM 12 (.slice ea 0 ec) rfl (by kernel_rfl) rfl eY (λW=>by go_simp) (jg (by kernel_rfl)) ?_;refine fM 13 (.int .i64 (RS:Int)) rfl (by kernel_rfl) rfl eY (λW=>by go_simp) (jg (by kernel_rfl)) ?_;refine fA (by kernel_rfl) ?_ _;have ai:=ah.out.c0;have aj:=ah.out.c1;have ak:=ah.out.c2;have av:=ah.out.c3;have aK:=eu (Q9 w0 w3 c e3 P1 aR R2 r a b B aJ.out hrs aN.out hBa hbg (by omega) aO.out aD (by have h9:=aP.out;omega) (by have h9:=aQ.out;omega));go_wp2_with fail
 refine aK.out.mono ?_;rintro e5 w5 ⟨rfl,e6,s6,R6,aL,aM⟩;have HD:=eu (HQ.out w5 _ aB.out ⟨_,_,_,aL,HT3.out.trans aM⟩);clear aL aM aK aJ HT3 ah ai aj ak av;go_wp2_with fail
 first|exact HD.out|(go_end0;exact HD.out)|(go_ret;exact HD.out)
end
end Go.Proofs.YtfbiffdmhcjhbaaGreat

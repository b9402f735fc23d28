import Derived.Test.YtfbiffdmhcjhbaaGreatZa26
import Derived.Test.YtfbiffdmhcjhbaaGreatZa38
set_option linter.all false
set_option maxHeartbeats 16000000
set_option maxRecDepth 100000
set_option synthInstance.maxSize 4000
set_option synthInstance.maxHeartbeats 0
namespace Go.Proofs.YtfbiffdmhcjhbaaGreat
open Go.RowKit Tryz
section
open Go.RowKit
open Sq
open Ar
open Fl (Tk)
def TD(w wr:World)(v:Value)(D:List Fl.Dg):Prop:=wr.ownsRow w.heap.size 89 3 v D.length (gD.all D)/\Below w.heap.size w wr
section
variable {w wr wq w6:World}{v v6:Value}{D:List Fl.Dg}{x:Fl.Dg}
theorem TD.below(h:TD w wr v D)(hb:Below wr.heap.size wr wq):TD w wq v D:=⟨fI h.1 hb,eU h.2 hb⟩
theorem TD.more(h:TD w wq v D)(hg:wq.grownBy w6 v.ownBlock)(hown:w6.ownsRow w.heap.size 89 3 v6 (D++[x]).length (gD.all (D++[x]))):TD w w6 v6 (D++[x]):=
 ⟨hown,h.2.grown hg h.2.size (λq hq=>(h.1.lt q hq).1)⟩
theorem TD.shape(h:TD w wr v D):∃a cap,v=.slice a D.length cap:=(Reads.fJ (E:=gD) h.1).shape
theorem TD.ints{v':Value}{n:Nat}{xs:List Value}{B:Nat}(h:TD w wq v D)(hg:wq.grownBy w6 v.ownBlock)(hO:wq.ownsRow B 3 1 v' n xs):w6.ownsRow B 3 1 v' n xs:=
 il hO (λg hgg=>hg.block g (hO.lt g hgg).2 (λe'=>gU hO h.1 (by decide) g hgg e'.symm))
theorem TD.nil:TD w w (.slice none 0 0) []:=⟨jq gD _ _,fu _ _⟩
end
theorem ng{w:World}{a:Option Addr}{n cap B:Nat}{L:List Nat}(h:w.ownsRow B 3 1 (.slice a n cap) L.length (places L))(j p:Nat)(hj:L[j]?=some p):∃b,a=some ⟨b,0,none⟩/\w.cell? ⟨b,j,none⟩=some (.int .i64 (p:Int)):=by
 have hl:=(fT.1 hj).1;have hO:w.ownsRow B 3 encI.k (.slice a n cap) (L.map (fun(p:Nat)=>(p:Int))).length (encI.all (L.map (fun(p:Nat)=>(p:Int)))):=by
  rw[nP,<-sK];exact h
 obtain⟨g,cap',hv,-,-,-,-⟩:=jG (E:=encI) hO (by rw[nP];omega);injection hv with h1 h2 h3
 have:=h.cells (g:=g) (by rw[h1];rfl) j (.int .i64 (p:Int)) (by unfold places;rw[nO,hj];rfl);rw[iy,j5]at this;exact⟨g,h1,this⟩
theorem xL{w:World}{v:Value}{B:Nat}{L:List Nat}(h:w.ownsRow B 3 1 v L.length (places L)):∃a cap,v=.slice a L.length cap:=by
 have hO:w.ownsRow B 3 encI.k v (L.map (fun(p:Nat)=>(p:Int))).length (encI.all (L.map (fun(p:Nat)=>(p:Int)))):=by
  rw[nP,<-sK];exact h
 obtain⟨a,cap,hv⟩:=(Reads.fJ (E:=encI) hO).shape;rw[nP]at hv;exact⟨a,cap,hv⟩
theorem Rb(w:World)(bv tv rv:Value)(b:ByteArray)(l:List Tk)(rs:List Rw.R)(hb:ou w bv b)(htk:Reads iZ w tv l)(hrr:Reads encR w rv rs)(hbz:b.size<=100000)(hlz:l.length<=100000)(hrz:rs.length<=100000)(hq:∀x∈l,Mf b x)(hro:∀r∈rs,r.from'<r.au/\r.au<=l.length):
 Calls prog 28 #[bv,tv,rv] w (λen w'=>∃v,en=.returned v/\TD w w' v ((Sg.bad b).map Ps.uw++rs.flatMap (Ps.tabs (Sc.fP b) l)++l.flatMap (Ps.jY (Sc.fP b)))):=by
 obtain⟨ba',bc,rfl⟩:=hb.shape;obtain⟨ta,tc,rfl⟩:=htk.shape;obtain⟨ra,rc,rfl⟩:=hrr.shape;obtain⟨DF,bM⟩:=eX ((Sg.bad b).map Ps.uw++rs.flatMap (Ps.tabs (Sc.fP b) l)++l.flatMap (Ps.jY (Sc.fP b)));rw[bM];have dS:=eu bM;obtain⟨Q,hQ⟩:=eX ((λen w'=>∃v,en=Ending.returned v/\TD w w' v DF));have HQ:=eu (λw' v (h:TD w w' v DF)=>show Q (.returned v) w' from by rw[<-hQ];exact⟨v,rfl,h⟩);rw[hQ];have bf:=eu (PU b _ w hb (by omega));have bN:=eu (λW (hW:Below w.heap.size w W) j x (hj:l[j]?=some x)=>iG (htk.below hW) j x hj);have df:=eu (λW (hW:Below w.heap.size w W) j x (hj:rs[j]?=some x)=>og (hrr.below hW) j x hj);have dh:=eu (λW (hW:Below w.heap.size w W)=>hb.below hW);have dU:=eu (fun(k:Nat)(W:World)=>rF k W);have af:=eu (fun(k:Int)(s:ByteArray)(hs:s.size<=100000)(W:World)=>QT k s W hs);obtain⟨di,dV⟩:=fD hq hro;have hbl:=Sg.Eh b;have bI:∀p∈Sg.bad b,p<=100000:=λp hp=>by
  rw[Jg]at hp;have:=Ps.Jf _ _ _ p hp;rw[Sc.ll]at this;omega
 have hft:∀i,((rs.take i).flatMap (Ps.tabs (Sc.fP b) l)).length<=10000000000:=λi=>by
  have h1:=Ps.uQ (Sc.fP b) l (rs.take i) (λr hr=>(hro r (OA hr)).2);have h2:(rs.take i).length<=100000:=by rw[jQ];omega
  have h3:=H9 h2 hlz;omega
 have dm:∀k,((l.take k).flatMap (Ps.jY (Sc.fP b))).length<=200000000000:=λk=>by
  have h1:=y5 b (l.take k) (λx hx=>hq x (OA hx));have h2:(l.take k).length<=100000:=by rw[jQ];omega
  have h3:=Qz 1000001 h2;omega
 obtain⟨dn,dW,dw⟩:=gW hft dm bI;obtain⟨BS,bO⟩:=eX (b.size);obtain⟨NL,bP⟩:=eX (l.length);obtain⟨NR,bQ⟩:=eX (rs.length);obtain⟨BD,bR⟩:=eX (Sg.bad b);rw[bR]at hbl;obtain⟨NB,bS⟩:=eX (BD.length);obtain⟨aS,bE,dx,bT,bg⟩:=xZ bO bP bQ bR bS;rw[bO]at hbz hbl bf⊢;rw[bP]at hlz⊢;rw[bQ]at hrz⊢;rw[bS]at hbl;have HT0:=eu (TD.nil (w:=w));clear bM hQ hb htk hrr hq hro bI hft dm bO bP bQ bR bS
 go_enter func28,ntmps28
 go_wp2_with fail
 refine bf.out.mono ?_;rintro e1 w1 ⟨va,rfl,bF,hb1⟩;rw[bT.out]at bF;obtain⟨aa,ac,rfl⟩:=xL bF;rw[bg.out];have HT1:=eu (HT0.out.below hb1);have dA:=eu (show w1.ownsRow w.heap.size 3 1 (.slice aa NB ac) BD.length (places BD)from by rw[<-bg.out];exact bF);clear bF hb1 bf HT0;go_wp2_with fail
 go_loopw [7,9] (λdv iv wr=>∃(i:Nat)(D:List Fl.Dg),iv=.int .i64 i/\i<=NB/\Hid (D=(BD.take i).map Ps.uw)/\Hid (TD w wr dv D)/\Hid (wr.ownsRow w.heap.size 3 1 (.slice aa NB ac) BD.length (places BD))) (λ_ iv _=>NB-(intOf iv).toNat)
 case atStart=>exact⟨0,[],rfl,gG _,eu rfl,HT1,dA⟩
 case round=>
  obtain⟨i,D,rfl,hi,HD,ai,HO⟩:=hrel;obtain⟨da,dc,rfl⟩:=ai.out.shape;obtain⟨DN,aK⟩:=eX (D.length);have dB:=eu aK;rw[aK];by_cases hlt:i<NB
  ·obtain⟨p,hp⟩:=iT BD i (by rw[bg.out];omega);obtain⟨bb,rfl,hc⟩:=ng HO.out i p hp;have hdl:DN<=100000:=by rw[<-aK,HD.out,nP,jQ];omega
   have eH:p<=100000:=dw.out p (by rw[bT.out];exact nQ hp);have ax:=eu (show TD w wr.drew (.slice da DN dc) D from by rw[<-aK];exact ai.out.below (fu _ wr).drew);have aH:=eu (fI HO.out (fu _ wr).drew);obtain⟨p1,hp1⟩:=eX (p+1);have gw:IntKind.i64.wrap ((p:Int)+1)=(p1:Int):=by rw[show(p:Int)+1=(p1:Int)by omega];exact jC _ (by omega)
   have bn:=eu (show D++[(⟨1,p,p1⟩:Fl.Dg)]=(BD.take (i+1)).map Ps.uw by rw[HD.out,Ps.mX hp,Cu,<-hp1];rfl);have aA:=eu (show D.length+1<=maxLen by rw[aK];simp only[maxLen];omega);have aB:=eu (show(D.length+1)*24<=140737488355328 by rw[aK];omega);have gi:(i:Int)<(NB:Int):=by omega
   have hcd:wr.drew.cell? ⟨bb,i,none⟩=some (.int .i64 (p:Int)):=hc;have HP:=eu hp;clear hp aK ai HO hp1;go_upto_region 6 with fail
   clear hc;refine fB (λwx=>wx.cell? ⟨bb,i,none⟩=some (.int .i64 (p:Int))) 12 (by kernel_rfl) ?_;have hH:(λwx:World=>wx.cell? ⟨bb,i,none⟩=some (.int .i64 (p:Int))) wr.drew:=hcd;refine fw 0 (.slice da DN dc) rfl (by kernel_rfl) rfl eY (λW hW=>by go_simp) hH ?_;refine fM 1 (.slice (some ⟨bb,0,none⟩) NB ac) rfl (by kernel_rfl) rfl eY (λW=>by go_simp) (λ_=>hH) ?_;refine fM 2 (.int .i64 (i:Int)) rfl (by kernel_rfl) rfl eY (λW=>by go_simp) (λ_=>hH) ?_;refine fM 3 (.pointer (some ⟨bb,i,none⟩)) rfl (by kernel_rfl) rfl eY (λW=>by go_simp) (λ_=>hH) ?_;refine Cr 11 10 4 (.int .i64 (p:Int)) rfl (by kernel_rfl) rfl eY (λW hW=>by go_simp) hH ?_;refine fM 5 (.slice (some ⟨bb,0,none⟩) NB ac) rfl (by kernel_rfl) rfl eY (λW=>by go_simp) (λ_=>hH) ?_;refine fM 6 (.int .i64 (i:Int)) rfl (by kernel_rfl) rfl eY (λW=>by go_simp) (λ_=>hH) ?_;refine fM 7 (.pointer (some ⟨bb,i,none⟩)) rfl (by kernel_rfl) rfl eY (λW=>by go_simp) (λ_=>hH) ?_;refine fV [12,11,10,9] (i:=8) (oi:=⟨_,_,_,_,_,_⟩) (v:=.int .i64 (p:Int)) rfl (by kernel_rfl) (by kernel_rfl) (by kernel_rfl) (by kernel_rfl) (by kernel_rfl) eY (Or.inl ⟨rfl,λW hW=>?_⟩) hH ?_
   ·refine fZ.of_run ?_;have z0:=hW;go_simp
   try simp only[Act.put,fF,fH,fG]
   refine fM 9 (.int .i64 (p1:Int)) rfl (by kernel_rfl) rfl eY (λW=>by go_simp) (λ_=>hH) ?_;refine fM 10 (.agg #[.int .i64 1,.int .i64 (p:Int),.int .i64 (p1:Int)]) rfl (by kernel_rfl) rfl eY (λW=>by go_simp) (λ_=>hH) ?_;refine iD 11 (by kernel_rfl) rfl λK hK=>?_
   go_simp;obtain⟨wx,hwx⟩:=eX ((wr.alloc (.cells #[.int .i64 1,.int .i64 (p:Int),.int .i64 (p1:Int)] 89)).drew);rw[hwx];have hbx:Below wr.drew.heap.size wr.drew wx:=by rw[<-hwx];exact eZ wr.drew _
   have ah:=eu (show∀jj cc,(gD.all [(⟨1,p,p1⟩:Fl.Dg)])[jj]?=some cc->wx.cell? ⟨wr.heap.size,jj,none⟩=some cc from by
    intro jj cc hj;rw[<-hwx];show(wr.alloc _).cell? ⟨wr.heap.size,jj,none⟩=_;rw[o6]
    simpa [jV.all,gD,qC]using hj)
   obtain⟨af,aM,aC⟩:=gW (ax.out.below hbx) hbx (fI aH.out hbx);obtain⟨b1,e1,hcx⟩:=ng aC.out i p HP.out;injection e1 with e1
   injection e1 with e1
   subst e1;have hws:w.heap.size<=wx.heap.size:=af.out.2.size;have aD:=eu (show wx.ownsRow w.heap.size 89 gD.k (.slice da DN dc) D.length (gD.all D)from af.out.1);clear hwx hbx;refine hK.out _ _ (λ_=>hcx) (λhH2=>?_);clear hK K;replace hH:=hH2 (by kernel_rfl);clear hH2;try simp only[Act.put,fF,fH,fG]
   refine iD 12 (by kernel_rfl) rfl λK hK=>?_
   refine gT Ll rfl (.tmp 27) (.tmp 38) rfl w.heap.size (.slice da DN dc) D rfl aD.out wr.heap.size 1 [(⟨1,p,p1⟩:Fl.Dg)] rfl rfl ah.out aA.out aB.out hws ?_;intro v6 w6 hown6 ak aF;have aG:=af.out.more ak hown6;obtain⟨aT,aN⟩:=fD (af.out.ints ak aC.out) aG;clear hown6 ak aF aG aD ah af aM hws hcx aC;refine hK.out _ _ (jg (by kernel_rfl)) (λ_=>?_);clear hK K;try simp only[Act.put,fF,fH,fG]
   refine fM 13 v6 rfl (by kernel_rfl) rfl eY (λW=>by go_simp) (jg (by kernel_rfl)) ?_;refine fA (by kernel_rfl) ?_ _;clear ax aH aA aB gi hcd gw;rename_i aO;clear aO hH;go_wp2_with fail
   go_roundw
   case rel=>exact⟨i+1,_,by go_num,by omega,bn,aN,aT⟩
   case measure=>simp[intOf];omega
  obtain rfl:i=NB:=by omega
  have hD1:D=BD.map Ps.uw:=by rw[HD.out,<-bg.out,FC]
  have hdl:DN<=100000:=by rw[<-aK,hD1,nP,bg.out];omega
  have HD1:=eu hD1;have bJ:=eu (show TD w wr (.slice da DN dc) D from by rw[<-aK];exact ai.out);clear hD1 aK ai HO HD hlt dA HT1
  rename World=>wa
  rename List Fl.Dg=>D1
  go_wp2_with fail
  go_loopw [7,10] (λdv iv wr=>∃(i:Nat)(D:List Fl.Dg),iv=.int .i64 i/\i<=NR/\Hid (D=D1++(rs.take i).flatMap (Ps.tabs (Sc.fP b) l))/\Hid (TD w wr dv D)) (λ_ iv _=>NR-(intOf iv).toNat)
  case atStart=>exact⟨0,D1,rfl,gG _,eu (by rw[vS,Fz,kH]),bJ⟩
  case round=>
   obtain⟨i,D2,rfl,hi,HD2,aW⟩:=hrel;by_cases hlt:i<NR
   ·obtain⟨r,hr⟩:=iT rs i (by rw[dx.out];omega);obtain⟨r1,r2⟩:=dV.out r (nQ hr);rw[bE.out]at r2;obtain⟨rb,ro,hra,c0,c1,c2,-⟩:=df.out wr aW.out.2 i r hr;subst hra
    have dC:=eu (λW (hW:Below w.heap.size w W)=>show W.cell? ⟨rb,ro+i*4,none⟩=some (.int .i64 r.kind)/\W.cell? ⟨rb,ro+i*4+2,none⟩=some (.int .i64 r.au)from by
     obtain⟨b',o',e',k0,-,k2,-⟩:=df.out W hW i r hr;injection e' with e'
     injection e' with e1 e2
     subst e1 e2
     exact⟨k0,k2⟩)
    have hlo1:=Ps.jJ l r.from' r.au;have bq:=eu (Ps.E6 (Sc.fP b) l r);have bn:=eu (show D2++Ps.tabs (Sc.fP b) l r=D1++(rs.take (i+1)).flatMap (Ps.tabs (Sc.fP b) l)by rw[HD2.out,Ps.mX hr,LF,lT,nN,Fz,kH]);have hd2:D2.length<=10000100000:=by
     have h1:=dn.out i;have h2:=dB.out;rw[HD2.out,ig];omega
    obtain⟨F,hF⟩:=eX (r.from');obtain⟨T,hT⟩:=eX (r.au);obtain⟨KD,bU⟩:=eX (r.kind);obtain⟨LO,hLO⟩:=eX (Ps.lo l r.from' r.au);rw[hF]at c1 r1;rw[hLO,hF]at bq;rw[hLO,hF]at hlo1;rw[hT]at r1 r2;rw[bU]at bq;have dX:=eu (show Ps.lo l F T=LO by rw[<-hF,<-hT];exact hLO);have dD:=eu (λW (hW:Below w.heap.size w W)=>show W.cell? ⟨rb,ro+i*4,none⟩=some (.int .i64 (KD:Nat))/\W.cell? ⟨rb,ro+i*4+2,none⟩=some (.int .i64 (T:Nat))from by rw[<-bU,<-hT];exact dC.out W hW);have gi:(i:Int)<(NR:Int):=by omega
    have dE:=eu (show TD w wr _ (D2++Ps.rR (Sc.fP b) l F (F-F))from by rw[zl];show TD w wr _ (D2++[]);rw[kH];exact aW.out);clear hr hF hT bU hLO dC c0 c2 aW
    rename World=>wb
    go_wp2_with fail
    clear c1
    go_loopw [7,11] (λdv kv wr=>∃(k:Nat)(D:List Fl.Dg),kv=.int .i64 k/\F<=k/\k<=T/\Hid (¬KD=5->k=F)/\Hid (Ps.lo l k T=LO)/\Hid (D=D2++Ps.rR (Sc.fP b) l F (k-F))/\Hid (TD w wr dv D)) (λ_ kv _=>T-(intOf kv).toNat)
    case atStart=>exact⟨F,_,rfl,fC _,by omega,eu (λ_=>rfl),dX,eu rfl,dE⟩
    case round=>
     obtain⟨k,D,rfl,hk1,hk2,aY,aU,HD,ai⟩:=hrel;obtain⟨da,dc,rfl⟩:=ai.out.shape;obtain⟨av,ay⟩:=eX (D.length);rw[ay];have dF:av<=10000200000:=by
      have h1:=Ps.y8 (Sc.fP b) l F (k-F);rw[<-ay,HD.out,ig];omega
     have ag:=eu (show TD w wr (.slice da av dc) D from by rw[<-ay];exact ai.out);have aQ:=eu ay;clear ai ay;obtain⟨c0,c2⟩:=dD.out wr ag.out.2;by_cases dY:k<T
     ·by_cases h5:KD=5
      ·obtain⟨x,hx⟩:=iT l k (by rw[bE.out];omega);obtain⟨tb,ae,bV,t0,t1,t2⟩:=bN.out wr ag.out.2 k x hx;subst bV;have aI:=di.out x (nQ hx);have hlx:=Ps.Ni l dY hx;have hone:=Ps.GR (b:=Sc.fP b) hk1 hx;have bz:=eu (show D++(Ps.su (Sc.fP b) l F (k-F)).toList=D2++Ps.rR (Sc.fP b) l F (k+1-F)by rw[HD.out,lT,<-Ps.DK,show k+1-F=k-F+1 by omega]);have q1:=aI.lo;have q2:=aI.hi;rw[aS.out]at q2;obtain⟨x1,x2,x3⟩:=x;dsimp only at t0 t1 t2 hlx hone q1 q2;have hcl:=dU.out x1 wr;have g5:((KD:Int)==5)=true:=by simp;omega
       have bG:(k:Int)<(T:Int):=by omega
       have dG:(k:Int)<(NL:Int):=by omega
       have hc1:Sc.counts x1=Fl.cnt x1:=rfl;rw[hc1]at hcl;cases hcn:Fl.cnt x1 with
       |true=>
        rw[hcn]at hcl hlx;rw[eT rfl]at hlx;have hkl:LO=k:=by rw[<-aU.out];exact hlx
        have bA:=eu (show TD w wr (.slice da av dc) (D2++Ps.tabs (Sc.fP b) l r)from by
         have h1:=bq.out;rw[eT h5,hkl]at h1
         rw[h1,<-HD.out];exact ag.out)
        have HC:=eu hcl;clear hcl hlx hcn hone hkl bz hx q1 q2 t1 t2 hc1 h5 ag HD aY aU aI;go_wp2_with (refine HC.out.mono ?_;rintro e w1 ⟨rfl,rfl⟩)
        clear HC t0 c0 c2 g5 bG dG;go_wp2_with fail
        go_roundw
        case rel=>exact⟨i+1,_,by go_num,by omega,bn,bA⟩
        case measure=>simp[intOf];omega
       |false=>
        rw[hcn]at hcl hlx;rw[eQ (by decide)]at hlx;have HL2:=eu (show Ps.lo l (k+1) T=LO by rw[<-aU.out];exact hlx.symm);obtain⟨HC,aX,H5⟩:=gW hcl hone h5;clear hcl hlx hcn hone hx hc1 h5 aY aU aI;go_wp2_with (refine HC.out.mono ?_;rintro e w1 ⟨rfl,rfl⟩)
        clear HC c0 c2 g5;go_wp2_with fail
        have hbs:=dh.out wr ag.out.2
        have dH:=eu (fun(j:Nat)(hj:j<BS)=>show∃bb bo,ba'=some ⟨bb,bo,none⟩/\wr.cell? ⟨bb,bo+j,none⟩=some (.int .u8 (b.get! j).toNat)from by
         rcases hbs with⟨hv,hz⟩|⟨bb,bo,cap,hv,-,-,hcell⟩
         ·have h9:=aS.out;omega
         injection hv with hv _ _
         exact⟨bb,bo,hv,hcell j (by rw[aS.out];exact hj)⟩)
        clear hbs
        rename World=>wc
        go_loopw [12,13] (λfv jv wr=>∃(j:Nat),jv=.int .i64 j/\x2<=j/\j<=x3/\fv=.bool ((Ps.part (Sc.fP b) x2 j).contains 9)/\wc=wr) (λ_ jv _=>x3-(intOf jv).toNat)
        case atStart=>exact⟨x2,rfl,fC _,q1,by rw[Ps.GU];rfl,rfl⟩
        case round=>
         obtain⟨j,rfl,hj1,hj2,rfl,rfl⟩:=hrel;obtain⟨fl,hfl⟩:=eX ((Ps.part (Sc.fP b) x2 j).contains 9);rw[hfl];by_cases dZ:j<x3
         ·obtain⟨bb,bo,ed,hbc⟩:=dH.out j (by omega);subst ed;have hnx:=Ps.Kw (b:=Sc.fP b) hj1 (Nk b j (by rw[aS.out];omega));rw[hfl]at hnx;obtain⟨ch,hch⟩:=eX ((b.get! j).toNat);rw[hch]at hbc hnx;have gj:(j:Int)<(x3:Int):=by omega
          have eO:(j:Int)<(BS:Int):=by omega
          cases fl with
          |true=>
           have HN:=eu (show(Ps.part (Sc.fP b) x2 (j+1)).contains 9=true from by rw[hnx];rfl);clear hnx hch hfl;go_wp2_with fail
           go_roundw
           case rel=>exact⟨j+1,by go_num,by omega,by omega,by rw[HN.out],trivial⟩
           case measure=>simp[intOf];omega
          |false=>
           by_cases h9:ch=9
           ·have HN:=eu (show(Ps.part (Sc.fP b) x2 (j+1)).contains 9=true from by rw[hnx,h9];rfl);have g9:((ch:Int)==9)=true:=by simp;omega
            clear hnx hch hfl;go_wp2_with fail
            go_roundw
            case rel=>exact⟨j+1,by go_num,by omega,by omega,by rw[HN.out],trivial⟩
            case measure=>simp[intOf];omega
           have HN:=eu (show(Ps.part (Sc.fP b) x2 (j+1)).contains 9=false from by rw[hnx];simp[h9]);have g9:((ch:Int)==9)=false:=by simp;omega
           clear hnx hch hfl;go_wp2_with fail
           go_roundw
           case rel=>exact⟨j+1,by go_num,by omega,by omega,by rw[HN.out],trivial⟩
           case measure=>simp[intOf];omega
         obtain rfl:j=x3:=by omega
         clear dZ dH;have gj:¬(j:Int)<(j:Int):=by omega
         by_cases aR:x1=3/\fl=true
         ·obtain⟨y1,y2⟩:=aR;subst y2;have aZ:=eu (show D++[(⟨2,x2,j⟩:Fl.Dg)]=D2++Ps.rR (Sc.fP b) l F (k+1-F)by rw[<-bz.out,aX.out,eT ⟨y1,hfl⟩];rfl);have g3:((x1:Int)==3)=true:=by simp;omega
          have ax:=eu (show TD w wc.drew (.slice da av dc) D from ag.out.below (fu _ wc).drew);have aA:=eu (show D.length+1<=maxLen by rw[aQ.out];simp only[maxLen];omega);have aB:=eu (show(D.length+1)*24<=140737488355328 by rw[aQ.out];omega);have d1:wc.drew.cell? ⟨tb,ae+k*3+1,none⟩=some (.int .i64 (x2:Int)):=t1;have d2:wc.drew.cell? ⟨tb,ae+k*3+2,none⟩=some (.int .i64 (j:Int)):=t2;have t1d:=t1;have dI:=t2;obtain⟨dJ,dK⟩:=fD t1d dI;clear t1d dI hfl bz aX y1 ag HD;go_upto_region 19 with fail
          clear t0 t1 t2 g3 gj;refine fB (λwx=>wx.cell? ⟨tb,ae+k*3+1,none⟩=some (.int .i64 (x2:Int))/\wx.cell? ⟨tb,ae+k*3+2,none⟩=some (.int .i64 (j:Int))) 13 (by kernel_rfl) ?_;have hH:(λwx:World=>wx.cell? ⟨tb,ae+k*3+1,none⟩=some (.int .i64 (x2:Int))/\wx.cell? ⟨tb,ae+k*3+2,none⟩=some (.int .i64 (j:Int))) wc.drew:=⟨d1,d2⟩
          refine fw 0 (.slice da av dc) rfl (by kernel_rfl) rfl eY (λW hW=>by go_simp) hH ?_;refine fM 1 (.slice (some ⟨tb,ae,none⟩) NL tc) rfl (by kernel_rfl) rfl eY (λW=>by go_simp) (λ_=>hH) ?_;refine fM 2 (.int .i64 (k:Int)) rfl (by kernel_rfl) rfl eY (λW=>by go_simp) (λ_=>hH) ?_;refine fM 3 (.pointer (some ⟨tb,ae+k*3,none⟩)) rfl (by kernel_rfl) rfl eY (λW=>by go_simp) (λ_=>hH) ?_;refine fM 4 (.pointer (some ⟨tb,ae+k*3+1,none⟩)) rfl (by kernel_rfl) rfl eY (λW=>by go_simp) (λ_=>hH) ?_;refine Cr 12 11 5 (.int .i64 (x2:Int)) rfl (by kernel_rfl) rfl eY (λW hW=>?_) hH ?_
          ·obtain⟨z0,z1⟩:=hW;go_simp
          refine fM 6 (.slice (some ⟨tb,ae,none⟩) NL tc) rfl (by kernel_rfl) rfl eY (λW=>by go_simp) (λ_=>hH) ?_;refine fM 7 (.int .i64 (k:Int)) rfl (by kernel_rfl) rfl eY (λW=>by go_simp) (λ_=>hH) ?_;refine fM 8 (.pointer (some ⟨tb,ae+k*3,none⟩)) rfl (by kernel_rfl) rfl eY (λW=>by go_simp) (λ_=>hH) ?_;refine fM 9 (.pointer (some ⟨tb,ae+k*3+2,none⟩)) rfl (by kernel_rfl) rfl eY (λW=>by go_simp) (λ_=>hH) ?_;refine Cr 12 11 10 (.int .i64 (j:Int)) rfl (by kernel_rfl) rfl eY (λW hW=>?_) hH ?_
          ·obtain⟨z0,z1⟩:=hW;go_simp
          refine fM 11 (.agg #[.int .i64 2,.int .i64 (x2:Int),.int .i64 (j:Int)]) rfl (by kernel_rfl) rfl eY (λW=>by go_simp) (λ_=>hH) ?_;refine iD 12 (by kernel_rfl) rfl λK hK=>?_
          go_simp;obtain⟨wx,hwx⟩:=eX ((wc.alloc (.cells #[.int .i64 2,.int .i64 (x2:Int),.int .i64 (j:Int)] 89)).drew);rw[hwx];have hbx:Below wc.drew.heap.size wc.drew wx:=by rw[<-hwx];exact eZ wc.drew _
          have ah:=eu (show∀jj cc,(gD.all [(⟨2,x2,j⟩:Fl.Dg)])[jj]?=some cc->wx.cell? ⟨wc.heap.size,jj,none⟩=some cc from by
           intro jj cc hj;rw[<-hwx];show(wc.alloc _).cell? ⟨wc.heap.size,jj,none⟩=_;rw[o6]
           simpa [jV.all,gD,qC]using hj)
          obtain⟨af,aM⟩:=fD (ax.out.below hbx) hbx;have f1:wx.cell? ⟨tb,ae+k*3+1,none⟩=some (.int .i64 (x2:Int)):=fe hbx dJ.out;have f2:wx.cell? ⟨tb,ae+k*3+2,none⟩=some (.int .i64 (j:Int)):=fe hbx dK.out;have hws:w.heap.size<=wx.heap.size:=af.out.2.size;have aD:=eu (show wx.ownsRow w.heap.size 89 gD.k (.slice da av dc) D.length (gD.all D)from af.out.1);clear hwx hbx;refine hK.out _ _ (λ_=>⟨f1,f2⟩) (λhH2=>?_);clear hK K;replace hH:=hH2 (by kernel_rfl);clear hH2;try simp only[Act.put,fF,fH,fG]
          refine iD 13 (by kernel_rfl) rfl λK hK=>?_
          refine gT Ll rfl (.tmp 108) (.tmp 120) rfl w.heap.size (.slice da av dc) D rfl aD.out wc.heap.size 1 [(⟨2,x2,j⟩:Fl.Dg)] rfl rfl ah.out aA.out aB.out hws ?_;intro v6 w6 hown6 ak aF;have aG:=af.out.more ak hown6;have aN:=eu aG;clear hown6 ak aF aG aD ah af aM hws f1 f2;refine hK.out _ _ (jg (by kernel_rfl)) (λ_=>?_);clear hK K;try simp only[Act.put,fF,fH,fG]
          refine fM 14 v6 rfl (by kernel_rfl) rfl eY (λW=>by go_simp) (jg (by kernel_rfl)) ?_;refine fA (by kernel_rfl) ?_ _;clear ax aA aB d1 d2 bG dG aQ;rename_i aO;clear aO hH;go_wp2_with fail
          go_roundw
          case rel=>exact⟨k+1,_,by go_num,by omega,by omega,eu (λh=>absurd H5.out h),HL2,aZ,aN⟩
          case measure=>simp[intOf];omega
         have aZ:=eu (show D=D2++Ps.rR (Sc.fP b) l F (k+1-F)by rw[<-bz.out,aX.out,eQ (λh=>aR ⟨h.1,hfl▸h.2⟩)];simp);clear bz aX HD hfl;cases fl with
         |false=>
          clear aR;go_wp2_with fail
          go_roundw
          case rel=>exact⟨k+1,_,by go_num,by omega,by omega,eu (λh=>absurd H5.out h),HL2,aZ,ag⟩
          case measure=>simp[intOf];omega
         |true=>
          have g3:((x1:Int)==3)=false:=by simp;exact λh=>aR ⟨by omega,rfl⟩
          clear aR;go_wp2_with fail
          go_roundw
          case rel=>exact⟨k+1,_,by go_num,by omega,by omega,eu (λh=>absurd H5.out h),HL2,aZ,ag⟩
          case measure=>simp[intOf];omega
      have bA:=eu (show TD w wr (.slice da av dc) (D2++Ps.tabs (Sc.fP b) l r)from by
       have h1:=bq.out;rw[eQ h5]at h1;have h2:=HD.out;rw[aY.out h5,zl]at h2;rw[h1];have h3:D=D2++[]:=h2
       rw[<-h3];exact ag.out)
      have g5:((KD:Int)==5)=false:=by simp;omega
      have bG:(k:Int)<(T:Int):=by omega
      clear ag HD aY aU h5;go_wp2_with fail
      go_roundw
      case rel=>exact⟨i+1,_,by go_num,by omega,bn,bA⟩
      case measure=>simp[intOf];omega
     have hkk:k=T:=by omega
     have bA:=eu (show TD w wr (.slice da av dc) (D2++Ps.tabs (Sc.fP b) l r)from by
      have h1:=bq.out;have h2:=HD.out;have h3:=aU.out;rw[Ps.Nj l (by omega)]at h3;by_cases h5:KD=5
      ·rw[eT h5,<-h3]at h1;rw[h1,<-h2];exact ag.out
      rw[eQ h5]at h1;rw[aY.out h5,zl]at h2;rw[h1];have h4:D=D2++[]:=h2
      rw[<-h4];exact ag.out)
     have bG:¬(k:Int)<(T:Int):=by omega
     clear ag HD aY aU hkk;go_wp2_with fail
     go_roundw
     case rel=>exact⟨i+1,_,by go_num,by omega,bn,bA⟩
     case measure=>simp[intOf];omega
   obtain rfl:i=NR:=by omega
   have hD3:D2=D1++rs.flatMap (Ps.tabs (Sc.fP b) l):=by rw[HD2.out,<-dx.out,FC]
   have hd3:D2.length<=10000100000:=by
    have h1:=dn.out i;have h2:=dB.out;rw[HD2.out,ig];omega
   obtain⟨HD3,eB⟩:=fD hD3 hd3;clear hD3 hd3 HD2 hlt bJ
   rename World=>wd
   go_wp2_with fail
   go_loopw [7,14] (λdv iv wr=>∃(j:Nat)(D:List Fl.Dg),iv=.int .i64 j/\j<=NL/\Hid (D=D2++(l.take j).flatMap (Ps.jY (Sc.fP b)))/\Hid (TD w wr dv D)) (λ_ iv _=>NL-(intOf iv).toNat)
   case atStart=>exact⟨0,D2,rfl,gG _,eu (by rw[vS,Fz,kH]),aW⟩
   case round=>
    obtain⟨j,D,rfl,hj,HD,ai⟩:=hrel;obtain⟨da,dc,rfl⟩:=ai.out.shape;obtain⟨av,ay⟩:=eX (D.length);rw[ay];have dF:av<=210000200000:=by
     have h1:=dW.out j;have h2:=eB.out;rw[<-ay,HD.out,ig];omega
    have ag:=eu (show TD w wr (.slice da av dc) D from by rw[<-ay];exact ai.out);have aQ:=eu ay;clear ai ay;by_cases hlt:j<NL
    ·obtain⟨x,hx⟩:=iT l j (by rw[bE.out];omega);obtain⟨tb,ae,bV,t0,t1,t2⟩:=bN.out wr ag.out.2 j x hx;subst bV;have aI:=di.out x (nQ hx);have hqo:=uP b x;have bH:=eu (show D++Ps.jY (Sc.fP b) x=D2++(l.take (j+1)).flatMap (Ps.jY (Sc.fP b))by rw[HD.out,Ps.mX hx,LF,lT,nN,Fz,kH])
     have aV:=eu (λW (hW:Below w.heap.size w W)=>show W.cell? ⟨tb,ae+j*3+1,none⟩=some (.int .i64 x.2.1)/\W.cell? ⟨tb,ae+j*3+2,none⟩=some (.int .i64 x.2.2)from by
      obtain⟨b',o',e',k0,k1,k2⟩:=bN.out W hW j x hx;injection e' with e'
      injection e' with e1 e2
      subst e1 e2
      exact⟨k1,k2⟩)
     obtain⟨x1,x2,x3⟩:=x;dsimp only at t0 t1 t2 hqo aV;have eP:(j:Int)<(NL:Int):=by omega
     by_cases hq:x1=16\/x1=17
     ·rw[eT hq]at hqo;have hq1:=aI.len;have hq2:=aI.le;have hq3:=aI.lo;have hq4:=aI.hi;dsimp only at hq3 hq4;have hby:=dh.out w (fu _ w);obtain⟨sp,hsp⟩:=eX (b.extract x2 x3);have hcut:=Mw (lo:=x2) (hi:=x3) hby hq3 hq4;obtain⟨vc,hsl,bW⟩:=hcut;rw[aS.out]at hsl;rw[hsp]at bW;have bK:sp.size<=100000:=by have h9:=aS.out;rw[<-hsp,Fu];omega
      have dL:=eu (tK (bW.below (ag.out.below (fu _ wr).drew).2));have bL:=eu (af.out x1 sp bK);rw[aS.out]at hq4;have dM:uT b (x1,x2,x3)=((Qo.kU (x1:Nat) sp.data.toList).2.2,(Qo.kU (x1:Nat) sp.data.toList).2.1):=by unfold uT;dsimp only;rw[hsp]
      rw[dM]at hqo hq1 hq2;dsimp only at hqo hq1 hq2;obtain⟨TT,bX⟩:=eX (Qo.kU ((x1:Nat):Int) sp.data.toList);have eD:=eu bX;rw[bX]at hqo hq1 hq2;obtain⟨tx,bs,en⟩:=TT;dsimp only at hqo hq1 hq2;obtain⟨dN,dO⟩:=fD hqo hq2;have d0:wr.drew.cell? ⟨tb,ae+j*3,none⟩=some (.int .i64 (x1:Int)):=t0;have d1:wr.drew.cell? ⟨tb,ae+j*3+1,none⟩=some (.int .i64 (x2:Int)):=t1;have d2:wr.drew.cell? ⟨tb,ae+j*3+2,none⟩=some (.int .i64 (x3:Int)):=t2;have d4:=dL.out;have dP:=eu (show TD w wr.drew (.slice da av dc) D from ag.out.below (fu _ wr).drew);obtain⟨aj,bB⟩:=eX (bs.length);have aL:=eu bB;rw[bB]at hq1;have eF:=eu hq;clear aI hby bW bK dM bX hsp hqo hq2 hx ag dL bB hq;go_upto_region 23 with fail
      go_cut [141] (λb wx=>b=.bool false/\wr=wx)
      case first=>
       rcases eF.out with hq|hq
       ·have n16:((x1:Int) !=16)=false:=by simp[hq]
        clear hq;go_wp2_with fail
        go_meet
        exact⟨rfl,rfl⟩
       have n16:((x1:Int) !=16)=true:=by simp[hq]
       have n17:((x1:Int) !=17)=false:=by simp[hq]
       clear hq;go_wp2_with fail
       go_meet
       exact⟨rfl,rfl⟩
      case rest=>
       obtain⟨rfl,rfl⟩:=hcut;go_upto_region 24 with fail
       clear t0 t1 t2;refine fB (λwx=>wx.cell? ⟨tb,ae+j*3,none⟩=some (.int .i64 (x1:Int))/\wx.cell? ⟨tb,ae+j*3+1,none⟩=some (.int .i64 (x2:Int))/\wx.cell? ⟨tb,ae+j*3+2,none⟩=some (.int .i64 (x3:Int))/\(convert 23 9 vc).run prog wx=.ok (.string sp) wx) 18 (by kernel_rfl) ?_;have hH:(λwx:World=>wx.cell? ⟨tb,ae+j*3,none⟩=some (.int .i64 (x1:Int))/\wx.cell? ⟨tb,ae+j*3+1,none⟩=some (.int .i64 (x2:Int))/\wx.cell? ⟨tb,ae+j*3+2,none⟩=some (.int .i64 (x3:Int))/\(convert 23 9 vc).run prog wx=.ok (.string sp) wx) wr.drew:=⟨d0,d1,d2,d4⟩
       refine fM 0 (.slice (some ⟨tb,ae,none⟩) NL tc) rfl (by kernel_rfl) rfl eY (λW=>by go_simp) (λ_=>hH) ?_;refine fM 1 (.int .i64 (j:Int)) rfl (by kernel_rfl) rfl eY (λW=>by go_simp) (λ_=>hH) ?_;refine fM 2 (.pointer (some ⟨tb,ae+j*3,none⟩)) rfl (by kernel_rfl) rfl eY (λW=>by go_simp) (λ_=>hH) ?_;refine fM 3 (.pointer (some ⟨tb,ae+j*3,none⟩)) rfl (by kernel_rfl) rfl eY (λW=>by go_simp) (λ_=>hH) ?_;refine fw 4 (.int .i64 (x1:Int)) rfl (by kernel_rfl) rfl eY (λW hW=>?_) hH ?_
       ·obtain⟨z0,z1,z2,z3⟩:=hW;go_simp
       refine fM 5 (.slice ba' BS bc) rfl (by kernel_rfl) rfl eY (λW=>by go_simp) (λ_=>hH) ?_;refine fM 6 (.slice (some ⟨tb,ae,none⟩) NL tc) rfl (by kernel_rfl) rfl eY (λW=>by go_simp) (λ_=>hH) ?_;refine fM 7 (.int .i64 (j:Int)) rfl (by kernel_rfl) rfl eY (λW=>by go_simp) (λ_=>hH) ?_;refine fM 8 (.pointer (some ⟨tb,ae+j*3,none⟩)) rfl (by kernel_rfl) rfl eY (λW=>by go_simp) (λ_=>hH) ?_;refine fM 9 (.pointer (some ⟨tb,ae+j*3+1,none⟩)) rfl (by kernel_rfl) rfl eY (λW=>by go_simp) (λ_=>hH) ?_;refine Cr 17 16 10 (.int .i64 (x2:Int)) rfl (by kernel_rfl) rfl eY (λW hW=>?_) hH ?_
       ·obtain⟨z0,z1,z2,z3⟩:=hW;go_simp
       refine fM 11 (.slice (some ⟨tb,ae,none⟩) NL tc) rfl (by kernel_rfl) rfl eY (λW=>by go_simp) (λ_=>hH) ?_;refine fM 12 (.int .i64 (j:Int)) rfl (by kernel_rfl) rfl eY (λW=>by go_simp) (λ_=>hH) ?_;refine fM 13 (.pointer (some ⟨tb,ae+j*3,none⟩)) rfl (by kernel_rfl) rfl eY (λW=>by go_simp) (λ_=>hH) ?_;refine fM 14 (.pointer (some ⟨tb,ae+j*3+2,none⟩)) rfl (by kernel_rfl) rfl eY (λW=>by go_simp) (λ_=>hH) ?_;refine Cr 17 16 15 (.int .i64 (x3:Int)) rfl (by kernel_rfl) rfl eY (λW hW=>?_) hH ?_
       ·obtain⟨z0,z1,z2,z3⟩:=hW;go_simp
       refine fM 16 vc rfl (by kernel_rfl) rfl eY (λW=>by go_simp) (λ_=>hH) ?_;refine fw 17 (.string sp) rfl (by kernel_rfl) rfl eY (λW hW=>?_) hH ?_
       ·obtain⟨z0,z1,z2,z3⟩:=hW;go_simp
       refine iD 18 (by kernel_rfl) rfl λK hK=>?_
       go_simp;refine(bL.out wr.drew).mono ?_;rintro e5 w5 ⟨va,rfl,bC,hb5⟩;rw[eD.out]at bC⊢;dsimp only at bC⊢;obtain⟨qa,qc,rfl⟩:=xL bC;rw[aL.out];have bY:=eu (dP.out.below hb5);obtain⟨B5,dQ⟩:=eX (wr.drew.heap.size);have bZ:=eu (show w5.ownsRow B5 3 1 (.slice qa aj qc) bs.length (places bs)from by rw[<-dQ,<-aL.out];exact bC);clear bC hb5 bL dP dQ;refine hK.out _ _ (jg (by kernel_rfl)) (λ_=>?_);clear hK K;try simp only[Act.put,fF,fH,fG]
       refine fM 19 (.tuple #[.string (ba tx),.slice qa aj qc,.bool en]) rfl (by kernel_rfl) rfl eY (λW=>by go_simp) (jg (by kernel_rfl)) ?_;refine fM 20 (.string (ba tx)) rfl (by kernel_rfl) rfl eY (λW=>by go_simp) (jg (by kernel_rfl)) ?_;refine fM 21 (.slice qa aj qc) rfl (by kernel_rfl) rfl eY (λW=>by go_simp) (jg (by kernel_rfl)) ?_;refine fM 22 (.bool en) rfl (by kernel_rfl) rfl eY (λW=>by go_simp) (jg (by kernel_rfl)) ?_;refine fM 23 (.string (ba tx)) rfl (by kernel_rfl) rfl eY (λW=>by go_simp) (jg (by kernel_rfl)) ?_;refine fM 24 (.slice qa aj qc) rfl (by kernel_rfl) rfl eY (λW=>by go_simp) (jg (by kernel_rfl)) ?_;refine fM 25 (.bool en) rfl (by kernel_rfl) rfl eY (λW=>by go_simp) (jg (by kernel_rfl)) ?_;refine fA (by kernel_rfl) ?_ _;clear d0 d1 d2 d4;cases en with
       |true=>
        go_wp2_with fail
        rename World=>we
        go_loopw [7,18] (λdv kv wr=>∃(k:Nat)(E:List Fl.Dg),kv=.int .i64 k/\k<=aj/\Hid (E=D++(bs.take k).map (AL (x1,x2,x3)))/\Hid (TD w wr dv E)/\Hid (wr.ownsRow B5 3 1 (.slice qa aj qc) bs.length (places bs))) (λ_ kv _=>aj-(intOf kv).toNat)
        case atStart=>exact⟨0,_,rfl,gG _,eu (by rw[vS,xX,kH]),bY,bZ⟩
        case round=>
         obtain⟨k,E,rfl,hk,HE,aJ,aP⟩:=hrel;obtain⟨ea,ec,rfl⟩:=aJ.out.shape;obtain⟨EN,az⟩:=eX (E.length);rw[az];by_cases hkl:k<aj
         ·obtain⟨q,hqk⟩:=iT bs k (by rw[aL.out];omega);obtain⟨qb,rfl,hqc⟩:=ng aP.out k q hqk;have hel:EN<=210100200001:=by
           rw[<-az,HE.out];simp only[ig,nP,jQ,gy,lI,aQ.out];omega
          have eG:q<=1000000:=dO.out q (nQ hqk);have ax:=eu (show TD w wr.drew (.slice ea EN ec) E from by rw[<-az];exact aJ.out.below (fu _ wr).drew);have aH:=eu (fI aP.out (fu _ wr).drew);obtain⟨z1,hz1⟩:=eX (x2+q);obtain⟨z2,hz2⟩:=eX (z1+1);have cr:=eu (show E++[(⟨4,z1,z2⟩:Fl.Dg)]=D++(bs.take (k+1)).map (AL (x1,x2,x3))by rw[HE.out,lT,Ps.mX hqk,Cu,<-hz2,<-hz1];rfl);have aA:=eu (show E.length+1<=maxLen by rw[az];simp only[maxLen];omega);have aB:=eu (show(E.length+1)*24<=140737488355328 by rw[az];omega);have gk:(k:Int)<(aj:Int):=by omega
          have bD:wr.drew.cell? ⟨qb,k,none⟩=some (.int .i64 (q:Int)):=hqc;obtain⟨d1,-⟩:=aV.out wr.drew ax.out.2;have cz:IntKind.i64.wrap ((x2:Int)+(q:Int))=(z1:Int):=by rw[show(x2:Int)+(q:Int)=(z1:Int)by omega];exact jC _ (by omega)
          have cB:IntKind.i64.wrap ((z1:Int)+1)=(z2:Int):=by rw[show(z1:Int)+1=(z2:Int)by omega];exact jC _ (by omega)
          clear hz1 hz2;have cK:=eu hqk;clear hqk az aJ aP HE;go_upto_region 30 with fail
          clear hqc;refine fB (λwx=>wx.cell? ⟨tb,ae+j*3+1,none⟩=some (.int .i64 (x2:Int))/\wx.cell? ⟨qb,k,none⟩=some (.int .i64 (q:Int))) 24 (by kernel_rfl) ?_;have hH:(λwx:World=>wx.cell? ⟨tb,ae+j*3+1,none⟩=some (.int .i64 (x2:Int))/\wx.cell? ⟨qb,k,none⟩=some (.int .i64 (q:Int))) wr.drew:=⟨d1,bD⟩
          refine fw 0 (.slice ea EN ec) rfl (by kernel_rfl) rfl eY (λW hW=>by go_simp) hH ?_;refine fM 1 (.slice (some ⟨tb,ae,none⟩) NL tc) rfl (by kernel_rfl) rfl eY (λW=>by go_simp) (λ_=>hH) ?_;refine fM 2 (.int .i64 (j:Int)) rfl (by kernel_rfl) rfl eY (λW=>by go_simp) (λ_=>hH) ?_;refine fM 3 (.pointer (some ⟨tb,ae+j*3,none⟩)) rfl (by kernel_rfl) rfl eY (λW=>by go_simp) (λ_=>hH) ?_;refine fM 4 (.pointer (some ⟨tb,ae+j*3+1,none⟩)) rfl (by kernel_rfl) rfl eY (λW=>by go_simp) (λ_=>hH) ?_;refine fV [24,23,22,10] (i:=5) (oi:=⟨_,_,_,_,_,_⟩) (v:=.int .i64 (x2:Int)) rfl (by kernel_rfl) (by kernel_rfl) (by kernel_rfl) (by kernel_rfl) (by kernel_rfl) eY (Or.inl ⟨rfl,λW hW=>?_⟩) hH ?_
          ·refine fZ.of_run ?_;obtain⟨z0,z1⟩:=hW;go_simp
          try simp only[Act.put,fF,fH,fG]
          refine fM 6 (.slice (some ⟨qb,0,none⟩) aj qc) rfl (by kernel_rfl) rfl eY (λW=>by go_simp) (λ_=>hH) ?_;refine fM 7 (.int .i64 (k:Int)) rfl (by kernel_rfl) rfl eY (λW=>by go_simp) (λ_=>hH) ?_;refine fM 8 (.pointer (some ⟨qb,k,none⟩)) rfl (by kernel_rfl) rfl eY (λW=>by go_simp) (λ_=>hH) ?_;refine fV [24,23,22,10] (i:=9) (oi:=⟨_,_,_,_,_,_⟩) (v:=.int .i64 (q:Int)) rfl (by kernel_rfl) (by kernel_rfl) (by kernel_rfl) (by kernel_rfl) (by kernel_rfl) eY (Or.inl ⟨rfl,λW hW=>?_⟩) hH ?_
          ·refine fZ.of_run ?_;obtain⟨z0,z1⟩:=hW;go_simp
          try simp only[Act.put,fF,fH,fG]
          refine fM 10 (.int .i64 (z1:Int)) rfl (by kernel_rfl) rfl eY (λW=>by go_simp) (λ_=>hH) ?_;refine fM 11 (.slice (some ⟨tb,ae,none⟩) NL tc) rfl (by kernel_rfl) rfl eY (λW=>by go_simp) (λ_=>hH) ?_;refine fM 12 (.int .i64 (j:Int)) rfl (by kernel_rfl) rfl eY (λW=>by go_simp) (λ_=>hH) ?_;refine fM 13 (.pointer (some ⟨tb,ae+j*3,none⟩)) rfl (by kernel_rfl) rfl eY (λW=>by go_simp) (λ_=>hH) ?_;refine fM 14 (.pointer (some ⟨tb,ae+j*3+1,none⟩)) rfl (by kernel_rfl) rfl eY (λW=>by go_simp) (λ_=>hH) ?_;refine fV [24,23,22,21,20] (i:=15) (oi:=⟨_,_,_,_,_,_⟩) (v:=.int .i64 (x2:Int)) rfl (by kernel_rfl) (by kernel_rfl) (by kernel_rfl) (by kernel_rfl) (by kernel_rfl) eY (Or.inl ⟨rfl,λW hW=>?_⟩) hH ?_
          ·refine fZ.of_run ?_;obtain⟨z0,z1⟩:=hW;go_simp
          try simp only[Act.put,fF,fH,fG]
          refine fM 16 (.slice (some ⟨qb,0,none⟩) aj qc) rfl (by kernel_rfl) rfl eY (λW=>by go_simp) (λ_=>hH) ?_;refine fM 17 (.int .i64 (k:Int)) rfl (by kernel_rfl) rfl eY (λW=>by go_simp) (λ_=>hH) ?_;refine fM 18 (.pointer (some ⟨qb,k,none⟩)) rfl (by kernel_rfl) rfl eY (λW=>by go_simp) (λ_=>hH) ?_;refine fV [24,23,22,21,20] (i:=19) (oi:=⟨_,_,_,_,_,_⟩) (v:=.int .i64 (q:Int)) rfl (by kernel_rfl) (by kernel_rfl) (by kernel_rfl) (by kernel_rfl) (by kernel_rfl) eY (Or.inl ⟨rfl,λW hW=>?_⟩) hH ?_
          ·refine fZ.of_run ?_;obtain⟨z0,z1⟩:=hW;go_simp
          try simp only[Act.put,fF,fH,fG]
          refine fM 20 (.int .i64 (z1:Int)) rfl (by kernel_rfl) rfl eY (λW=>by go_simp) (λ_=>hH) ?_;refine fM 21 (.int .i64 (z2:Int)) rfl (by kernel_rfl) rfl eY (λW=>by go_simp) (λ_=>hH) ?_;refine fM 22 (.agg #[.int .i64 4,.int .i64 (z1:Int),.int .i64 (z2:Int)]) rfl (by kernel_rfl) rfl eY (λW=>by go_simp) (λ_=>hH) ?_;refine iD 23 (by kernel_rfl) rfl λK hK=>?_
          go_simp;obtain⟨wx,hwx⟩:=eX ((wr.alloc (.cells #[.int .i64 4,.int .i64 (z1:Int),.int .i64 (z2:Int)] 89)).drew);rw[hwx];have hbx:Below wr.drew.heap.size wr.drew wx:=by rw[<-hwx];exact eZ wr.drew _
          have ah:=eu (show∀jj cc,(gD.all [(⟨4,z1,z2⟩:Fl.Dg)])[jj]?=some cc->wx.cell? ⟨wr.heap.size,jj,none⟩=some cc from by
           intro jj cc hj;rw[<-hwx];show(wr.alloc _).cell? ⟨wr.heap.size,jj,none⟩=_;rw[o6]
           simpa [jV.all,gD,qC]using hj)
          obtain⟨af,aM⟩:=fD (ax.out.below hbx) hbx;obtain⟨f1,-⟩:=aV.out wx af.out.2;have aC:=eu (fI aH.out hbx);obtain⟨b1,e1,f2⟩:=ng aC.out k q cK.out;injection e1 with e1
          injection e1 with e1
          subst e1;have hws:w.heap.size<=wx.heap.size:=af.out.2.size;have aD:=eu (show wx.ownsRow w.heap.size 89 gD.k (.slice ea EN ec) E.length (gD.all E)from af.out.1);clear hwx hbx;refine hK.out _ _ (λ_=>⟨f1,f2⟩) (λhH2=>?_);clear hK K;replace hH:=hH2 (by kernel_rfl);clear hH2;try simp only[Act.put,fF,fH,fG]
          refine iD 24 (by kernel_rfl) rfl λK hK=>?_
          refine gT Ll rfl (.tmp 187) (.tmp 210) rfl w.heap.size (.slice ea EN ec) E rfl aD.out wr.heap.size 1 [(⟨4,z1,z2⟩:Fl.Dg)] rfl rfl ah.out aA.out aB.out hws ?_;intro v6 w6 hown6 ak aF;have aG:=af.out.more ak hown6;obtain⟨aT,aN⟩:=fD (af.out.ints ak aC.out) aG;clear hown6 ak aF aG aD ah af aM hws f1 f2 aC;refine hK.out _ _ (jg (by kernel_rfl)) (λ_=>?_);clear hK K;try simp only[Act.put,fF,fH,fG]
          refine fM 25 v6 rfl (by kernel_rfl) rfl eY (λW=>by go_simp) (jg (by kernel_rfl)) ?_;refine fA (by kernel_rfl) ?_ _;clear ax aH aA aB gk bD d1 cz cB;rename_i aO;clear aO hH;go_wp2_with fail
          go_roundw
          case rel=>exact⟨k+1,_,by go_num,by omega,cr,aN,aT⟩
          case measure=>simp[intOf];omega
         obtain rfl:k=aj:=by omega
         have cO:=eu (show E=D2++(l.take (j+1)).flatMap (Ps.jY (Sc.fP b))from by
          rw[<-bH.out,dN.out,HE.out,<-aL.out,FC]
          rfl)
         have cZ:=eu (show TD w wr (.slice ea EN ec) E from by rw[<-az];exact aJ.out);clear HE az aJ aP hkl;go_wp2_with fail
         go_roundw
         case rel=>exact⟨j+1,_,by go_num,by omega,cO,cZ⟩
         case measure=>simp[intOf];omega
       |false=>
        have aA:=eu (show D.length+1<=maxLen by rw[aQ.out];simp only[maxLen];omega);have aB:=eu (show(D.length+1)*24<=140737488355328 by rw[aQ.out];omega);have ax:=eu (show TD w w5.drew (.slice da av dc) D from bY.out.below (fu _ w5).drew);have aH:=eu (fI bZ.out (fu _ w5).drew);obtain⟨d1,d2⟩:=aV.out w5.drew ax.out.2;go_upto_region 26 with fail
        clear bY bZ;refine fB (λwx=>wx.cell? ⟨tb,ae+j*3+1,none⟩=some (.int .i64 (x2:Int))/\wx.cell? ⟨tb,ae+j*3+2,none⟩=some (.int .i64 (x3:Int))) 13 (by kernel_rfl) ?_;have hH:(λwx:World=>wx.cell? ⟨tb,ae+j*3+1,none⟩=some (.int .i64 (x2:Int))/\wx.cell? ⟨tb,ae+j*3+2,none⟩=some (.int .i64 (x3:Int))) w5.drew:=⟨d1,d2⟩
        refine fw 0 (.slice da av dc) rfl (by kernel_rfl) rfl eY (λW hW=>by go_simp) hH ?_;refine fM 1 (.slice (some ⟨tb,ae,none⟩) NL tc) rfl (by kernel_rfl) rfl eY (λW=>by go_simp) (λ_=>hH) ?_;refine fM 2 (.int .i64 (j:Int)) rfl (by kernel_rfl) rfl eY (λW=>by go_simp) (λ_=>hH) ?_;refine fM 3 (.pointer (some ⟨tb,ae+j*3,none⟩)) rfl (by kernel_rfl) rfl eY (λW=>by go_simp) (λ_=>hH) ?_;refine fM 4 (.pointer (some ⟨tb,ae+j*3+1,none⟩)) rfl (by kernel_rfl) rfl eY (λW=>by go_simp) (λ_=>hH) ?_;refine Cr 12 11 5 (.int .i64 (x2:Int)) rfl (by kernel_rfl) rfl eY (λW hW=>?_) hH ?_
        ·obtain⟨z0,z1⟩:=hW;go_simp
        refine fM 6 (.slice (some ⟨tb,ae,none⟩) NL tc) rfl (by kernel_rfl) rfl eY (λW=>by go_simp) (λ_=>hH) ?_;refine fM 7 (.int .i64 (j:Int)) rfl (by kernel_rfl) rfl eY (λW=>by go_simp) (λ_=>hH) ?_;refine fM 8 (.pointer (some ⟨tb,ae+j*3,none⟩)) rfl (by kernel_rfl) rfl eY (λW=>by go_simp) (λ_=>hH) ?_;refine fM 9 (.pointer (some ⟨tb,ae+j*3+2,none⟩)) rfl (by kernel_rfl) rfl eY (λW=>by go_simp) (λ_=>hH) ?_;refine Cr 12 11 10 (.int .i64 (x3:Int)) rfl (by kernel_rfl) rfl eY (λW hW=>?_) hH ?_
        ·obtain⟨z0,z1⟩:=hW;go_simp
        refine fM 11 (.agg #[.int .i64 3,.int .i64 (x2:Int),.int .i64 (x3:Int)]) rfl (by kernel_rfl) rfl eY (λW=>by go_simp) (λ_=>hH) ?_;refine iD 12 (by kernel_rfl) rfl λK hK=>?_
        go_simp;obtain⟨wx,hwx⟩:=eX ((w5.alloc (.cells #[.int .i64 3,.int .i64 (x2:Int),.int .i64 (x3:Int)] 89)).drew);rw[hwx];have hbx:Below w5.drew.heap.size w5.drew wx:=by rw[<-hwx];exact eZ w5.drew _
        have ah:=eu (show∀jj cc,(gD.all [(⟨3,x2,x3⟩:Fl.Dg)])[jj]?=some cc->wx.cell? ⟨w5.heap.size,jj,none⟩=some cc from by
         intro jj cc hj;rw[<-hwx];show(w5.alloc _).cell? ⟨w5.heap.size,jj,none⟩=_;rw[o6]
         simpa [jV.all,gD,qC]using hj)
        obtain⟨af,aM⟩:=fD (ax.out.below hbx) hbx;obtain⟨f1,f2⟩:=aV.out wx af.out.2;have aC:=eu (fI aH.out hbx);have hws:w.heap.size<=wx.heap.size:=af.out.2.size;have aD:=eu (show wx.ownsRow w.heap.size 89 gD.k (.slice da av dc) D.length (gD.all D)from af.out.1);clear hwx hbx;refine hK.out _ _ (λ_=>⟨f1,f2⟩) (λhH2=>?_);clear hK K;replace hH:=hH2 (by kernel_rfl);clear hH2;try simp only[Act.put,fF,fH,fG]
        refine iD 13 (by kernel_rfl) rfl λK hK=>?_
        refine gT Ll rfl (.tmp 167) (.tmp 179) rfl w.heap.size (.slice da av dc) D rfl aD.out w5.heap.size 1 [(⟨3,x2,x3⟩:Fl.Dg)] rfl rfl ah.out aA.out aB.out hws ?_;intro v6 w6 hown6 ak aF;have aG:=af.out.more ak hown6;obtain⟨aT,aN⟩:=fD (af.out.ints ak aC.out) aG;clear hown6 ak aF aG aD ah af aM hws f1 f2 aC;refine hK.out _ _ (jg (by kernel_rfl)) (λ_=>?_);clear hK K;try simp only[Act.put,fF,fH,fG]
        refine fM 14 v6 rfl (by kernel_rfl) rfl eY (λW=>by go_simp) (jg (by kernel_rfl)) ?_;refine fA (by kernel_rfl) ?_ _;clear ax aH aA aB d1 d2;rename_i aO;clear aO hH;go_wp2_with fail
        rename World=>we
        go_loopw [7,18] (λdv kv wr=>∃(k:Nat)(E:List Fl.Dg),kv=.int .i64 k/\k<=aj/\Hid (E=(D++[(⟨3,x2,x3⟩:Fl.Dg)])++(bs.take k).map (AL (x1,x2,x3)))/\Hid (TD w wr dv E)/\Hid (wr.ownsRow B5 3 1 (.slice qa aj qc) bs.length (places bs))) (λ_ kv _=>aj-(intOf kv).toNat)
        case atStart=>exact⟨0,_,rfl,gG _,eu (by rw[vS,xX,kH]),aN,aT⟩
        case round=>
         obtain⟨k,E,rfl,hk,HE,aJ,aP⟩:=hrel;obtain⟨ea,ec,rfl⟩:=aJ.out.shape;obtain⟨EN,az⟩:=eX (E.length);rw[az];by_cases hkl:k<aj
         ·obtain⟨q,hqk⟩:=iT bs k (by rw[aL.out];omega);obtain⟨qb,rfl,hqc⟩:=ng aP.out k q hqk;have hel:EN<=210100200001:=by
           rw[<-az,HE.out];simp only[ig,nP,jQ,gy,lI,aQ.out];omega
          have eG:q<=1000000:=dO.out q (nQ hqk);have ax:=eu (show TD w wr.drew (.slice ea EN ec) E from by rw[<-az];exact aJ.out.below (fu _ wr).drew);have aH:=eu (fI aP.out (fu _ wr).drew);obtain⟨z1,hz1⟩:=eX (x2+q);obtain⟨z2,hz2⟩:=eX (z1+1);have cr:=eu (show E++[(⟨4,z1,z2⟩:Fl.Dg)]=(D++[(⟨3,x2,x3⟩:Fl.Dg)])++(bs.take (k+1)).map (AL (x1,x2,x3))by rw[HE.out,lT,Ps.mX hqk,Cu,<-hz2,<-hz1];rfl);have aA:=eu (show E.length+1<=maxLen by rw[az];simp only[maxLen];omega);have aB:=eu (show(E.length+1)*24<=140737488355328 by rw[az];omega);have gk:(k:Int)<(aj:Int):=by omega
          have bD:wr.drew.cell? ⟨qb,k,none⟩=some (.int .i64 (q:Int)):=hqc;obtain⟨d1,-⟩:=aV.out wr.drew ax.out.2;have cz:IntKind.i64.wrap ((x2:Int)+(q:Int))=(z1:Int):=by rw[show(x2:Int)+(q:Int)=(z1:Int)by omega];exact jC _ (by omega)
          have cB:IntKind.i64.wrap ((z1:Int)+1)=(z2:Int):=by rw[show(z1:Int)+1=(z2:Int)by omega];exact jC _ (by omega)
          clear hz1 hz2;have cK:=eu hqk;clear hqk az aJ aP HE;go_upto_region 30 with fail
          clear hqc;refine fB (λwx=>wx.cell? ⟨tb,ae+j*3+1,none⟩=some (.int .i64 (x2:Int))/\wx.cell? ⟨qb,k,none⟩=some (.int .i64 (q:Int))) 24 (by kernel_rfl) ?_;have hH:(λwx:World=>wx.cell? ⟨tb,ae+j*3+1,none⟩=some (.int .i64 (x2:Int))/\wx.cell? ⟨qb,k,none⟩=some (.int .i64 (q:Int))) wr.drew:=⟨d1,bD⟩
          refine fw 0 (.slice ea EN ec) rfl (by kernel_rfl) rfl eY (λW hW=>by go_simp) hH ?_;refine fM 1 (.slice (some ⟨tb,ae,none⟩) NL tc) rfl (by kernel_rfl) rfl eY (λW=>by go_simp) (λ_=>hH) ?_;refine fM 2 (.int .i64 (j:Int)) rfl (by kernel_rfl) rfl eY (λW=>by go_simp) (λ_=>hH) ?_;refine fM 3 (.pointer (some ⟨tb,ae+j*3,none⟩)) rfl (by kernel_rfl) rfl eY (λW=>by go_simp) (λ_=>hH) ?_;refine fM 4 (.pointer (some ⟨tb,ae+j*3+1,none⟩)) rfl (by kernel_rfl) rfl eY (λW=>by go_simp) (λ_=>hH) ?_;refine fV [24,23,22,10] (i:=5) (oi:=⟨_,_,_,_,_,_⟩) (v:=.int .i64 (x2:Int)) rfl (by kernel_rfl) (by kernel_rfl) (by kernel_rfl) (by kernel_rfl) (by kernel_rfl) eY (Or.inl ⟨rfl,λW hW=>?_⟩) hH ?_
          ·refine fZ.of_run ?_;obtain⟨z0,z1⟩:=hW;go_simp
          try simp only[Act.put,fF,fH,fG]
          refine fM 6 (.slice (some ⟨qb,0,none⟩) aj qc) rfl (by kernel_rfl) rfl eY (λW=>by go_simp) (λ_=>hH) ?_;refine fM 7 (.int .i64 (k:Int)) rfl (by kernel_rfl) rfl eY (λW=>by go_simp) (λ_=>hH) ?_;refine fM 8 (.pointer (some ⟨qb,k,none⟩)) rfl (by kernel_rfl) rfl eY (λW=>by go_simp) (λ_=>hH) ?_;refine fV [24,23,22,10] (i:=9) (oi:=⟨_,_,_,_,_,_⟩) (v:=.int .i64 (q:Int)) rfl (by kernel_rfl) (by kernel_rfl) (by kernel_rfl) (by kernel_rfl) (by kernel_rfl) eY (Or.inl ⟨rfl,λW hW=>?_⟩) hH ?_
          ·refine fZ.of_run ?_;obtain⟨z0,z1⟩:=hW;go_simp
          try simp only[Act.put,fF,fH,fG]
          refine fM 10 (.int .i64 (z1:Int)) rfl (by kernel_rfl) rfl eY (λW=>by go_simp) (λ_=>hH) ?_;refine fM 11 (.slice (some ⟨tb,ae,none⟩) NL tc) rfl (by kernel_rfl) rfl eY (λW=>by go_simp) (λ_=>hH) ?_;refine fM 12 (.int .i64 (j:Int)) rfl (by kernel_rfl) rfl eY (λW=>by go_simp) (λ_=>hH) ?_;refine fM 13 (.pointer (some ⟨tb,ae+j*3,none⟩)) rfl (by kernel_rfl) rfl eY (λW=>by go_simp) (λ_=>hH) ?_;refine fM 14 (.pointer (some ⟨tb,ae+j*3+1,none⟩)) rfl (by kernel_rfl) rfl eY (λW=>by go_simp) (λ_=>hH) ?_;refine fV [24,23,22,21,20] (i:=15) (oi:=⟨_,_,_,_,_,_⟩) (v:=.int .i64 (x2:Int)) rfl (by kernel_rfl) (by kernel_rfl) (by kernel_rfl) (by kernel_rfl) (by kernel_rfl) eY (Or.inl ⟨rfl,λW hW=>?_⟩) hH ?_
          ·refine fZ.of_run ?_;obtain⟨z0,z1⟩:=hW;go_simp
          try simp only[Act.put,fF,fH,fG]
          refine fM 16 (.slice (some ⟨qb,0,none⟩) aj qc) rfl (by kernel_rfl) rfl eY (λW=>by go_simp) (λ_=>hH) ?_;refine fM 17 (.int .i64 (k:Int)) rfl (by kernel_rfl) rfl eY (λW=>by go_simp) (λ_=>hH) ?_;refine fM 18 (.pointer (some ⟨qb,k,none⟩)) rfl (by kernel_rfl) rfl eY (λW=>by go_simp) (λ_=>hH) ?_;refine fV [24,23,22,21,20] (i:=19) (oi:=⟨_,_,_,_,_,_⟩) (v:=.int .i64 (q:Int)) rfl (by kernel_rfl) (by kernel_rfl) (by kernel_rfl) (by kernel_rfl) (by kernel_rfl) eY (Or.inl ⟨rfl,λW hW=>?_⟩) hH ?_
          ·refine fZ.of_run ?_;obtain⟨z0,z1⟩:=hW;go_simp
          try simp only[Act.put,fF,fH,fG]
          refine fM 20 (.int .i64 (z1:Int)) rfl (by kernel_rfl) rfl eY (λW=>by go_simp) (λ_=>hH) ?_;refine fM 21 (.int .i64 (z2:Int)) rfl (by kernel_rfl) rfl eY (λW=>by go_simp) (λ_=>hH) ?_;refine fM 22 (.agg #[.int .i64 4,.int .i64 (z1:Int),.int .i64 (z2:Int)]) rfl (by kernel_rfl) rfl eY (λW=>by go_simp) (λ_=>hH) ?_;refine iD 23 (by kernel_rfl) rfl λK hK=>?_
          go_simp;obtain⟨wx,hwx⟩:=eX ((wr.alloc (.cells #[.int .i64 4,.int .i64 (z1:Int),.int .i64 (z2:Int)] 89)).drew);rw[hwx];have hbx:Below wr.drew.heap.size wr.drew wx:=by rw[<-hwx];exact eZ wr.drew _
          have ah:=eu (show∀jj cc,(gD.all [(⟨4,z1,z2⟩:Fl.Dg)])[jj]?=some cc->wx.cell? ⟨wr.heap.size,jj,none⟩=some cc from by
           intro jj cc hj;rw[<-hwx];show(wr.alloc _).cell? ⟨wr.heap.size,jj,none⟩=_;rw[o6]
           simpa [jV.all,gD,qC]using hj)
          obtain⟨af,aM⟩:=fD (ax.out.below hbx) hbx;obtain⟨f1,-⟩:=aV.out wx af.out.2;have aC:=eu (fI aH.out hbx);obtain⟨b1,e1,f2⟩:=ng aC.out k q cK.out;injection e1 with e1
          injection e1 with e1
          subst e1;have hws:w.heap.size<=wx.heap.size:=af.out.2.size;have aD:=eu (show wx.ownsRow w.heap.size 89 gD.k (.slice ea EN ec) E.length (gD.all E)from af.out.1);clear hwx hbx;refine hK.out _ _ (λ_=>⟨f1,f2⟩) (λhH2=>?_);clear hK K;replace hH:=hH2 (by kernel_rfl);clear hH2;try simp only[Act.put,fF,fH,fG]
          refine iD 24 (by kernel_rfl) rfl λK hK=>?_
          refine gT Ll rfl (.tmp 187) (.tmp 210) rfl w.heap.size (.slice ea EN ec) E rfl aD.out wr.heap.size 1 [(⟨4,z1,z2⟩:Fl.Dg)] rfl rfl ah.out aA.out aB.out hws ?_;intro v6 w6 hown6 ak aF;have aG:=af.out.more ak hown6;obtain⟨aT,aN⟩:=fD (af.out.ints ak aC.out) aG;clear hown6 ak aF aG aD ah af aM hws f1 f2 aC;refine hK.out _ _ (jg (by kernel_rfl)) (λ_=>?_);clear hK K;try simp only[Act.put,fF,fH,fG]
          refine fM 25 v6 rfl (by kernel_rfl) rfl eY (λW=>by go_simp) (jg (by kernel_rfl)) ?_;refine fA (by kernel_rfl) ?_ _;clear ax aH aA aB gk bD d1 cz cB;rename_i aO;clear aO hH;go_wp2_with fail
          go_roundw
          case rel=>exact⟨k+1,_,by go_num,by omega,cr,aN,aT⟩
          case measure=>simp[intOf];omega
         obtain rfl:k=aj:=by omega
         have cO:=eu (show E=D2++(l.take (j+1)).flatMap (Ps.jY (Sc.fP b))from by
          rw[<-bH.out,dN.out,HE.out,<-aL.out,FC];show _=D++([_]++_)
          rw[lT])
         have cZ:=eu (show TD w wr (.slice ea EN ec) E from by rw[<-az];exact aJ.out);clear HE az aJ aP hkl;go_wp2_with fail
         go_roundw
         case rel=>exact⟨j+1,_,by go_num,by omega,cO,cZ⟩
         case measure=>simp[intOf];omega
     rw[eQ hq]at hqo;have aZ:=eu (show D=D2++(l.take (j+1)).flatMap (Ps.jY (Sc.fP b))by rw[<-bH.out,hqo,kH]);have n16:((x1:Int) !=16)=true:=by simp;omega
     have n17:((x1:Int) !=17)=true:=by simp;omega
     clear aI hqo hq hx bH HD t1 t2;go_wp2_with fail
     go_roundw
     case rel=>exact⟨j+1,_,by go_num,by omega,aZ,ag⟩
     case measure=>simp[intOf];omega
    obtain rfl:j=NL:=by omega
    have dR:D=DF:=by
     rw[<-dS.out,HD.out,<-bE.out,FC,HD3.out,HD1.out,bT.out]
    have HX:=eu (HQ.out wr _ (show TD w wr (.slice da av dc) DF from by rw[<-dR];exact ag.out));clear dR HD ag hlt;go_wp2_with fail
    first|exact HX.out|(go_ret;exact HX.out)
end
end Go.Proofs.YtfbiffdmhcjhbaaGreat

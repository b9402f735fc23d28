import Derived.Test.YtfbiffdmhcjhbaaGreatZa13
set_option linter.all false
set_option maxHeartbeats 16000000
set_option maxRecDepth 100000
set_option synthInstance.maxSize 4000
set_option synthInstance.maxHeartbeats 0
namespace Go.Proofs.YtfbiffdmhcjhbaaGreat
open Go.RowKit Tryz
section
open Go.RowKit
open Sq
open Ar
open Fl (Tk raw kd jh cnt ends opens gF gM begins back blanks fq)
structure jD(t:List Nd):Prop where
 good:Ar.bu t
 len:t.length<=800000000000
 kids:∀x∈t,x.ks.length<=800000000000
theorem Im(w0 w:World)(rb:Nat)(tv:Value)(e:Nat)(l:List Tk)(s:Fl.St)(R:Nat->Prop)(up k f t:Int)(hS:GS w0 w rb tv e l s R)(hr:jD s.t)(hm:iL s.t up k f t=true):
 Calls prog 68 #[RG rb,.int .i64 up,.int .i64 k,.int .i64 f,.int .i64 t] w (fU w0 w rb tv e l R (.int .i64 (addN s.t up k f t).2) ⟨(addN s.t up k f t).1,s.d⟩):=by
 obtain⟨nv,dv,L,hM,hL,rfl⟩:=hS;have hN:iR w nv s.t:=hL▸hM.nodes.nodes;have hA:=Rp nv s.t up k f t w hN hr.good (jN hr.len (by decide)) (λx hx=>jN (hr.kids x hx) (by decide));rw[hm]at hA;obtain⟨A,af⟩:=eX (addN s.t up k f t);rw[af]at hA⊢;have c1:=hM.cell 1 _ rfl;obtain⟨HA,HM⟩:=fD hA hM
 have HQ:=eu (λW v (h:∃ae L',GM w0 W rb tv ae dv e l L' s.d/\L'.map Ln.nd=A.1/\FP w W rb (DR dv) (DR dv)) (hv:v=.int .i64 A.2)=>show fU w0 w rb tv e l (DR dv) (.int .i64 A.2) ⟨A.1,s.d⟩ (.returned v) W from by
  obtain⟨ae,L',h1,h2,h3⟩:=h
  exact⟨by rw[hv],_,⟨ae,dv,L',h1,h2,rfl⟩,h3⟩)
 obtain⟨Q,hQ⟩:=eX (fU w0 w rb tv e l (DR dv) (.int .i64 A.2) ⟨A.1,s.d⟩);rw[hQ]at HQ⊢;clear hN hA hM hL hr hm af hQ
 go_enter func68,ntmps68
 go_wp2_with fail
 refine HA.out.mono ?_;rintro e1 w1 ⟨u,rfl,ag,hO,hb⟩;obtain⟨ua,uc,hu⟩:=ag.shape;obtain⟨un,hun⟩:=eX (A.1.length);rw[hun]at hu;clear hun ag;subst hu;obtain⟨L',hL',ah⟩:=hO rfl;have hO2:=ah.base HM.out.kE.size;obtain⟨w2,hw2⟩:=eX (w1.alloc (.cells #[.slice ua un uc] 31));have hb2:Below w1.heap.size w1 w2:=hw2▸eZ w1 _;have aa:Below w.heap.size w w2:=hb.trans (hb2.mono hb.size);obtain⟨ai,aj⟩:=HM.out.toTree aa (hO2.below hb2);have HD:=eu (HQ.out _ _ ⟨_,_,ai,hL',aj⟩ rfl);have d1:w2.cell? ⟨rb,1,none⟩=some nv:=fe aa c1;have f1:w2.frozen? ⟨rb,1,none⟩=false:=(HM.out.below aa).free 1;have HW:=eu hw2;have n0:w2.cell? ⟨w1.heap.size,0,none⟩=some (.slice ua un uc):=by rw[<-hw2];exact at_new rfl
 clear hO ah hO2 hb hb2 aa ai aj hw2 hL' HA HQ HM c1;go_upto_region 2 with fail
 rw[HW.out];clear HW;go_wp2_with fail
 exact HD.out
theorem Jc(w0 w:World)(rb:Nat)(tv:Value)(e:Nat)(l:List Tk)(s:Fl.St)(R:Nat->Prop)(up:Int)(f j code:Nat)(hS:GS w0 w rb tv e l s R)(hr:jD s.t)(hm:iL s.t up 11 f (j+1:Nat)=true)(hf:f<l.length)(hj:j<l.length)(hd:s.d.length<=800000000000):
 Calls prog 47 #[RG rb,.int .i64 up,.int .i64 f,.int .i64 (j+1:Nat),.int .i64 code] w (fU w0 w rb tv e l R (.int .i64 (addN s.t up 11 f (j+1:Nat)).2) (Fl.err l s up f (j+1) code)):=by
 have hA:=Im w0 w rb tv e l s R up 11 f (j+1:Nat) hS hr hm;obtain⟨A,ai⟩:=eX (addN s.t up 11 f (j+1:Nat));have ag:Fl.err l s up f (j+1) code=⟨A.1,s.d++[⟨code,Fl.pF l f,Fl.too l j⟩]⟩:=by unfold Fl.err;rw[ai,lJ]
 rw[ai]at hA⊢;rw[ag];obtain⟨x,hx⟩:=iT l f hf;obtain⟨y,hy⟩:=iT l j hj;have ef:Fl.pF l f=x.2.1:=by unfold Fl.pF;rw[hx]
 have et:Fl.too l j=y.2.2:=by unfold Fl.too;rw[hy]
 rw[ef,et];obtain⟨F,hF⟩:=eX (x.2.1);obtain⟨T,hT⟩:=eX (y.2.2);have HA:=eu hA
 have HX:=eu (λW (h:Reads iZ W tv l)=>show∃tb off tc,tv=.slice (some ⟨tb,off,none⟩) l.length tc/\W.cell? ⟨tb,off+f*3+1,none⟩=some (.int .i64 F)/\W.cell? ⟨tb,off+j*3+2,none⟩=some (.int .i64 T)from by
  obtain⟨ta,tc,rfl⟩:=h.shape;obtain⟨tb,off,rfl,-,aB,-⟩:=iG h f x hx;obtain⟨aC,off',he,-,-,y20⟩:=iG h j y hy;injection he with he
  injection he with e1 e2
  subst e1 e2
  exact⟨tb,off,tc,rfl,by rw[<-hF];exact aB,by rw[<-hT];exact y20⟩)
 rw[hF,hT];have HQ:=eu (λW v w1 R1 R2 (h1:FP w w1 rb R R1)(h2:GS w0 W rb tv e l ⟨A.1,s.d++[⟨code,F,T⟩]⟩ R2)(h3:FP w1 W rb R1 R2)(hv:v=.int .i64 A.2)=>show fU w0 w rb tv e l R (.int .i64 A.2) ⟨A.1,s.d++[⟨code,F,T⟩]⟩ (.returned v) W from⟨by rw[hv],R2,h2,h1.trans h3⟩);obtain⟨Q,hQ⟩:=eX (fU w0 w rb tv e l R (.int .i64 A.2) ⟨A.1,s.d++[⟨code,F,T⟩]⟩);rw[hQ]at HQ⊢;have hls:=hS.gt.size;obtain⟨j1,hj1⟩:=eX (j+1);rw[hj1]at HA⊢;clear hA ai ag hx hy ef et hF hT hQ hS hm
 go_enter func47,ntmps47
 go_wp2_with fail
 refine HA.out.mono ?_;rintro e1 w1 ⟨rfl,R1,hS1,hF1⟩;obtain⟨nv,dv,L,hM,hL,rfl⟩:=hS1;dsimp only at hM hL;obtain⟨tb,off,tc,rfl,x1,y2⟩:=HX.out w1 (hM.toks.below hM.kE);have c0:=hM.cell 0 _ rfl;have c2:=hM.cell 2 _ rfl;have hown0:=hM.told;obtain⟨da,dc,hdv⟩:=(Reads.fJ (E:=gD) hown0).shape;subst hdv;have HM:=eu hM;obtain⟨DN,ae⟩:=eX (s.d.length);have aD:=eu (show s.d.length+1<=maxLen by simp only[maxLen];omega);have aF:=eu (show(s.d.length+1)*24<=140737488355328 by omega);have aR:=eu ae;rw[ae]at c2 HM;obtain⟨N,hN⟩:=eX (l.length);rw[hN]at c0 hf hj hls HM HQ;have gi:(f:Int)<(N:Int):=by omega
 have gj:(j:Int)<(N:Int):=by omega
 have gw:IntKind.i64.wrap ((j1:Int)-1)=(j:Int):=by
  rw[show(j1:Int)-1=(j:Int)by omega];exact jC _ (by omega)
 obtain⟨wx,hwx⟩:=eX ((w1.alloc (.cells #[.int .i64 code,.int .i64 F,.int .i64 T] 89)).drew);have hbx:Below w1.heap.size w1 wx:=by rw[<-hwx];exact(eZ w1 _).drew
 have aG:=eu hbx;have aH:=eu (show wx.ownsRow w0.heap.size 89 gD.k (.slice da DN dc) s.d.length (gD.all s.d)by rw[<-ae];exact fI hown0 hbx);have af:∀jj c,(gD.all [(⟨code,F,T⟩:Fl.Dg)])[jj]?=some c->wx.cell? ⟨w1.heap.size,jj,none⟩=some c:=by
  intro jj c hj;rw[<-hwx];show(w1.alloc _).cell? ⟨w1.heap.size,jj,none⟩=_;rw[o6]
  simpa [jV.all,gD,qC]using hj
 have ak:=eu af;have aI:=fe hbx c0;have aJ:=fe hbx c2;have aK:=fe hbx x1;have aL:=fe hbx y2;have hws:w0.heap.size<=wx.heap.size:=jN hM.kE.size hbx.size
 have aM:=eu (λw6 (hg:wx.grownBy w6 (Value.slice da DN dc).ownBlock)=>show w6.cell? ⟨tb,off+f*3+1,none⟩=some (.int .i64 (F:Int))/\w6.cell? ⟨tb,off+j*3+2,none⟩=some (.int .i64 (T:Int))from by
  have hb:=((HM.out.kE.trans (hbx.mono HM.out.kE.size)).grown hg hws (λq hq=>by rw[<-ae]at hq;exact(hown0.lt q hq).1))
  obtain⟨aC,off',aS,he,k1,k2⟩:=HX.out w6 (by have h1:=HM.out.toks.below hb;rw[<-hN]at h1;exact h1);obtain⟨he1,-,-⟩:=mq he;injection he1 with he1
  injection he1 with e1 e2
  subst e1 e2
  exact⟨k1,k2⟩)
 obtain⟨aN,HL⟩:=fD hwx hL;have aO:=eu (show FP w w1 rb R (DR (.slice da DN dc))by rw[<-ae];exact hF1);clear hM hown0 ae hN hwx af hbx HA HX hd hL hF1 hr;go_upto_region 2 with fail
 refine fB (λwx=>wx.cell? ⟨rb,0,none⟩=some (.slice (some ⟨tb,off,none⟩) N tc)/\wx.cell? ⟨rb,2,none⟩=some (.slice da DN dc)/\wx.cell? ⟨tb,off+f*3+1,none⟩=some (.int .i64 (F:Int))/\wx.cell? ⟨tb,off+j*3+2,none⟩=some (.int .i64 (T:Int))) 28 (by kernel_rfl) ?_;have hH:(λwx:World=>wx.cell? ⟨rb,0,none⟩=some (.slice (some ⟨tb,off,none⟩) N tc)/\wx.cell? ⟨rb,2,none⟩=some (.slice da DN dc)/\wx.cell? ⟨tb,off+f*3+1,none⟩=some (.int .i64 (F:Int))/\wx.cell? ⟨tb,off+j*3+2,none⟩=some (.int .i64 (T:Int))) w1.drew:=⟨iY c0,iY c2,iY x1,iY y2⟩
 refine fw 0 (.pointer (some ⟨rb,0,none⟩)) rfl (by kernel_rfl) rfl eY (λW hW=>by go_simp) hH ?_;refine fw 1 (.pointer (some ⟨rb,0,none⟩)) rfl (by kernel_rfl) rfl eY (λW hW=>by go_simp) hH ?_;refine fw 2 (.pointer (some ⟨rb,0,none⟩)) rfl (by kernel_rfl) rfl eY (λW hW=>by go_simp) hH ?_;refine fw 3 (.pointer (some ⟨rb,2,none⟩)) rfl (by kernel_rfl) rfl eY (λW hW=>by go_simp) hH ?_;refine fw 4 (.slice da DN dc) rfl (by kernel_rfl) rfl eY (λW hW=>?_) hH ?_
 ·obtain⟨z0,z1,z2,z3⟩:=hW;go_simp
 refine fw 5 (.int .i64 (code:Int)) rfl (by kernel_rfl) rfl eY (λW hW=>by go_simp) hH ?_;refine fw 6 (.pointer (some ⟨rb,0,none⟩)) rfl (by kernel_rfl) rfl eY (λW hW=>by go_simp) hH ?_;refine fw 7 (.pointer (some ⟨rb,0,none⟩)) rfl (by kernel_rfl) rfl eY (λW hW=>by go_simp) hH ?_;refine fw 8 (.pointer (some ⟨rb,0,none⟩)) rfl (by kernel_rfl) rfl eY (λW hW=>by go_simp) hH ?_;refine fw 9 (.slice (some ⟨tb,off,none⟩) N tc) rfl (by kernel_rfl) rfl eY (λW hW=>?_) hH ?_
 ·obtain⟨z0,z1,z2,z3⟩:=hW;go_simp
 refine fw 10 (.int .i64 (f:Int)) rfl (by kernel_rfl) rfl eY (λW hW=>by go_simp) hH ?_;refine fw 11 (.pointer (some ⟨tb,off+f*3,none⟩)) rfl (by kernel_rfl) rfl eY (λW hW=>by go_simp) hH ?_;refine fw 12 (.pointer (some ⟨tb,off+f*3+1,none⟩)) rfl (by kernel_rfl) rfl eY (λW hW=>by go_simp) hH ?_;refine fw 13 (.int .i64 (F:Int)) rfl (by kernel_rfl) rfl eY (λW hW=>?_) hH ?_
 ·obtain⟨z0,z1,z2,z3⟩:=hW;go_simp
 refine fw 14 (.pointer (some ⟨rb,0,none⟩)) rfl (by kernel_rfl) rfl eY (λW hW=>by go_simp) hH ?_;refine fw 15 (.pointer (some ⟨rb,0,none⟩)) rfl (by kernel_rfl) rfl eY (λW hW=>by go_simp) hH ?_;refine fw 16 (.pointer (some ⟨rb,0,none⟩)) rfl (by kernel_rfl) rfl eY (λW hW=>by go_simp) hH ?_;refine fw 17 (.slice (some ⟨tb,off,none⟩) N tc) rfl (by kernel_rfl) rfl eY (λW hW=>?_) hH ?_
 ·obtain⟨z0,z1,z2,z3⟩:=hW;go_simp
 refine fw 18 (.int .i64 (j1:Int)) rfl (by kernel_rfl) rfl eY (λW hW=>by go_simp) hH ?_;refine fw 19 (.int .i64 (j:Int)) rfl (by kernel_rfl) rfl eY (λW hW=>by go_simp) hH ?_;refine fw 20 (.pointer (some ⟨tb,off+j*3,none⟩)) rfl (by kernel_rfl) rfl eY (λW hW=>by go_simp) hH ?_;refine fw 21 (.pointer (some ⟨tb,off+j*3+2,none⟩)) rfl (by kernel_rfl) rfl eY (λW hW=>by go_simp) hH ?_;refine fw 22 (.int .i64 (T:Int)) rfl (by kernel_rfl) rfl eY (λW hW=>?_) hH ?_
 ·obtain⟨z0,z1,z2,z3⟩:=hW;go_simp
 refine fw 23 (.agg #[.int .i64 (code:Int),.int .i64 (F:Int),.int .i64 (T:Int)]) rfl (by kernel_rfl) rfl eY (λW hW=>by go_simp) hH ?_;refine iD 24 (by kernel_rfl) rfl λK hK=>?_
 go_simp;rw[aN.out];refine hK.out _ _ (λ_=>⟨aI,aJ,aK,aL⟩) (λhH2=>?_);clear hK K;replace hH:=hH2 (by kernel_rfl);clear hH2;try simp only[Act.put,fF,fH,fG]
 refine iD 25 (by kernel_rfl) rfl λK hK=>?_
 refine gT Ll rfl (.tmp 21) (.tmp 41) rfl w0.heap.size (.slice da DN dc) s.d rfl aH.out w1.heap.size 1 [(⟨code,F,T⟩:Fl.Dg)] rfl rfl ak.out aD.out aF.out hws ?_;intro v6 w6 hown6 aj ah;obtain⟨a6,c6,hv6⟩:=(Reads.fJ (E:=gD) hown6).shape;obtain⟨n6,av⟩:=eX ((s.d++[(⟨code,F,T⟩:Fl.Dg)]).length);rw[av]at hv6;clear av;subst hv6;obtain⟨aa,ax,ay⟩:=HM.out.more aG.out aj hown6 ah;have aP:w6.cell? ⟨rb,2,none⟩=some (.slice da DN dc):=(gQ aa 2).trans rfl;have f26:w6.frozen? ⟨rb,2,none⟩=false:=rW aa 2;have aQ:w6.cell? ⟨rb,0,none⟩=some (.slice (some ⟨tb,off,none⟩) N tc):=(gQ aa 0).trans rfl;have hb6:=aM.out w6 aj;have az:w6.cell? ⟨tb,off+f*3+1,none⟩=some (.int .i64 (F:Int)):=hb6.1;have aA:w6.cell? ⟨tb,off+j*3+2,none⟩=some (.int .i64 (T:Int)):=hb6.2;have HD:=eu (HQ.out _ _ w1 _ _ aO.out ⟨_,_,_,ax,HL.out,rfl⟩ ay rfl);clear hown6 aj ah aa ax ay hb6;refine hK.out _ _ (λ_=>⟨aQ,aP,az,aA⟩) (λhH2=>?_);clear hK K;replace hH:=hH2 (by kernel_rfl);clear hH2;try simp only[Act.put,fF,fH,fG]
 refine fM 26 (.pointer (some ⟨rb,0,none⟩)) rfl (by kernel_rfl) rfl eY (λW=>by go_simp) (λ_=>hH) ?_;refine fw 27 (.pointer (some ⟨rb,2,none⟩)) rfl (by kernel_rfl) rfl eY (λW hW=>by go_simp) hH ?_;refine iD 28 (by kernel_rfl) rfl λK hK=>?_
 go_simp;refine hK.out _ _ (jg (by kernel_rfl)) (λ_=>?_);clear hK K;try simp only[Act.put,fF,fH,fG]
 refine fA (by kernel_rfl) ?_ _;go_wp2_with fail
 exact HD.out
theorem Jd(w0 w:World)(rb:Nat)(tv:Value)(e:Nat)(l:List Tk)(s:Fl.St)(R:Nat->Prop)(i:Nat)(hS:GS w0 w rb tv e l s R)(hi:i<s.t.length)(hn:s.t.length<=800000000000):
 Calls prog 96 #[RG rb,.int .i64 i] w (fU w0 w rb tv e l R (.tuple #[]) ⟨Fl.keyed s.t i,s.d⟩):=by
 obtain⟨nv,dv,L,hM,hL,rfl⟩:=hS;have hLn:L.length=s.t.length:=by rw[<-hL,nP]
 obtain⟨p,hp⟩:=iT L i (by omega);have hq:(L.set i {p with nd:={p.nd with y:=true}}).map Ln.nd=Fl.keyed s.t i:=by
  have hx:s.t[i]?=some p.nd:=by rw[<-hL,nO,hp];rfl
  unfold Fl.keyed;rw[iE,hx,<-hL,Ov]
 obtain⟨g,cap,az,-,-,-,-⟩:=jG hM.nodes.row (by omega);subst az;have c1:=hM.cell 1 _ rfl;have ai:=eu (Reads.fJ (E:=nR) hM.nodes.row);have HM:=eu hM;obtain⟨T,hT⟩:=eX (Fl.keyed s.t i);rw[hT]at hq⊢
 have HQ:=eu (λW (h:∃ag L',GM w0 W rb tv ag dv e l L' s.d/\L'.map Ln.nd=T/\FP w W rb (DR dv) (DR dv))=>show fU w0 w rb tv e l (DR dv) (.tuple #[]) ⟨T,s.d⟩ (.returned (.tuple #[])) W from by
  obtain⟨ag,L',h1,h2,h3⟩:=h
  exact⟨rfl,_,⟨ag,dv,L',h1,h2,rfl⟩,h3⟩)
 obtain⟨Q,hQ⟩:=eX (fU w0 w rb tv e l (DR dv) (.tuple #[]) ⟨T,s.d⟩);rw[hQ]at HQ⊢;obtain⟨HP,aA⟩:=fD hp hq;have aB:=eu (show([]:List Ln).length+L.length<=maxLen by simp only[maxLen,lI];omega);have aC:=eu (show(([]:List Ln).length+L.length)*64<=140737488355328 by simp only[lI];omega);have aD:=eu (kK (e:=47) nR w);have aa:=eu (eZ w (.cells #[] 47));have aj:=fe aa.out c1;obtain⟨N,hN⟩:=eX (L.length);rw[hN]at c1 aj ai;have hii:(i:Int)<(N:Int):=by omega
 have HN:=eu hN;have aI:N<=800000000000:=by omega
 clear hM hL hLn hp hq hT hQ hi hn hN
 go_enter func96,ntmps96
 go_upto_region 1 with(at_builtin;go_must (refine iw Rm rfl (.tmp 5) (.tmp 10) rfl w.heap.size _ ([]:List Ln) rfl aD.out _ L rfl (ai.out.below aa.out) aB.out aC.out aa.out.size ?_;intro v2 w2 hown2 hg2 ak;rw[uk]at hown2;obtain⟨g2,cap2,hv2,ae,af,av,hcm2⟩:=jG hown2 (by rw[HN.out];omega);rw[HN.out]at hv2;subst hv2;have ah:=eu hown2;have aF:=eu (show(w.alloc (.cells #[] 47)).grownBy w2 (some w.heap.size)from hg2);have aG:=eu ae;have aH:=eu af;clear hown2 hg2 ak ae af av hcm2))
 have hb2:Below w.heap.size w w2:=aa.out.grown aF.out aa.out.size (λq hq=>by injection hq with hq;omega);have hO2:OT w2 w0.heap.size (.slice (some ⟨g2,0,none⟩) N cap2) L:=by
  refine⟨iK ah.out HM.out.kE.size,λj q hq=>fI (HM.out.nodes.kids j q hq) hb2,HM.out.nodes.apart⟩
 have hO3:=hO2.set i 5 p {p.nd with y:=true} (.bool true) HP.out rfl rfl (by decide);obtain⟨w3,hw3⟩:=eX (w2.setCell ⟨g2,i*6+5,none⟩ (.bool true));have hb3:Below w.heap.size w w3:=by rw[<-hw3];exact hb2.setCell (p:=⟨g2,i*6+5,none⟩) aG.out _
 rw[hw3]at hO3;obtain⟨ax,ay⟩:=HM.out.toTree hb3 hO3;have HD:=eu (HQ.out _ ⟨_,_,ax,aA.out,ay⟩);have d1:w3.cell? ⟨rb,1,none⟩=some (.slice (some ⟨g,0,none⟩) N cap):=fe hb3 c1;have f1:w3.frozen? ⟨rb,1,none⟩=false:=(HM.out.below hb3).free 1;have c5:w2.cell? ⟨g2,i*6+5,none⟩=some (.bool p.nd.y):=by
  have:=hO2.row.cells (g:=g2) rfl _ _ ((ky nR L i p HP.out 5 (by decide)).trans rfl);rw[iy,j5]at this;exact this
 have f5:=aH.out (i*6+5);have HW3:=eu hw3;clear hb2 hO2 hO3 hb3 ax ay hw3 aj c1 HQ HM;go_upto_region 2 with fail
 rw[HW3.out];clear HW3 c5 f5;go_wp2_with fail
 go_end0
 exact HD.out
end
section
open Go.RowKit
open Sq
open Fl (Tk raw kd jh cnt ends opens gF gM begins back blanks fq kQ jr key props text iN)
namespace Fl
def FK(l:List Tk)(e a:Nat):Nat:=if gF (kd l e a)=true then fq l e (a+1)else a
def yf(l:List Tk)(e b:Nat):Nat:=if kd l e b=6 then b+1 else 0
theorem Pz(l:List Tk)(e i:Nat):key l e i=yf l e (FK l e (props l e (e-i) i)):=rfl
theorem ry{k:Nat}:gM k=(k==12||k==14):=rfl
end Fl
theorem Je(rb:Nat)(tv:Value)(e:Nat)(l:List Tk)(i:Nat)(w:World)(h:GT w rb tv e l)(hie:i<=e):
 Calls prog 103 #[RG rb,.int .i64 i] w λen w'=>en=.returned (.int .i64 (key l e i:Nat))/\w=w':=by
 have hes:e<=100000:=jN h.ends h.size;rw[Fl.Pz];obtain⟨A,hA⟩:=eX (props l e (e-i) i);rw[hA];obtain⟨T,hT⟩:=eX (Fl.yf l e (Fl.FK l e A));rw[hT];obtain⟨HT,af⟩:=fD hT hA;have HK:=eu (λj=>yA rb tv e l j w h);have HS:=eu (λk=>Iy k w);have ae:=eu (λj (hj:j<=e)=>show Calls prog 101 #[RG rb,.int .i64 ((j:Int)+1)] w λen w'=>en=.returned (.int .i64 (fq l e (j+1):Nat))/\w=w' from by have h1:=zT rb tv e l (j+1) w h (by omega);rw[show((j+1:Nat):Int)=(j:Int)+1 from by omega]at h1;exact h1);clear h hA hT
 go_enter func103,ntmps103
 go_wp2_with fail
 go_loopw [1] (λjv wr=>∃j g:Nat,jv=.int .i64 j/\j<=e/\Hid (e<=g+j)/\Hid (props l e g j=A)/\w=wr) (λjv _=>e-(intOf jv).toNat)
 case atStart=>exact⟨i,e-i,rfl,hie,eu (by omega),af,rfl⟩
 case round=>
  obtain⟨j,g,rfl,hj,HG,HA,rfl⟩:=hrel;have hk:=HK.out j;obtain⟨K,hK⟩:=eX (kd l e j);rw[hK]at hk;have ag:=eu hk;cases c:gM K with
  |true=>
   have ak:=Fl.wh (l:=l) (e:=e) (i:=j) (by rw[hK];intro h0;rw[h0]at c;exact absurd c (by decide));have hg1:=HG.out;obtain⟨g',rfl⟩:∃g',g=g'+1:=⟨g-1,by omega⟩
   have ha:=HA.out;rw[Fl.xG,hK,eT c]at ha;have hin:=iN (l:=l) (e:=e) (i:=j+1) (by omega);have ht:=ae.out j hj;obtain⟨X,hX⟩:=eX (fq l e (j+1));rw[hX]at ha hin ht;obtain⟨HA2,ah⟩:=fD ha ht;have ai:=eu (show e<=g'+X by omega);by_cases q:K=12
   ·have g1:((K:Int)==12)=true:=by simp;omega
    clear hk hK c hg1 HG HA af ha ht hX q HK HS ae;go_wp2_with (first|(with_reducible refine ag.out.mono ?_;rintro e w1 ⟨rfl,rfl⟩)|(with_reducible refine ah.out.mono ?_;rintro e w1 ⟨rfl,rfl⟩))
    go_roundw
    case rel=>exact⟨X,g',rfl,by omega,ai,HA2,trivial⟩
    case measure=>simp[intOf];omega
   have q2:K=14:=by rw[Fl.ry]at c;simp at c;omega
   have g1:((K:Int)==12)=false:=by simp;omega
   have g2:((K:Int)==14)=true:=by simp;omega
   clear hk hK c hg1 HG HA af ha ht hX q q2 HK HS ae;go_wp2_with (first|(with_reducible refine ag.out.mono ?_;rintro e w1 ⟨rfl,rfl⟩)|(with_reducible refine ah.out.mono ?_;rintro e w1 ⟨rfl,rfl⟩))
   go_roundw
   case rel=>exact⟨X,g',rfl,by omega,ai,HA2,trivial⟩
   case measure=>simp[intOf];omega
  |false=>
   have ha:=HA.out;rw[Fl.Gi l e g j (by rw[hK];exact c)]at ha;subst ha;have g1:((K:Int)==12)=false:=by rw[Fl.ry]at c;simp at c⊢;omega
   have g2:((K:Int)==14)=false:=by rw[Fl.ry]at c;simp at c⊢;omega
   have hs:=HS.out K;cases c2:gF K with
   |true=>
    rw[c2]at hs;have ak:=Fl.wh (l:=l) (e:=e) (i:=j) (by rw[hK];intro h0;rw[h0]at c2;exact absurd c2 (by decide));have ht:=ae.out j hj;have hb:Fl.FK l e j=fq l e (j+1):=by unfold Fl.FK;rw[hK,eT c2]
    have hin:=iN (l:=l) (e:=e) (i:=j+1) (by omega);obtain⟨X,hX⟩:=eX (fq l e (j+1));rw[hX]at ht hin hb;have hk2:=HK.out X;obtain⟨HSc,ah⟩:=fD hs ht;obtain⟨K2,hK2⟩:=eX (kd l e X);rw[hK2]at hk2;have aj:=eu hk2;by_cases q:K2=6
    ·have g3:((K2:Int)==6)=true:=by simp;omega
     have hr:Fl.yf l e X=X+1:=by unfold Fl.yf;rw[hK2,eT q]
     have aa:=HT.out;rw[hb,hr]at aa;subst aa;clear hk hK c c2 HG HA af hs ht hb hX hk2 hK2 q HK HS ae hr HT;go_wp2_with (first|(with_reducible refine ag.out.mono ?_;rintro e w1 ⟨rfl,rfl⟩)|(with_reducible refine HSc.out.mono ?_;rintro e w1 ⟨rfl,rfl⟩)|(with_reducible refine ah.out.mono ?_;rintro e w1 ⟨rfl,rfl⟩)|(with_reducible refine aj.out.mono ?_;rintro e w1 ⟨rfl,rfl⟩))
     go_ret;exact⟨by go_num,rfl⟩
    have g3:((K2:Int)==6)=false:=by simp;omega
    have hr:Fl.yf l e X=0:=by unfold Fl.yf;rw[hK2,eQ q]
    have aa:=HT.out;rw[hb,hr]at aa;subst aa;clear hk hK c c2 HG HA af hs ht hb hX hk2 hK2 q HK HS ae hr HT;go_wp2_with (first|(with_reducible refine ag.out.mono ?_;rintro e w1 ⟨rfl,rfl⟩)|(with_reducible refine HSc.out.mono ?_;rintro e w1 ⟨rfl,rfl⟩)|(with_reducible refine ah.out.mono ?_;rintro e w1 ⟨rfl,rfl⟩)|(with_reducible refine aj.out.mono ?_;rintro e w1 ⟨rfl,rfl⟩))
    go_ret;exact⟨rfl,rfl⟩
   |false=>
    rw[c2]at hs;have hb:Fl.FK l e j=j:=by unfold Fl.FK;rw[hK,eQ (by rw[c2];decide)]
    have HSc:=eu hs;by_cases q:K=6
    ·have g3:((K:Int)==6)=true:=by simp;omega
     have hr:Fl.yf l e j=j+1:=by unfold Fl.yf;rw[hK,eT q]
     have aa:=HT.out;rw[hb,hr]at aa;subst aa;clear hk hK c c2 HG HA af hs hb q HK HS ae hr HT;go_wp2_with (first|(with_reducible refine ag.out.mono ?_;rintro e w1 ⟨rfl,rfl⟩)|(with_reducible refine HSc.out.mono ?_;rintro e w1 ⟨rfl,rfl⟩))
     go_ret;exact⟨by go_num,rfl⟩
    have g3:((K:Int)==6)=false:=by simp;omega
    have hr:Fl.yf l e j=0:=by unfold Fl.yf;rw[hK,eQ q]
    have aa:=HT.out;rw[hb,hr]at aa;subst aa;clear hk hK c c2 HG HA af hs hb q HK HS ae hr HT;go_wp2_with (first|(with_reducible refine ag.out.mono ?_;rintro e w1 ⟨rfl,rfl⟩)|(with_reducible refine HSc.out.mono ?_;rintro e w1 ⟨rfl,rfl⟩))
    go_ret;exact⟨rfl,rfl⟩
theorem NZ(rb:Nat)(tv:Value)(e:Nat)(l:List Tk)(i:Nat)(w:World)(h:GT w rb tv e l)(hie:i<e):
 Calls prog 91 #[RG rb,.int .i64 i] w λen w'=>en=.returned (.int .i64 (text l e i:Nat))/\w=w':=by
 obtain⟨c0,c3,hr,he,hs⟩:=h;obtain⟨a,cap,rfl⟩:=hr.shape;obtain⟨P,hP⟩:∃P:Nat->Bool,(λj=>!cnt (raw l j)&&raw l j !=1)=P:=⟨_,rfl⟩
 obtain⟨P2,hP2⟩:∃P2:Nat->Bool,(λj=>raw l j==19)=P2:=⟨_,rfl⟩
 have HX:=eu (λi (x:Tk)(hi:l[i]?=some x)=>show(!cnt x.1&&x.1 !=1)=P i by rw[<-hP];show _=(!cnt (raw l i)&&raw l i !=1);rw[Fl.kR hi]);have af:=eu (λi (x:Tk)(hi:l[i]?=some x)=>show(x.1==19)=P2 i by rw[<-hP2];show _=(raw l i==19);rw[Fl.kR hi]);have HR:=eu (λi (x:Tk)(hi:l[i]?=some x)=>Fl.kR hi);have H:=eu (λj x (hj:l[j]?=some x)=>iG hr j x hj);have HC:=eu (λk=>L5 k w);obtain⟨J,hJ⟩:=eX (jh P (e-(i+1)) (i+1));obtain⟨T,hT⟩:=eX (text l e i);rw[hT];have ht:(if e<=J\/raw l J≠1\/e<=J+1\/raw l (J+1)≠19 then i+1 else jh P2 (e-(J+1)) (J+1))=T:=by
  rw[<-hT,<-hJ,<-hP,<-hP2];rfl
 obtain⟨HT,HJ⟩:=fD ht hJ;obtain⟨N,hN⟩:=eX (l.length);have HN:=eu hN;rw[hN]at hs c0 he;clear hr hN hT hP hP2 hJ ht
 go_enter func91,ntmps91
 go_wp2_with fail
 go_loopw [5] (λiv wr=>∃k:Nat,iv=.int .i64 k/\k<=e/\Hid (jh P (e-k) k=J)/\w=wr) (λiv _=>e-(intOf iv).toNat)
 case atStart=>exact⟨i+1,by go_num,by omega,HJ,rfl⟩
 case round=>
  obtain⟨k,rfl,hk,ae,rfl⟩:=hrel;by_cases hlt:k<e
  ·obtain⟨x,hx⟩:=iT l k (by rw[HN.out];omega);have aa:=HX.out k x hx;have ag:=HR.out k x hx;obtain⟨b,off,rfl,t0,-,-⟩:=H.out k x hx;have hst:=Fl.lq P e k hlt;obtain⟨K,hK⟩:=eX (x.1);rw[hK]at t0 aa ag;have hcl:=HC.out K;have gp:(k:Int)<(e:Int):=by omega
   have gq:¬((e:Int)<=(k:Int)):=by omega
   have gi:(k:Int)<(N:Int):=by omega
   by_cases q1:K=1
   ·have c1:cnt K=false:=by rw[q1];rfl
    rw[c1]at hcl aa;have ai:P k=false:=by rw[<-aa,q1];rfl
    rw[eQ (by rw[ai];decide)]at hst;obtain rfl:J=k:=by rw[<-ae.out];exact hst
    have ah:=eu hcl;have g1:((K:Int) !=1)=false:=by simp;omega
    by_cases q2:e<=J+1
    ·have ht:=HT.out;rw[eT (.inr (.inr (.inl q2)))]at ht;subst ht;have g2:(e:Int)<=(J:Int)+1:=by omega
     clear hcl hst hx hK HX af HR H HC ae HT HJ aa ag c1 ai q1 q2 hlt;go_wp2_with (with_reducible refine ah.out.mono ?_;rintro e w1 ⟨rfl,rfl⟩)
     go_ret;exact⟨by go_num,rfl⟩
    obtain⟨y,hy⟩:=iT l (J+1) (by rw[HN.out];omega);obtain⟨b',off',he2,s0,-,-⟩:=H.out (J+1) y hy;injection he2 with he2
    injection he2 with e1 e2
    subst e1 e2;have aj:=HR.out (J+1) y hy;obtain⟨Y,hY⟩:=eX (y.1);rw[hY]at s0 aj;have g2:¬((e:Int)<=(J:Int)+1):=by omega
    have av:(J:Int)+1<(N:Int):=by omega
    by_cases q3:Y=19
    ·have ht:=HT.out;rw[eQ (by rw[ag,aj];omega)]at ht;have HT2:=eu ht;have g3:((Y:Int) !=19)=false:=by simp;omega
     have ak:=eu HN.out;clear hcl hst hx hK HX HR HC ae HT HJ aa ag c1 ai q1 q3 hlt hy hY aj ht;go_wp2_with (with_reducible refine ah.out.mono ?_;rintro e w1 ⟨rfl,rfl⟩)
     clear ah g1 g3 g2 gp gq gi av t0 s0
     go_loopw [5] (λiv wr=>∃k:Nat,iv=.int .i64 k/\k<=e/\Hid (jh P2 (e-k) k=T)/\w=wr) (λiv _=>e-(intOf iv).toNat)
     case atStart=>exact⟨J+1,by go_num,by omega,HT2,rfl⟩
     case round=>
      obtain⟨m,rfl,hm,HM,rfl⟩:=hrel;by_cases hlt:m<e
      ·obtain⟨x,hx⟩:=iT l m (by rw[ak.out];omega);have aa:=af.out m x hx;obtain⟨b',off',he2,t0,-,-⟩:=H.out m x hx;injection he2 with he2
       injection he2 with e1 e2
       subst e1 e2;have hst:=Fl.lq P2 e m hlt;obtain⟨K2,hK⟩:=eX (x.1);rw[hK]at t0 aa;have gp:(m:Int)<(e:Int):=by omega
       have gi:(m:Int)<(N:Int):=by omega
       by_cases q:K2=19
       ·have q0:P2 m=true:=by rw[<-aa,q];rfl
        rw[eT q0]at hst;have ax:=eu (show jh P2 (e-(m+1)) (m+1)=T by rw[<-HM.out];exact hst.symm);have g1:((K2:Int)==19)=true:=by simp;omega
        clear hst hx hK q q0 H af HM HT2 aa ak;go_wp2_with fail
        go_roundw
        case rel=>exact⟨m+1,by go_num,by omega,ax,trivial⟩
        case measure=>simp[intOf];omega
       have q0:P2 m=false:=by rw[<-aa];simpa using q
       rw[eQ (by rw[q0];decide)]at hst;obtain rfl:T=m:=by rw[<-HM.out];exact hst
       have g1:((K2:Int)==19)=false:=by simp;omega
       clear hst hx hK q q0 H af HM HT2 aa ak;go_wp2_with fail
       go_ret;exact⟨rfl,rfl⟩
      have hst:=Fl.mi P2 e m (by omega);obtain rfl:T=m:=by rw[<-HM.out];exact hst
      have gp:¬(T:Int)<(e:Int):=by omega
      clear H af HM HT2 hlt hst ak;go_wp2_with fail
      go_ret;exact⟨rfl,rfl⟩
    have ht:=HT.out;rw[eT (.inr (.inr (.inr (by rw[aj];exact q3))))]at ht;subst ht;have g3:((Y:Int) !=19)=true:=by simp;omega
    clear hcl hst hx hK HX af HR H HC ae HT HJ aa ag c1 ai q1 q2 q3 hlt hy hY aj;go_wp2_with (with_reducible refine ah.out.mono ?_;rintro e w1 ⟨rfl,rfl⟩)
    go_ret;exact⟨by go_num,rfl⟩
   have g1:((K:Int) !=1)=true:=by simp;omega
   cases c1:cnt K with
   |false=>
    rw[c1]at hcl aa;have hpt:P k=true:=by rw[<-aa];simpa using q1
    rw[eT hpt]at hst;have ay:=eu (show jh P (e-(k+1)) (k+1)=J by rw[<-ae.out];exact hst.symm);have ah:=eu hcl;clear hcl hst hx hK HX af HR H HC ae HT HJ aa ag c1 hpt q1;go_wp2_with (with_reducible refine ah.out.mono ?_;rintro e w1 ⟨rfl,rfl⟩)
    go_roundw
    case rel=>exact⟨k+1,by go_num,by omega,ay,trivial⟩
    case measure=>simp[intOf];omega
   |true=>
    rw[c1]at hcl aa;have ai:P k=false:=by rw[<-aa];rfl
    rw[eQ (by rw[ai];decide)]at hst;obtain rfl:J=k:=by rw[<-ae.out];exact hst
    have ht:=HT.out;rw[eT (.inr (.inl (by rw[ag];exact q1)))]at ht;subst ht;have ah:=eu hcl;clear hcl hst hx hK HX af HR H HC ae HT HJ aa ag c1 ai q1;go_wp2_with (with_reducible refine ah.out.mono ?_;rintro e w1 ⟨rfl,rfl⟩)
    go_ret;exact⟨by go_num,rfl⟩
  have hst:=Fl.mi P e k (by omega);obtain rfl:J=k:=by rw[<-ae.out];exact hst
  have ht:=HT.out;rw[eT (.inl (by omega))]at ht;subst ht;have gp:¬(J:Int)<(e:Int):=by omega
  have gq:(e:Int)<=(J:Int):=by omega
  clear H HX af HR ae HT HJ hlt hst HC;go_wp2_with fail
  go_ret;exact⟨by go_num,rfl⟩
end
section
open Go.RowKit
open Sq
open Ar
open Fl (Tk raw kd jh cnt ends opens gF gM begins back blanks fq fQ pQ pair)
theorem jD.of{t:List Nd}{n:Int}(h:Ck t n)(hn:t.length<=800000000000):jD t:=⟨h.good,hn,λx hx=>jN (Ft.Bd h x hx) hn⟩
theorem zC{t r:List Nd}{up k f u:Int}(h:addN t up k f u=(r,(t.length:Int))):iL t up k f u=true:=by
 unfold addN at h;by_cases hm:iL t up k f u=true
 ·exact hm
 rw[eQ hm]at h;have:=congrArg Prod.snd h;dsimp only at this;omega
theorem Bo{t:List Nd}{n:Int}{i:Nat}{u:Int}(h:Ck t n)(hi:i<t.length)(hu:u<=n):ku t i u=true:=by
 unfold ku;rw[h.firstT];simp;omega
namespace Fl
def jP(l:List Tk)(j n:Nat):Nat:=if(List.range n).any (λx=>raw l (j+x)==13)=true then 8 else 7
theorem Dv(l:List Tk)(j n:Nat):jP l j (n+1)=if raw l (j+n)=13 then 8 else jP l j n:=by
 unfold jP;rw[OD,List.any_append,List.any_cons,List.any_nil,Oj];by_cases h:raw l (j+n)=13
 ·rw[eT h,show(raw l (j+n)==13)=true by simpa using h,Bool.or_true,eT rfl]
 rw[eQ h,show(raw l (j+n)==13)=false by simpa using h,Oj]
end Fl
theorem N5(w0 w:World)(rb:Nat)(tv:Value)(e:Nat)(l:List Tk)(s:Fl.St)(R:Nat->Prop)(c j q:Nat)(b:Int)(hS:GS w0 w rb tv e l s R)(hck:Ck s.t l.length)(hf:Fits s.t j b c)(hlf:Fe.Lf s.t)(hno:Fe.No s.t c)(hjq:j<q)(hq:q<=l.length)(hn:s.t.length<=700000000000):
 Calls prog 87 #[RG rb,.int .i64 c,.int .i64 j,.int .i64 q] w (fU w0 w rb tv e l R (.int .i64 (s.t.length:Int)) (pair l s c j q).1):=by
 obtain⟨s1,a1,_,a3,⟨x,a4,a5⟩,a6⟩:=Fe.iW (kind:=6) (Fe.Ok.start (l:=l) (p0:=j) hck hf hlf hno) (f:=j) (t:=q) (by omega) (by omega) (by omega) (by omega) (by omega);have a1:Fl.add s c 6 j q=(s1,(s.t.length:Int)):=a1;have hadd:addN s.t c 6 j q=(s1.t,(s.t.length:Int)):=by
  have e1:=congrArg (λx=>x.1.t) a1;have e2:=congrArg Prod.snd a1;exact Prod.ext e1 e2
 have ah:s1.d=s.d:=by have e1:=congrArg (λx=>x.1.d) a1;exact e1.symm
 have hA:=Im w0 w rb tv e l s R c 6 j q hS (jD.of hck (by omega)) (zC hadd);rw[hadd]at hA;dsimp only at hA;rw[<-ah]at hA;have hlen1:s1.t.length<=s.t.length+1:=by have h:=Fe.mf s.t c 6 j q;rw[hadd]at h;exact h
 have ae:(pair l s c j q).1=if q-j<2 then s1 else(⟨Fl.keyed (Fl.add s1 s.t.length (Fl.jP l j (q-j)) j (back l (q-1) (j+1))).1.t s.t.length,(Fl.add s1 s.t.length (Fl.jP l j (q-j)) j (back l (q-1) (j+1))).1.d⟩:Fl.St):=by
  unfold pair;dsimp only;rw[a1];dsimp only;split
  ·rfl
  rfl
 rw[ae];have aI:q<=100000:=jN hq hS.gt.size;obtain⟨M,hM⟩:=eX (s.t.length);rw[hM]at hA hlen1 a3⊢;have HA:=eu hA;by_cases c1:q-j<2
 ·rw[eT c1];have g1:(q:Int)-(j:Int)<2:=by omega
  have HQ:=eu (λW R' (h:GS w0 W rb tv e l ⟨s1.t,s1.d⟩ R')(h2:FP w W rb R R')=>show fU w0 w rb tv e l R (.int .i64 (M:Int)) s1 (.returned (.int .i64 (M:Int))) W from⟨rfl,R',h,h2⟩);obtain⟨Q,hQ⟩:=eX (fU w0 w rb tv e l R (.int .i64 (M:Int)) s1);rw[hQ]at HQ⊢;clear hA a1 a3 a4 a5 a6 hadd ah ae hM hck hf hlf hno hS c1 hQ
  go_enter func87,ntmps87
  go_wp2_with fail
  refine HA.out.mono ?_;rintro e1 w1 ⟨rfl,R1,hS1,hF1⟩;have HD:=eu (HQ.out w1 R1 hS1 hF1);clear hS1 hF1 HA HQ;go_wp2_with fail
  exact HD.out
 rw[eQ c1];have g1:¬((q:Int)-(j:Int)<2):=by omega
 have b1:=fQ l (q-1) (j+1);have b2:=pQ l (q-1) (j+1) (by omega);obtain⟨B,hB⟩:=eX (back l (q-1) (j+1));rw[hB]at b1 b2⊢;obtain⟨K,hK⟩:=eX (Fl.jP l j (q-j));have hk1:1<=K/\K<=10:=by rw[<-hK];unfold Fl.jP;split<;>omega
 rw[hK];obtain⟨s2,d1,d2,_⟩:=Fe.iW (kind:=K) (Fe.Ok.start (l:=l) (p0:=j) a3.ck a3.fits a3.lf a3.no) (f:=j) (t:=B) (by omega) (by omega) (by omega) hk1.1 hk1.2;have aa:addN s1.t M K j B=(s2.t,(s1.t.length:Int)):=by
  have e1:=congrArg (λx=>x.1.t) d1;have e2:=congrArg Prod.snd d1;exact Prod.ext e1 e2
 have az:s2.d=s1.d:=by have e1:=congrArg (λx=>x.1.d) d1;exact e1.symm
 have aA:s2.t.length<=s1.t.length+1:=by have h:=Fe.mf s1.t M K j B;rw[aa]at h;exact h
 have hM2:M<s2.t.length:=by
  have:=d2.keep.1;have h3:=a3.fits.lt;omega
 rw[d1];dsimp only
 have HA2:=eu (λw1 R1 (h:GS w0 w1 rb tv e l s1 R1)=>show Calls prog 68 #[RG rb,.int .i64 M,.int .i64 K,.int .i64 j,.int .i64 B] w1 (fU w0 w1 rb tv e l R1 (.int .i64 (s1.t.length:Int)) s2)from by
  have h1:=Im w0 w1 rb tv e l s1 R1 M K j B h (jD.of a3.ck (by omega)) (zC aa);rw[aa]at h1;dsimp only at h1;rw[<-az]at h1
  exact h1)
 have ai:=eu (λw1 R1 (h:GS w0 w1 rb tv e l s2 R1)=>Jd w0 w1 rb tv e l s2 R1 M h hM2 (by omega))
 have aj:=eu (λw1 R1 (h:GS w0 w1 rb tv e l s1 R1)=>show Calls prog 95 #[RG rb,.int .i64 ((q:Int)-1),.int .i64 ((j:Int)+1)] w1 λen w'=>en=.returned (.int .i64 (B:Nat))/\w1=w' from by
  have h1:=Ed rb tv e l (q-1) (j+1) w1 h.gt (by omega) (by omega);rw[hB,show((q-1:Nat):Int)=(q:Int)-1 from by omega,show((j+1:Nat):Int)=(j:Int)+1 from by omega]at h1
  exact h1)
 have ak:=eu (λn=>Fl.Dv l j n);have HK:=eu hK;have av:=eu (show Fl.jP l j 0=7 from rfl);have ax:=eu (λi (x:Tk)(hi:l[i]?=some x)=>Fl.kR hi);have HQ:=eu (λW w1 w2 R1 R2 R3 (h1:FP w w1 rb R R1)(h2:FP w1 w2 rb R1 R2)(h3:FP w2 W rb R2 R3)(h:GS w0 W rb tv e l ⟨Fl.keyed s2.t M,s2.d⟩ R3)=>show fU w0 w rb tv e l R (.int .i64 (M:Int)) ⟨Fl.keyed s2.t M,s2.d⟩ (.returned (.int .i64 (M:Int))) W from⟨rfl,R3,h,(h1.trans h2).trans h3⟩);obtain⟨Q,hQ⟩:=eX (fU w0 w rb tv e l R (.int .i64 (M:Int)) ⟨Fl.keyed s2.t M,s2.d⟩);rw[hQ]at HQ⊢;clear hA a1 a3 a4 a5 a6 hadd ah ae hM hck hf hlf hno hS c1 hQ d1 d2 aa az hB hK hlen1 aA hM2 b1 b2
 go_enter func87,ntmps87
 go_wp2_with fail
 refine HA.out.mono ?_;rintro e1 w1 ⟨rfl,R1,hS1,hF1⟩;have af:=eu (show GS w0 w1 rb tv e l s1 R1 from hS1);have aG:=eu hF1;obtain⟨c0,_,hr,_,_⟩:=af.out.gt;obtain⟨ta,tc,rfl⟩:=hr.shape;have H:=eu (λj x (hj:l[j]?=some x)=>iG hr j x hj);obtain⟨N,hN⟩:=eX (l.length);have HN:=eu hN;rw[hN]at hq c0;have HS2:=eu (show GS w0 w1 rb (.slice ta l.length tc) e l s1 R1 from af.out);clear hS1 hF1 hr hN HA;go_wp2_with fail
 go_loopw [10,11] (λkv iv wr=>∃i:Nat,iv=.int .i64 i/\j<=i/\i<=q/\kv=.int .i64 (Fl.jP l j (i-j):Nat)/\w1=wr) (λ_ iv _=>q-(intOf iv).toNat)
 case atStart=>exact⟨j,rfl,fC _,by omega,by rw[zl,av.out];rfl,rfl⟩
 case round=>
  obtain⟨i,rfl,hi1,hi2,rfl,rfl⟩:=hrel;obtain⟨K0,ag⟩:=eX (Fl.jP l j (i-j));rw[ag];by_cases hlt:i<q
  ·obtain⟨x,hx⟩:=iT l i (by rw[HN.out];omega);have ay:=ax.out i x hx;obtain⟨bb,off,rfl,t0,-,-⟩:=H.out i x hx;have hst:=ak.out (i-j);rw[show j+(i-j)=i by omega,ag]at hst;obtain⟨X,hX⟩:=eX (x.1);rw[hX]at t0 ay;rw[ay]at hst;have gi:(i:Int)<(q:Int):=by omega
   have gn:(i:Int)<(N:Int):=by omega
   by_cases q1:X=13
   ·rw[eT q1]at hst;have g2:((X:Int)==13)=true:=by simp;omega
    have aB:=eu (show Fl.jP l j (i+1-j)=8 by rw[show i+1-j=i-j+1 by omega];exact hst);clear hst hx ay hX q1 ag ak HK av ax H HQ aj HA2 ai af HS2;go_wp2_with fail
    go_roundw
    case rel=>exact⟨i+1,by go_num,by omega,by omega,by rw[aB.out];rfl,trivial⟩
    case measure=>simp[intOf];omega
   rw[eQ q1]at hst;have g2:((X:Int)==13)=false:=by simp;omega
   have aB:=eu (show Fl.jP l j (i+1-j)=K0 by rw[show i+1-j=i-j+1 by omega];exact hst);clear hst hx ay hX q1 ag ak HK av ax H HQ aj HA2 ai af HS2;go_wp2_with fail
   go_roundw
   case rel=>exact⟨i+1,by go_num,by omega,by omega,by rw[aB.out],trivial⟩
   case measure=>simp[intOf];omega
  obtain rfl:i=q:=by omega
  rw[HK.out]at ag;subst ag;have gi:¬((i:Int)<(i:Int)):=by omega
  obtain⟨HB1,HA1⟩:=fD (aj.out w1 R1 af.out) (HA2.out w1 R1 af.out);have gw:IntKind.i64.wrap ((i:Int)-1)=(i:Int)-1:=jC _ (by omega);clear ak HK av ax H aj HA2 af HS2 hlt;go_wp2_with fail
  with_reducible refine HB1.out.mono ?_
  rintro e2 w2 ⟨rfl,rfl⟩;go_wp2_with fail
  refine HA1.out.mono ?_;rintro e2 w2 ⟨rfl,R2,hS2,hF2⟩;obtain⟨aC,aH⟩:=fD (ai.out w2 R2 hS2) hF2;clear hS2 hF2 HA1 HB1 ai;go_wp2_with fail
  refine aC.out.mono ?_;rintro e3 w3 ⟨rfl,R3,aD,aF⟩;have HD:=eu (HQ.out w3 w1 w2 R1 R2 R3 aG.out aH.out aF aD);clear aD aF aC HQ;go_wp2_with fail
  exact HD.out
end
end Go.Proofs.YtfbiffdmhcjhbaaGreat

import Derived.Test.YtfbiffdmhcjhbaaGreatZa37
set_option linter.all false
set_option maxHeartbeats 16000000
set_option maxRecDepth 100000
set_option synthInstance.maxSize 4000
set_option synthInstance.maxHeartbeats 0
namespace Go.Proofs.YtfbiffdmhcjhbaaGreat
open Go.RowKit Tryz
section
open Go.RowKit
open Sq
open Ar
open Fl (Tk raw jh iM cnt back fQ gI)
theorem NF(w0 w:World)(c:Cx)(e:Nat)(p:Ps.PS)(sv:Value)(R:Nat->Prop)(r:Rw.R)(e0:Nat)(B:Ps.Bs)(h:PG w0 w c e p sv R)(hrs:c.rs=Rw.fE c.l)(ht:Rw.jl 0 c.l)(hf:∀x∈c.l,x.2.1<=1000000)(hI:Ps.Inv c.l B e0 p)(hr:Ps.l8 c.l r)(h5:r.kind=5)(hB:B.1<=r.from')(he:e0<=r.from')(hd1:1<=c.depth)(aJ:c.depth<=50)(hdp:p.st.length<=c.depth)(hcs:(Rw.lC c.l r).1≠[])
 (hn:p.s.t.length<=420000000000) (hd:p.s.d.length<=420000000000):
 Calls prog 44 #[RG c.pb,.agg #[.int .i64 r.kind,.int .i64 r.from',.int .i64 r.au,.int .i64 r.fo]] w (iJ w0 w c (.tuple #[]) (Ps.body c.l c.rs c.depth p r)):=by
 have hls:=h.toks.2.2.2;have hlt:=hr.lt;have hle:=hr.le;have hlo:=hr.body h5;have hge:=Ps.jJ c.l r.from' r.au;have hcnt:=Ps.wE c.l hlo;obtain⟨n1,n2,n3,n4⟩:=Ps.tq ht hr h5;have hbl:=fQ c.l r.au (Ps.lo c.l r.from' r.au);have hbg:=Ps.pW c.l r.au _ _ (fC _) hlo hcnt;have hbody:=Ps.Nz c.l c.rs c.depth p r hcs;obtain⟨w1,hw1⟩:=eX (w.alloc (.cells #[.int .i64 r.kind,.int .i64 r.from',.int .i64 r.au,.int .i64 r.fo] 67));have hb1:Below w.heap.size w w1:=hw1▸(fu _ w).alloc (fC _) _;have hX1:RB w1 w.heap.size r.kind r.from' r.au r.fo:=hw1▸RB.new w _ _ _ _;have hP1:=h.below hb1;have hT1:=TF.below hb1;have ak:=kD w0 w1 c e p sv R r.from' r.au hP1 (by omega) hle;obtain⟨bx,hbx⟩:=eX (w.heap.size);rw[hbx]at hX1;have x1:=hX1.c1;have x2:=hX1.c2;obtain⟨a,ha⟩:=eX (Ps.lo c.l r.from' r.au);rw[ha]at hlo hge hcnt n1 n3 hbl hbg hbody ak;obtain⟨b,hb⟩:=eX (back c.l r.au a);rw[hb]at n1 hbl hbg hbody ak;have az:=C9 w0 w1 c e p sv R a e0 B hP1 hI (by omega) (by omega) (by omega);obtain⟨o1,o2⟩:=Ps.nK hI (i:=a) (by omega) (by omega);have st1:=Ps.qM p a c.depth hdp;have bI:=Ps.oW p a;have aR:=Ps.tF p a;obtain⟨P1,hp1⟩:=eX (Ps.gu p a);rw[hp1]at o1 o2 st1 bI aR hbody az;have hent:=λW (hR:Reads iZ W c.tv c.l)=>BM c.tv c.l r W hR hls hf hlt hle
 obtain⟨EN,bJ⟩:=eX (Rw.lC c.l r);rw[bJ]at n1 n2 n3 n4 hbody hent hcs;obtain⟨ES,RS⟩:=EN;dsimp only at n1 n2 n3 n4 hbody hent hcs;obtain⟨Q,hQ⟩:=eX (iJ w0 w c (.tuple #[]) (Ps.body c.l c.rs c.depth p r));have HQ:=eu (λW p' (hz:Ps.body c.l c.rs c.depth p r=p')(h:∃e sv R,PG w0 W c e p' sv R/\TF w W)=>show Q (.returned (.tuple #[])) W from by rw[<-hQ,hz];exact⟨rfl,h⟩);rw[hQ];obtain⟨aA,aK,bK,dU,HW1,HX⟩:=j6 hbody ak az o1 hw1 hX1;obtain⟨HT,dE⟩:=fD hT1 st1;have aL:P1.s.t.length<=420000000001:=by omega
 have aM:P1.s.d.length<=420000000000:=by rw[aR];exact hd
 obtain⟨aS,bL⟩:=fD aL aM;have hBa:B.1<=a:=by omega
 have dV:a<=100000:=by omega
 have hb5:b<=100000:=by omega
 have hbL:b<=c.l.length:=by omega
 have hbt:b<=r.au:=by omega
 have dF:=eu hcs;have hpos:0<ES.length:=Hz.2 hcs
 obtain⟨EL,aG⟩:=eX (ES.length);have aT:=eu aG
 have bM:=eu (λW (hR:Reads iZ W c.tv c.l)=>show Calls prog 71 #[c.tv,.agg #[.int .i64 r.kind,.int .i64 r.from',.int .i64 r.au,.int .i64 r.fo]] W (λen w'=>∃eb ec,en=.returned (.tuple #[.slice (some ⟨eb,0,none⟩) EL ec,.int .i64 (RS:Nat)])/\w'.ownsRow W.heap.size 112 4 (.slice (some ⟨eb,0,none⟩) EL ec) ES.length (oG.all ES)/\Below W.heap.size W w')from
  (hent W hR).mono λen w' h=>by
   obtain⟨u,h1,h2,h3⟩:=h;obtain⟨g,cap,hv,-,-,-,-⟩:=jG (E:=oG) h2 hpos;rw[aG]at hv;subst hv
   exact⟨g,cap,h1,h2,h3⟩)
 have dR:RS<=100000:=by omega
 have bN:=eu (Ps.BL.start (depth:=c.depth) o1 n1 (by omega) st1);have dG:=eu n2;have bO:EL<=100000:=by
  rcases Ps.xe ES a n1 with h9|h9
  ·omega
  exact absurd h9 hcs
 rw[aG]at hpos;clear hQ h hP1 hX1 hT1 hw1 hbody ak az o1 o2 st1 bI aR aL aM hn hd hb1 hI hr ht hf hcnt hent bJ hp1 hb ha hdp hlo hge hbl h5 he hB n1 n2 n3 n4 hcs aG
 go_enter func44,ntmps44
 go_upto_region 1 with fail
 rw[HW1.out];go_wp2_with fail
 refine aK.out.mono ?_;rintro e1 v1 ⟨rfl,rfl⟩;clear x1 x2 aK;go_wp2_with fail
 refine bK.out.mono ?_;rintro e2 w2 ⟨rfl,e3,dH,R2,hP2,aU⟩;have aB:=eu (hP2.below (fu _ w2).drew);have HT2:=eu ((HT.out.trans aU).trans (TF.below (fu _ w2).drew));have av:=eu ((HX.out.keep aU).keep (TF.below (fu _ w2).drew));clear hP2 aU bK HX HT HW1;have r0:w2.drew.cell? ⟨c.pb,0,none⟩=some (RG c.rb):=aB.out.cell 0 _ rfl;have rt:w2.drew.cell? ⟨c.rb,0,none⟩=some c.tv:=aB.out.gs.toks.1;have bP:=av.out.c0;have bQ:=av.out.c1;have bR:=av.out.c2;have bS:=av.out.c3;go_upto_region 3 with fail
 refine fB (λwx=>wx.cell? ⟨c.pb,0,none⟩=some (RG c.rb)/\wx.cell? ⟨c.rb,0,none⟩=some c.tv/\wx.cell? ⟨bx,0,none⟩=some (.int .i64 r.kind)/\wx.cell? ⟨bx,1,none⟩=some (.int .i64 r.from')/\wx.cell? ⟨bx,2,none⟩=some (.int .i64 r.au)/\wx.cell? ⟨bx,3,none⟩=some (.int .i64 r.fo)) 8 (by kernel_rfl) ?_;have hH:(λwx:World=>wx.cell? ⟨c.pb,0,none⟩=some (RG c.rb)/\wx.cell? ⟨c.rb,0,none⟩=some c.tv/\wx.cell? ⟨bx,0,none⟩=some (.int .i64 r.kind)/\wx.cell? ⟨bx,1,none⟩=some (.int .i64 r.from')/\wx.cell? ⟨bx,2,none⟩=some (.int .i64 r.au)/\wx.cell? ⟨bx,3,none⟩=some (.int .i64 r.fo)) w2.drew:=⟨r0,rt,bP,bQ,bR,bS⟩
 refine fM 0 (RG c.pb) rfl (by kernel_rfl) rfl eY (λW=>by go_simp) (λ_=>hH) ?_;refine fM 1 (.pointer (some ⟨c.pb,0,none⟩)) rfl (by kernel_rfl) rfl eY (λW=>by go_simp) (λ_=>hH) ?_;refine fM 2 (.pointer (some ⟨c.pb,0,none⟩)) rfl (by kernel_rfl) rfl eY (λW=>by go_simp) (λ_=>hH) ?_;refine fV [8,6,5,4] (i:=3) (oi:=⟨_,_,_,_,_,_⟩) (v:=RG c.rb) rfl (by kernel_rfl) (by kernel_rfl) (by kernel_rfl) (by kernel_rfl) (by kernel_rfl) eY (Or.inl ⟨rfl,λW hW=>?_⟩) hH ?_
 ·refine fZ.of_run ?_;obtain⟨z0,z1,z2,z3,z4,z5⟩:=hW;go_simp
 try simp only[Act.put,fF,fH,fG]
 refine fM 4 (.pointer (some ⟨c.rb,0,none⟩)) rfl (by kernel_rfl) rfl eY (λW=>by go_simp) (λ_=>hH) ?_;refine fM 5 (.pointer (some ⟨c.rb,0,none⟩)) rfl (by kernel_rfl) rfl eY (λW=>by go_simp) (λ_=>hH) ?_;refine fw 6 (c.tv) rfl (by kernel_rfl) rfl eY (λW hW=>?_) hH ?_
 ·obtain⟨z0,z1,z2,z3,z4,z5⟩:=hW;go_simp
 refine fw 7 (.agg #[.int .i64 r.kind,.int .i64 r.from',.int .i64 r.au,.int .i64 r.fo]) rfl (by kernel_rfl) rfl eY (λW hW=>?_) hH ?_
 ·obtain⟨z0,z1,z2,z3,z4,z5⟩:=hW;go_simp
 refine iD 8 (by kernel_rfl) rfl λK hK=>?_
 go_simp;refine(bM.out w2.drew aB.out.gs.toks.2.2.1).mono ?_;rintro e4 w3 ⟨eb,ec,rfl,hO3,hb3⟩;have bT:=eu hO3;clear hO3;have aV:=eu (aB.out.below hb3);have HT3:=eu (HT2.out.trans (TF.below hb3));have bU:=eu (av.out.keep (TF.below hb3));clear hb3 aB HT2 av r0 rt bP bQ bR bS bM;refine hK.out _ _ (jg (by kernel_rfl)) (λ_=>?_);clear hK K;try simp only[Act.put,fF,fH,fG]
 refine fM 9 (.tuple #[.slice (some ⟨eb,0,none⟩) EL ec,.int .i64 (RS:Int)]) rfl (by kernel_rfl) rfl eY (λW=>by go_simp) (jg (by kernel_rfl)) ?_;refine fM 10 (.slice (some ⟨eb,0,none⟩) EL ec) rfl (by kernel_rfl) rfl eY (λW=>by go_simp) (jg (by kernel_rfl)) ?_;refine fM 11 (.int .i64 (RS:Int)) rfl (by kernel_rfl) rfl eY (λW=>by go_simp) (jg (by kernel_rfl)) ?_;refine fM 12 (.slice (some ⟨eb,0,none⟩) EL ec) rfl (by kernel_rfl) rfl eY (λW=>by go_simp) (jg (by kernel_rfl)) ?_;refine fM 13 (.int .i64 (RS:Int)) rfl (by kernel_rfl) rfl eY (λW=>by go_simp) (jg (by kernel_rfl)) ?_;refine fA (by kernel_rfl) ?_ _;have gE:((EL:Int)==0)=false:=by simp;omega
 have bV:=eu (vL w0 w3 c e3 P1 dH R2 aV.out (by have h9:=dE.out;omega));go_wp2_with fail
 refine bV.out.mono ?_;rintro e5 w4 ⟨rfl,hb4⟩;have ax:=eu (aV.out.below hb4);have bW:=eu (HT3.out.trans (TF.below hb4));have dI:=eu (bU.out.keep (TF.below hb4));have bX:=eu (Jl bT.out (TF.below hb4) (by decide) (by decide) (by decide) (by decide))
 have aN:=eu (λW (hT:TF w4 W)(j:Nat)(x:Rw.E)(hj:ES[j]?=some x)=>show W.cell? ⟨eb,j*4,none⟩=some (.bool x.dash)/\W.cell? ⟨eb,j*4+1,none⟩=some (.int .i64 x.fo)/\W.cell? ⟨eb,j*4+2,none⟩=some (.int .i64 x.from')/\W.cell? ⟨eb,j*4+3,none⟩=some (.int .i64 x.au)from by
  have hO:=Jl bX.out hT (by decide) (by decide) (by decide) (by decide);have hc:∀k u,k<4->(zF x)[k]?=some u->W.cell? ⟨eb,j*4+k,none⟩=some u:=λk u hk hu=>by
   have:=hO.cells (g:=eb) rfl _ _ ((ky oG ES j x hj k hk).trans hu);rw[iy,j5]at this;exact this
  exact⟨hc 0 _ (by decide) rfl,hc 1 _ (by decide) rfl,hc 2 _ (by decide) rfl,hc 3 _ (by decide) rfl⟩)
 clear hb4 aV HT3 bU bT bV bX;go_wp2_with fail
 go_loopw [8,9] (λuv iv wr=>∃(i:Nat)(q:Ps.PS)(up:Int)(e' ee:Nat)(sq:Value)(Rq:Nat->Prop),uv=.int .i64 up/\iv=.int .i64 i/\i<=EL/\Hid (Ps.BL c.l c.depth b B P1 ES a i q up e')/\Hid (PG w0 wr c ee q sq Rq)/\Hid (TF w4 wr)) (λuv iv _=>EL-(intOf iv).toNat)
 case atStart=>exact⟨0,P1,_,a,_,_,_,rfl,rfl,gG _,bN,ax,eu (TF.refl _)⟩
 case round=>
  obtain⟨i,q,up,e',ee,sq,Rq,rfl,rfl,hi,aa,ag,ai⟩:=hrel;by_cases dS:i<EL
  ·obtain⟨en,hen⟩:=iT ES i (by rw[aT.out];omega);obtain⟨k1,k2,k3⟩:=aa.out.bounds hen;have bY:=aa.out.lo;have dJ:=aa.out.hi;obtain⟨z0,z1,z2,z3⟩:=aN.out wr ai.out i en hen;have gi:(i:Int)<(EL:Int):=by omega
   have hpl:=PY w0 wr c ee q sq Rq en e' B ag.out aa.out.op (by omega) k1 k2 (by omega) hd1 aJ (by have h9:=aa.out.st;omega) (by have h9:=aa.out.sz;have h8:=aS.out;omega);have hstep:=aa.out.step hBa (by omega) hen;have ah:=aa.out.fail hBa (by omega) hen;obtain⟨K,hK⟩:=eX ((Ps.place c.l c.depth q en).1);obtain⟨q',hq'⟩:∃q',(Ps.place c.l c.depth q en).2=q':=⟨_,rfl⟩
   rw[hK]at hpl hstep ah;rw[hq']at hpl hstep ah;obtain⟨bZ,aW,aX,aC,aY,aZ⟩:=j6 hpl hstep ah hen k1 k2;have bf:=eu k3;have hkc:en.from'<=100000:=by omega
   have aD:=eu bY;clear hpl hstep ah hen hK hq' k1 k2 k3 bY dJ;go_wp2_with (first|(with_reducible refine bZ.out.mono ?_)|fail)
   rintro e6 w5 ⟨rfl,e7,s7,R7,af,aj⟩;have aH:=eu (ai.out.trans aj);clear z0 z1 z2 z3 bZ aj;by_cases cr:K=0
   ·subst cr;obtain⟨t,kk,hst,hbl⟩:=aW.out rfl;obtain⟨g9,ae,y0,-,-,-,-,-,-,y3,-⟩:=af.top hst;obtain⟨M,hM⟩:=eX (kk.length);rw[hM]at y0 y3;subst y0;have u4:w5.cell? ⟨c.pb,4,none⟩=some (.slice (some ⟨g9,0,none⟩) (M+1) ae):=af.cell 4 _ rfl;have cz:((M:Nat):Int)<((M+1:Nat):Int):=by omega
    have aO:((M:Nat):Int)<((M:Nat):Int)+1:=by omega
    have cB:M<=50:=by have h9:=hbl.st;rw[hst,gy,hM]at h9;omega
    obtain⟨cK,cO⟩:=fD af hbl;clear hst hbl hM af aW aX aa ag ai aC aY aZ bf aD;go_upto_region 13 with fail
    go_big_quiet (fail)
    obtain⟨w6,bg⟩:=eX (w5.drewN nq);have hb6:Below w5.heap.size w5 w6:=bg▸gB (fu _ w5) nq;rw[bg];have dK:=eu (cK.out.below hb6);have dL:=eu (aH.out.trans (TF.below hb6));clear bg hb6 cK aH u4 y3 cz aO;go_wp2_with fail
    go_roundw
    case rel=>exact⟨i+1,q',t.cur,en.au,_,_,_,rfl,by go_num,by omega,cO,dK,dL⟩
    case measure=>simp[intOf];omega
   obtain⟨f1,f2,f3,f4,f5⟩:=aX.out cr;subst f1;obtain⟨dd,d1,d2,d3⟩:=aa.out.op;obtain⟨mh,cZ,bn⟩:=d3.hold;have hup:up=(mh:Int):=by rw[aa.out.hu,Ps.lS,d1];exact cZ
   have h8:=aY.out;have h7:=aZ.out;have h6:=bf.out;have hkl:=aD.out;obtain⟨-,m2⟩:=Fe.jL (code:=K) bn (f:=en.from') (t:=b) (by omega) (by omega) (by omega) f4 (by omega) f2 f3;have bq:=af.below (fu _ w5).drew;obtain⟨ve,bz⟩:=vW w0 w5.drew c.rb c.tv e7 c.l q'.s R7 mh en.from' b K bq.gs (jD.of bn.ck (by have h9:=aa.out.sz;have h8:=aS.out;omega)) (lh m2) (by omega) (by omega) (by rw[aa.out.dd];have h9:=bL.out;omega);rw[<-hup]at bz;obtain⟨aP,bA⟩:=fD bz bq;have bB:=eu (aH.out.trans (TF.below (fu _ w5).drew));have r0:w5.drew.cell? ⟨c.pb,0,none⟩=some (RG c.rb):=bA.out.cell 0 _ rfl;obtain⟨-,-,z2,-⟩:=aN.out w5.drew bB.out i en aC.out;have gK:(0:Int)<(K:Int):=by omega
   have dM:0<K:=by omega
   have dN:=eu f5;clear f2 f3 f4 f5 d1 d2 d3 cZ bn hup h8 h7 h6 hkl m2 bq bz af aH aW aX aa ag ai aC aY aZ bf aD;go_upto_region 12 with fail
   clear gK dM;refine fB (λwx=>wx.cell? ⟨c.pb,0,none⟩=some (RG c.rb)/\wx.cell? ⟨eb,i*4+2,none⟩=some (.int .i64 en.from')) 12 (by kernel_rfl) ?_;have hH:(λwx:World=>wx.cell? ⟨c.pb,0,none⟩=some (RG c.rb)/\wx.cell? ⟨eb,i*4+2,none⟩=some (.int .i64 en.from')) w5.drew:=⟨r0,z2⟩
   refine fM 0 (RG c.pb) rfl (by kernel_rfl) rfl eY (λW=>by go_simp) (λ_=>hH) ?_;refine fM 1 (.pointer (some ⟨c.pb,0,none⟩)) rfl (by kernel_rfl) rfl eY (λW=>by go_simp) (λ_=>hH) ?_;refine fM 2 (.pointer (some ⟨c.pb,0,none⟩)) rfl (by kernel_rfl) rfl eY (λW=>by go_simp) (λ_=>hH) ?_;refine fw 3 (RG c.rb) rfl (by kernel_rfl) rfl eY (λW hW=>?_) hH ?_
   ·obtain⟨z0,z1⟩:=hW;go_simp
   refine fw 4 (.int .i64 up) rfl (by kernel_rfl) rfl eY (λW hW=>by go_simp) hH ?_;refine fM 5 (.slice (some ⟨eb,0,none⟩) EL ec) rfl (by kernel_rfl) rfl eY (λW=>by go_simp) (λ_=>hH) ?_;refine fM 6 (.int .i64 (i:Int)) rfl (by kernel_rfl) rfl eY (λW=>by go_simp) (λ_=>hH) ?_;refine fM 7 (.pointer (some ⟨eb,i*4,none⟩)) rfl (by kernel_rfl) rfl eY (λW=>by go_simp) (λ_=>hH) ?_;refine fM 8 (.pointer (some ⟨eb,i*4+2,none⟩)) rfl (by kernel_rfl) rfl eY (λW=>by go_simp) (λ_=>hH) ?_;refine fw 9 (.int .i64 (en.from':Int)) rfl (by kernel_rfl) rfl eY (λW hW=>?_) hH ?_
   ·obtain⟨z0,z1⟩:=hW;go_simp
   refine fw 10 (.int .i64 (b:Int)) rfl (by kernel_rfl) rfl eY (λW hW=>by go_simp) hH ?_;refine fw 11 (.int .i64 (K:Int)) rfl (by kernel_rfl) rfl eY (λW hW=>by go_simp) hH ?_;refine iD 12 (by kernel_rfl) rfl λK hK=>?_
   go_simp;refine aP.out.mono ?_;rintro e8 w8 ⟨rfl,R8,df,dh⟩;obtain⟨di,dm⟩:=bA.out.step df dh;have HD:=eu (HQ.out w8 _ (by rw[aA.out,dN.out];rfl) ⟨_,_,_,di,(bW.out.trans bB.out).trans dm⟩);clear df dh di dm r0 z2 bA bB aP;refine hK.out _ _ (jg (by kernel_rfl)) (λ_=>?_);clear hK K;try simp only[Act.put,fF,fH,fG]
   refine fA (by kernel_rfl) ?_ _;go_wp2_with fail
   first|exact HD.out|(go_end0;exact HD.out)|(go_ret;exact HD.out)
  obtain rfl:i=EL:=by omega
  have hbl:=aa.out;rw[<-aT.out]at hbl;obtain⟨g1,⟨z,g2,g3⟩,t,k,g4,g5⟩:=hbl.done dF.out;have dO:RS=e':=by rw[dG.out z g2,g3]
  have hop:=hbl.op;have hst:=hbl.st;have hsz:=hbl.sz;rw[aT.out]at hsz;have hdd:=hbl.dd;have hlo:=hbl.lo;have hhi:=hbl.hi;have dn:=dI.out.keep ai.out;have x2:=dn.c2;have hcn:=kD w0 wr c ee q sq Rq RS r.au ag.out (by omega) hle;have hxg:=Ps.jJ c.l RS r.au;have hxb:=fQ c.l r.au (Ps.lo c.l RS r.au);obtain⟨X,hX⟩:=eX (Ps.lo c.l RS r.au);rw[hX]at hcn hxg hxb;obtain⟨Y,hY⟩:=eX (back c.l r.au X);rw[hY]at hcn hxb;obtain⟨bC,dW,dw,dX,dY⟩:=xZ hcn g1 g4 hX hY;have dZ:¬(i:Int)<(i:Int):=by omega
  have dx:Ps.body c.l c.rs c.depth p r=if X<Y then{(Ps.value c.l c.rs c.depth q t.cur X).1 with st:={t with has:=(Ps.value c.l c.rs c.depth q t.cur X).2}::k}else q:=by
   rw[aA.out,g1];unfold Ps.Fj;rw[eT rfl,hX,hY];dsimp only;rw[g4]
  obtain⟨bD,bE⟩:=fD dx (bW.out.trans ai.out);have hRe:e'<=RS:=by omega
  have hi5:i<=100000:=bO;clear dx hcn g1 hX hY dn dO g3 g2;by_cases hxy:X<Y
  ·obtain⟨dd,d1,d2,d3⟩:=hop;rw[g4]at d3;obtain⟨mm,m1,m2⟩:=d3.2 g5;have cB:k.length+1<=c.depth:=by rw[g4,gy]at hst;exact hst
   have hvk:∀W ay aF,PG w0 W c ee q ay aF->∀kk:Int,kk=(mm:Int)->Calls prog 69 #[RG c.pb,.int .i64 kk,.int .i64 X] W (nC w0 W c ay (.bool (Ps.value c.l c.rs c.depth q kk X).2) (Ps.value c.l c.rs c.depth q kk X).1):=by
    rintro W ay aF hW _ rfl;exact vM w0 W c ee q ay aF mm X e' B hW hrs m2 (by omega) (by omega) (by omega) (by omega) aJ (by have h9:=aS.out;omega) (by rw[hdd];have h9:=bL.out;omega)
   have bF:=eu (λW ay aF hW=>hvk W ay aF hW t.cur m1);clear hvk d1 d2 d3 m1 m2 hst hsz hdd;have dP:(X:Int)<(Y:Int):=by omega
   obtain⟨V,hV⟩:=eX (Ps.value c.l c.rs c.depth q t.cur X);rw[hV]at bF bD;have aQ:V.1.st=t::k:=by rw[<-hV];exact g4
   have dA:=eu aQ;clear hV aQ;obtain⟨g9,ae,y0,-,-,-,-,-,-,-,-⟩:=ag.out.top dw.out;obtain⟨M,hM⟩:=eX (k.length);have HM:=eu hM;rw[hM]at y0 cB;subst y0;have u4:wr.cell? ⟨c.pb,4,none⟩=some (.slice (some ⟨g9,0,none⟩) (M+1) ae):=ag.out.cell 4 _ rfl;have cz:((M:Nat):Int)<((M:Nat):Int)+1:=by omega
   have aO:¬(((M:Nat):Int)+1<=((M:Nat):Int)):=by omega
   go_wp2_with (first|(with_reducible refine bC.out.mono ?_;rintro e6 v6 ⟨rfl,rfl⟩)|fail)
   have ax:=eu (ag.out.below (fu _ wr).drew);have dB:=eu (bE.out.trans (TF.below (fu _ wr).drew));have HV:=eu (bF.out wr.drew _ _ ax.out);have r4:wr.drew.cell? ⟨c.pb,4,none⟩=some (.slice (some ⟨g9,0,none⟩) (M+1) ae):=ax.out.cell 4 _ rfl;obtain⟨g',cap',z1,-,-,-,-,-,-,r3,-⟩:=ax.out.top dw.out;injection z1 with z1 bG bH
   clear bG bH;injection z1 with z1
   injection z1 with z1
   subst z1;rw[HM.out]at r3;clear hM x2 bF ag bE ai bC;go_upto_region 17 with fail
   clear u4;refine fB (λwx=>wx.cell? ⟨c.pb,4,none⟩=some (.slice (some ⟨g9,0,none⟩) (M+1) ae)/\wx.cell? ⟨g9,M*5+3,none⟩=some (.int .i64 t.cur)) 18 (by kernel_rfl) ?_;have hH:(λwx:World=>wx.cell? ⟨c.pb,4,none⟩=some (.slice (some ⟨g9,0,none⟩) (M+1) ae)/\wx.cell? ⟨g9,M*5+3,none⟩=some (.int .i64 t.cur)) wr.drew:=⟨r4,r3⟩
   refine fw 0 (RG c.pb) rfl (by kernel_rfl) rfl eY (λW hW=>by go_simp) hH ?_;refine fw 1 (.pointer (some ⟨c.pb,0,none⟩)) rfl (by kernel_rfl) rfl eY (λW hW=>by go_simp) hH ?_;refine fw 2 (.pointer (some ⟨c.pb,4,none⟩)) rfl (by kernel_rfl) rfl eY (λW hW=>by go_simp) hH ?_;refine fw 3 (.slice (some ⟨g9,0,none⟩) (M+1) ae) rfl (by kernel_rfl) rfl eY (λW hW=>?_) hH ?_
   ·obtain⟨z0,z1⟩:=hW;go_simp
   refine fw 4 (.int .i64 (M:Int)) rfl (by kernel_rfl) rfl eY (λW hW=>by go_simp) hH ?_;refine fw 5 (RG c.pb) rfl (by kernel_rfl) rfl eY (λW hW=>by go_simp) hH ?_;refine fw 6 (RG c.pb) rfl (by kernel_rfl) rfl eY (λW hW=>by go_simp) hH ?_;refine fw 7 (.pointer (some ⟨c.pb,0,none⟩)) rfl (by kernel_rfl) rfl eY (λW hW=>by go_simp) hH ?_;refine fw 8 (.pointer (some ⟨c.pb,4,none⟩)) rfl (by kernel_rfl) rfl eY (λW hW=>by go_simp) hH ?_;refine fw 9 (.slice (some ⟨g9,0,none⟩) (M+1) ae) rfl (by kernel_rfl) rfl eY (λW hW=>?_) hH ?_
   ·obtain⟨z0,z1⟩:=hW;go_simp
   refine fw 10 (.int .i64 (M:Int)) rfl (by kernel_rfl) rfl eY (λW hW=>by go_simp) hH ?_;refine fw 11 (.pointer (some ⟨g9,M*5,none⟩)) rfl (by kernel_rfl) rfl eY (λW hW=>by go_simp) hH ?_;refine fw 12 (.pointer (some ⟨g9,M*5+3,none⟩)) rfl (by kernel_rfl) rfl eY (λW hW=>by go_simp) hH ?_;refine fw 13 (.int .i64 t.cur) rfl (by kernel_rfl) rfl eY (λW hW=>?_) hH ?_
   ·obtain⟨z0,z1⟩:=hW;go_simp
   refine fw 14 (.int .i64 (X:Int)) rfl (by kernel_rfl) rfl eY (λW hW=>by go_simp) hH ?_;refine iD 15 (by kernel_rfl) rfl λK hK=>?_
   go_simp;refine HV.out.mono ?_;rintro e5 w5 ⟨rfl,e8,R6,aI,dC⟩;have d4:w5.cell? ⟨c.pb,4,none⟩=some (.slice (some ⟨g9,0,none⟩) (M+1) ae):=aI.cell 4 _ rfl;obtain⟨g',cap',z1,-,z3,-,-,-,-,d3,y4⟩:=aI.top dA.out;injection z1 with z1 bG bH
   clear bG bH;injection z1 with z1
   injection z1 with z1
   subst z1;rw[HM.out]at d3 y4;have f4:=z3 (M*5+4);obtain⟨af,aj⟩:=aI.je (p':={V.1 with st:={t with has:=V.2}::k}) (T:=t) (T':={t with has:=V.2}) (SS:=k) 4 (.bool V.2) dA.out rfl rfl (by decide) rfl rfl rfl rfl;rw[HM.out]at af aj;obtain⟨w7,hw7⟩:=eX (w5.setCell ⟨g9,M*5+4,none⟩ (.bool V.2));rw[hw7]at af aj;have dD:=eu hw7;have HD:=eu (HQ.out w7 _ (by rw[bD.out,eT hxy]) ⟨_,_,_,af,(dB.out.trans dC).trans aj⟩);clear aI dC af aj hw7 r4 r3 HV ax dB;refine hK.out _ _ (λ_=>⟨d4,d3⟩) (λhH2=>?_);clear hK K;replace hH:=hH2 (by kernel_rfl);clear hH2;try simp only[Act.put,fF,fH,fG]
   refine fM 16 (.pointer (some ⟨g9,M*5,none⟩)) rfl (by kernel_rfl) rfl eY (λW=>by go_simp) (λ_=>hH) ?_;refine fw 17 (.pointer (some ⟨g9,M*5+4,none⟩)) rfl (by kernel_rfl) rfl eY (λW hW=>by go_simp) hH ?_;refine iD 18 (by kernel_rfl) rfl λK hK=>?_
   go_simp;refine hK.out _ _ (jg (by kernel_rfl)) (λ_=>?_);clear hK K;try simp only[Act.put,fF,fH,fG]
   rename_i dQ;clear dQ hH;refine fA (by kernel_rfl) ?_ _;rw[dD.out];clear dD d4 d3 y4 f4;go_wp2_with fail
   first|exact HD.out|(go_end0;exact HD.out)|(go_ret;exact HD.out)
  have dP:¬(X:Int)<(Y:Int):=by omega
  have HD:=eu (HQ.out wr q (by rw[bD.out,eQ hxy]) ⟨_,_,_,ag.out,bE.out⟩);clear hop hst hsz hdd;go_wp2_with (first|(with_reducible refine bC.out.mono ?_;rintro e6 v6 ⟨rfl,rfl⟩)|fail)
  first|exact HD.out|(go_end0;exact HD.out)|(go_ret;exact HD.out)
end
section
open Go.RowKit
open Sq
open Ar
open Fl (Tk raw jh iM cnt back fQ gI)
theorem Ra(w0 w:World)(c:Cx)(e:Nat)(p:Ps.PS)(sv:Value)(R:Nat->Prop)(r:Rw.R)(e0:Nat)(B:Ps.Bs)(h:PG w0 w c e p sv R)(hrs:c.rs=Rw.fE c.l)(ht:Rw.jl 0 c.l)(hf:∀x∈c.l,x.2.1<=1000000)(hI:Ps.Inv c.l B e0 p)(hr:Ps.l8 c.l r)(h5:r.kind=5)(hB:B.1<=r.from')(he:e0<=r.from')(hd1:1<=c.depth)(aa:c.depth<=50)(hdp:p.st.length<=c.depth)
 (hn:p.s.t.length<=420000000000) (hd:p.s.d.length<=420000000000):
 Calls prog 44 #[RG c.pb,.agg #[.int .i64 r.kind,.int .i64 r.from',.int .i64 r.au,.int .i64 r.fo]] w (iJ w0 w c (.tuple #[]) (Ps.body c.l c.rs c.depth p r)):=by
 by_cases hes:(Rw.lC c.l r).1=[]
 ·exact ND w0 w c e p sv R r e0 B h hrs ht hf hI hr h5 hB he hd1 aa hdp hes hn hd
 exact NF w0 w c e p sv R r e0 B h hrs ht hf hI hr h5 hB he hd1 aa hdp hes hn hd
theorem Ry(w0 w:World)(c:Cx)(e:Nat)(p:Ps.PS)(sv:Value)(R:Nat->Prop)(r:Rw.R)(B:Ps.Bs)(h:PG w0 w c e p sv R)(hrs:c.rs=Rw.fE c.l)(ht:Rw.jl 0 c.l)(hf:∀x∈c.l,x.2.1<=1000000)(hI:Ps.Inv c.l B p.read p)(hr:Ps.l8 c.l r)(hB:B.1<=r.from')(he:p.read<=r.from')(hd1:1<=c.depth)(aI:c.depth<=50)(hdp:p.st.length<=c.depth)
 (hn:p.s.t.length<=400000000000) (hd:p.s.d.length<=400000000000):
 Calls prog 26 #[RG c.pb,.agg #[.int .i64 r.kind,.int .i64 r.from',.int .i64 r.au,.int .i64 r.fo]] w (iJ w0 w c (.tuple #[]) (Ps.row c.l c.rs c.depth p r)):=by
 have hls:=h.toks.2.2.2;have hlt:=hr.lt;have hle:=hr.le;obtain⟨w1,hw1⟩:=eX (w.alloc (.cells #[.int .i64 r.kind,.int .i64 r.from',.int .i64 r.au,.int .i64 r.fo] 67));have hb1:Below w.heap.size w w1:=hw1▸(fu _ w).alloc (fC _) _;have hX1:RB w1 w.heap.size r.kind r.from' r.au r.fo:=hw1▸RB.new w _ _ _ _;have hP1:=h.below hb1;have hT1:=TF.below hb1;obtain⟨bx,hbx⟩:=eX (w.heap.size);rw[hbx]at hX1;have x2:=hX1.c2;have k6:w1.cell? ⟨c.pb,6,none⟩=some (.int .i64 (p.read:Int)):=hP1.cell 6 _ rfl;have f6:=hP1.free 6;obtain⟨p2,hp2⟩:∃p2:Ps.PS,({p with read:=r.au}:Ps.PS)=p2:=⟨_,rfl⟩
 obtain⟨hP2,ak⟩:=hP1.toCell (p':={p with read:=r.au}) (i:=6) (u:=.int .i64 (r.au:Int)) rfl rfl rfl;rw[hp2]at hP2;have hI2:Ps.Inv c.l B p.read p2:=by rw[<-hp2];exact hI
 have hs2:p2.s=p.s:=by rw[<-hp2]
 have ag:p2.st=p.st:=by rw[<-hp2]
 obtain⟨w2,hw2⟩:=eX (w1.setCell ⟨c.pb,6,none⟩ (.int .i64 (r.au:Int)));rw[hw2]at hP2 ak;have hX2:=hX1.keep ak;have hrow:Ps.row c.l c.rs c.depth p r=if r.kind=4 then Ps.mark c.l c.rs c.depth p2 r else if r.kind=5 then Ps.body c.l c.rs c.depth p2 r else if r.kind=2\/r.kind=3 then
  (if Ps.lo c.l r.from' r.au<back c.l r.au (Ps.lo c.l r.from' r.au)then{Ps.gu p2 (Ps.lo c.l r.from' r.au)with s:=Fl.err c.l (Ps.gu p2 (Ps.lo c.l r.from' r.au)).s (Ps.holder (Ps.gu p2 (Ps.lo c.l r.from' r.au))) (Ps.lo c.l r.from' r.au) (back c.l r.au (Ps.lo c.l r.from' r.au)) 8}else p2)else p2:=by
  unfold Ps.row;rw[hp2]
 obtain⟨Q,hQ⟩:=eX (iJ w0 w c (.tuple #[]) (Ps.row c.l c.rs c.depth p r));have HQ:=eu (λW p' (hz:Ps.row c.l c.rs c.depth p r=p')(h:∃e sv R,PG w0 W c e p' sv R/\TF w W)=>show Q (.returned (.tuple #[])) W from by rw[<-hQ,hz];exact⟨rfl,h⟩);rw[hQ];obtain⟨HT,HW1,HW2⟩:=gW (hT1.trans ak) hw1 hw2;have hn2:p2.s.t.length<=400000000000:=by rw[hs2];exact hn
 have hd2:p2.s.d.length<=400000000000:=by rw[hs2];exact hd
 have aa:p2.st.length<=c.depth:=by rw[ag];exact hdp
 have y0:=hX2.c0;have y1:=hX2.c1;have y2:=hX2.c2;have y3:=hX2.c3;by_cases h4:r.kind=4
 ·rw[eT h4]at hrow;obtain⟨HC,ah⟩:=fD (Q8 w0 w2 c e p2 sv R r p.read B hP2 hrs hI2 hr h4 hB he aI hn2 hd2) hrow;have g4:((r.kind:Int)==4)=true:=by simp;omega
  clear hrow hQ hP1 hT1 hw1 hw2 ak hP2 hX1 hX2 h hI hI2 hn hd hn2 hd2 hb1 hs2 ag hp2 aa hdp h4 hr hf ht
  go_enter func26,ntmps26
  go_upto_region 1 with fail
  rw[HW1.out];go_upto_region 2 with fail
  rw[HW2.out];clear x2 k6 f6;go_wp2_with fail
  refine HC.out.mono ?_;rintro e3 w3 ⟨rfl,e4,s4,R4,ae,af⟩;have HD:=eu (HQ.out w3 _ ah.out ⟨_,_,_,ae,HT.out.trans af⟩);clear ae af y0 y1 y2 y3 HC;go_wp2_with fail
  first|exact HD.out|(go_end0;exact HD.out)|(go_ret;exact HD.out)
 rw[eQ h4]at hrow;have g4:((r.kind:Int)==4)=false:=by simp;omega
 by_cases h5:r.kind=5
 ·rw[eT h5]at hrow;have HC:=eu (Ra w0 w2 c e p2 sv R r p.read B hP2 hrs ht hf hI2 hr h5 hB he hd1 aI aa (by omega) (by omega));have ah:=eu hrow;have g5:((r.kind:Int)==5)=true:=by simp;omega
  clear hrow hQ hP1 hT1 hw1 hw2 ak hP2 hX1 hX2 h hI hI2 hn hd hn2 hd2 hb1 hs2 ag hp2 aa hdp h4 h5 hr hf ht
  go_enter func26,ntmps26
  go_upto_region 1 with fail
  rw[HW1.out];go_upto_region 2 with fail
  rw[HW2.out];clear x2 k6 f6;go_wp2_with fail
  refine HC.out.mono ?_;rintro e3 w3 ⟨rfl,e4,s4,R4,ae,af⟩;have HD:=eu (HQ.out w3 _ ah.out ⟨_,_,_,ae,HT.out.trans af⟩);clear ae af y0 y1 y2 y3 HC;go_wp2_with fail
  first|exact HD.out|(go_end0;exact HD.out)|(go_ret;exact HD.out)
 rw[eQ h5]at hrow;have g5:((r.kind:Int)==5)=false:=by simp;omega
 by_cases h23:r.kind=2\/r.kind=3
 ·rw[eT h23]at hrow;have hcn:=kD w0 w2 c e p2 sv R r.from' r.au hP2 (by omega) hle;have hge:=Ps.jJ c.l r.from' r.au;have hbl:=fQ c.l r.au (Ps.lo c.l r.from' r.au);obtain⟨a,ha⟩:=eX (Ps.lo c.l r.from' r.au);rw[ha]at hcn hge hbl hrow;obtain⟨b,hb⟩:=eX (back c.l r.au a);rw[hb]at hcn hbl hrow;have av:=eu hcn;have hb1':∀n,n=b->n<=200000:=by intro n hn;omega
  by_cases hab:a<b
  ·rw[eT hab]at hrow;have hbg:=C9 w0 w2 c e p2 sv R a p.read B hP2 hI2 (by omega) (by omega) (by omega);obtain⟨o1,o2⟩:=Ps.nK hI2 (i:=a) (by omega) (by omega);have st1:=Ps.qM p2 a c.depth aa;have aL:=Ps.oW p2 a;have aJ:=Ps.tF p2 a;obtain⟨P1,hp1⟩:=eX (Ps.gu p2 a);rw[hp1]at hbg o1 o2 st1 aL aJ hrow;obtain⟨dd,d1,d2,d3⟩:=o1;obtain⟨mh,aM,aK⟩:=d3.hold;have hup:Ps.holder P1=(mh:Int):=by rw[Ps.lS,d1];exact aM
   obtain⟨-,m2⟩:=Fe.jL (code:=8) aK (f:=a) (t:=b) (by omega) hab (by omega) (by omega) (by omega) (by omega) (by omega);have aN:=eu (λW e' R' (hW:GS w0 W c.rb c.tv e' c.l P1.s R')=>show∃v,Calls prog 47 #[RG c.rb,.int .i64 (Ps.holder P1),.int .i64 a,.int .i64 b,.int .i64 8] W (fU w0 W c.rb c.tv e' c.l R' (.int .i64 v) (Fl.err c.l P1.s (Ps.holder P1) a b 8))from by rw[hup];exact vW w0 W c.rb c.tv e' c.l P1.s R' mh a b 8 hW (jD.of aK.ck (by omega)) (lh m2) hab (by omega) (by rw[aJ];omega));have aO:=eu (λW e' sv' R' (hW:PG w0 W c e' P1 sv' R')=>vL w0 W c e' P1 sv' R' hW (by omega));obtain⟨aH,ah⟩:=fD hbg hrow;have aP:(a:Int)<(b:Int):=by omega
   have aQ:a<=100000:=by omega
   have hb5:b<=100000:=by omega
   have ax:r.kind=2\/r.kind=3:=h23;clear hcn hbg hrow hQ hP1 hT1 hw1 hw2 ak hP2 hX1 hX2 h hI hI2 hn hd hn2 hd2 hb1 hs2 ag hp2 aa hdp h4 h5 h23 hr hf ht ha hb hge hbl d1 d2 d3 aM aK hup m2 o2 st1 aL aJ hp1 hab hb1';rcases ax with h2|h2
   ·have g2:((r.kind:Int)==2)=true:=by simp;omega
    clear h2
    go_enter func26,ntmps26
    go_upto_region 1 with fail
    rw[HW1.out];go_upto_region 2 with fail
    rw[HW2.out];clear x2 k6 f6;go_wp2_with (first|(with_reducible refine av.out.mono ?_;rintro e6 v6 ⟨rfl,rfl⟩)|fail)
    refine aH.out.mono ?_;rintro e3 w3 ⟨rfl,e4,s4,R4,ae,af⟩;have ai:=eu (ae.below (fu _ w3).drew);have ay:=eu ((HT.out.trans af).trans (TF.below (fu _ w3).drew));have r0:w3.drew.cell? ⟨c.pb,0,none⟩=some (RG c.rb):=ai.out.cell 0 _ rfl;clear ae af HT y0 y1 y2 y3 aH av;go_upto_region 12 with fail
    refine fB (λwx=>wx.cell? ⟨c.pb,0,none⟩=some (RG c.rb)) 8 (by kernel_rfl) ?_;have hH:(λwx:World=>wx.cell? ⟨c.pb,0,none⟩=some (RG c.rb)) w3.drew:=r0;refine fM 0 (RG c.pb) rfl (by kernel_rfl) rfl eY (λW=>by go_simp) (λ_=>hH) ?_;refine fM 1 (.pointer (some ⟨c.pb,0,none⟩)) rfl (by kernel_rfl) rfl eY (λW=>by go_simp) (λ_=>hH) ?_;refine fM 2 (.pointer (some ⟨c.pb,0,none⟩)) rfl (by kernel_rfl) rfl eY (λW=>by go_simp) (λ_=>hH) ?_;refine fw 3 (RG c.rb) rfl (by kernel_rfl) rfl eY (λW hW=>by go_simp) hH ?_;refine fM 4 (RG c.pb) rfl (by kernel_rfl) rfl eY (λW=>by go_simp) (λ_=>hH) ?_;refine fw 6 (.int .i64 (a:Int)) rfl (by kernel_rfl) rfl eY (λW hW=>by go_simp) hH ?_;refine fw 7 (.int .i64 (b:Int)) rfl (by kernel_rfl) rfl eY (λW hW=>by go_simp) hH ?_;refine iD 5 (by kernel_rfl) rfl λK hK=>?_
    go_simp;refine(aO.out w3.drew _ _ _ ai.out).mono ?_;rintro e5 w5 ⟨rfl,hb5⟩;have aj:=eu (ai.out.below hb5);have az:=eu (ay.out.trans (TF.below hb5));have r5:w5.cell? ⟨c.pb,0,none⟩=some (RG c.rb):=aj.out.cell 0 _ rfl;obtain⟨ve,aA⟩:=aN.out w5 _ _ aj.out.gs;have aB:=eu aA;clear hb5 aA ai ay r0;refine hK.out _ _ (λ_=>r5) (λhH2=>?_);clear hK K;replace hH:=hH2 (by kernel_rfl);clear hH2;try simp only[Act.put,fF,fH,fG]
    refine iD 8 (by kernel_rfl) rfl λK hK=>?_
    go_simp;refine aB.out.mono ?_;rintro e6 w6 ⟨rfl,R6,aC,aD⟩;obtain⟨aF,aG⟩:=aj.out.step aC aD;have HD:=eu (HQ.out w6 _ ah.out ⟨_,_,_,aF,az.out.trans aG⟩);clear aC aD aF aG r5 aj az aB;refine hK.out _ _ (jg (by kernel_rfl)) (λ_=>?_);clear hK K;try simp only[Act.put,fF,fH,fG]
    refine fA (by kernel_rfl) ?_ _;go_wp2_with fail
    first|exact HD.out|(go_end0;exact HD.out)|(go_ret;exact HD.out)
   have g2:((r.kind:Int)==2)=false:=by simp;omega
   have g3:((r.kind:Int)==3)=true:=by simp;omega
   clear h2
   go_enter func26,ntmps26
   go_upto_region 1 with fail
   rw[HW1.out];go_upto_region 2 with fail
   rw[HW2.out];clear x2 k6 f6;go_wp2_with (first|(with_reducible refine av.out.mono ?_;rintro e6 v6 ⟨rfl,rfl⟩)|fail)
   refine aH.out.mono ?_;rintro e3 w3 ⟨rfl,e4,s4,R4,ae,af⟩;have ai:=eu (ae.below (fu _ w3).drew);have ay:=eu ((HT.out.trans af).trans (TF.below (fu _ w3).drew));have r0:w3.drew.cell? ⟨c.pb,0,none⟩=some (RG c.rb):=ai.out.cell 0 _ rfl;clear ae af HT y0 y1 y2 y3 aH av;go_upto_region 12 with fail
   refine fB (λwx=>wx.cell? ⟨c.pb,0,none⟩=some (RG c.rb)) 8 (by kernel_rfl) ?_;have hH:(λwx:World=>wx.cell? ⟨c.pb,0,none⟩=some (RG c.rb)) w3.drew:=r0;refine fM 0 (RG c.pb) rfl (by kernel_rfl) rfl eY (λW=>by go_simp) (λ_=>hH) ?_;refine fM 1 (.pointer (some ⟨c.pb,0,none⟩)) rfl (by kernel_rfl) rfl eY (λW=>by go_simp) (λ_=>hH) ?_;refine fM 2 (.pointer (some ⟨c.pb,0,none⟩)) rfl (by kernel_rfl) rfl eY (λW=>by go_simp) (λ_=>hH) ?_;refine fw 3 (RG c.rb) rfl (by kernel_rfl) rfl eY (λW hW=>by go_simp) hH ?_;refine fM 4 (RG c.pb) rfl (by kernel_rfl) rfl eY (λW=>by go_simp) (λ_=>hH) ?_;refine fw 6 (.int .i64 (a:Int)) rfl (by kernel_rfl) rfl eY (λW hW=>by go_simp) hH ?_;refine fw 7 (.int .i64 (b:Int)) rfl (by kernel_rfl) rfl eY (λW hW=>by go_simp) hH ?_;refine iD 5 (by kernel_rfl) rfl λK hK=>?_
   go_simp;refine(aO.out w3.drew _ _ _ ai.out).mono ?_;rintro e5 w5 ⟨rfl,hb5⟩;have aj:=eu (ai.out.below hb5);have az:=eu (ay.out.trans (TF.below hb5));have r5:w5.cell? ⟨c.pb,0,none⟩=some (RG c.rb):=aj.out.cell 0 _ rfl;obtain⟨ve,aA⟩:=aN.out w5 _ _ aj.out.gs;have aB:=eu aA;clear hb5 aA ai ay r0;refine hK.out _ _ (λ_=>r5) (λhH2=>?_);clear hK K;replace hH:=hH2 (by kernel_rfl);clear hH2;try simp only[Act.put,fF,fH,fG]
   refine iD 8 (by kernel_rfl) rfl λK hK=>?_
   go_simp;refine aB.out.mono ?_;rintro e6 w6 ⟨rfl,R6,aC,aD⟩;obtain⟨aF,aG⟩:=aj.out.step aC aD;have HD:=eu (HQ.out w6 _ ah.out ⟨_,_,_,aF,az.out.trans aG⟩);clear aC aD aF aG r5 aj az aB;refine hK.out _ _ (jg (by kernel_rfl)) (λ_=>?_);clear hK K;try simp only[Act.put,fF,fH,fG]
   refine fA (by kernel_rfl) ?_ _;go_wp2_with fail
   first|exact HD.out|(go_end0;exact HD.out)|(go_ret;exact HD.out)
  rw[eQ hab]at hrow;have aP:¬(a:Int)<(b:Int):=by omega
  have HD:=eu (HQ.out w2 _ hrow ⟨_,_,_,hP2,HT.out⟩);have ax:r.kind=2\/r.kind=3:=h23;clear hcn hrow hQ hP1 hT1 hw1 hw2 ak hP2 hX1 hX2 h hI hI2 hn hd hn2 hd2 hb1 hs2 ag hp2 aa hdp h4 h5 h23 hr hf ht ha hb hge hbl hab hb1' hlt he hB;rcases ax with h2|h2
  ·have g2:((r.kind:Int)==2)=true:=by simp;omega
   clear h2
   go_enter func26,ntmps26
   go_upto_region 1 with fail
   rw[HW1.out];go_upto_region 2 with fail
   rw[HW2.out];clear x2 k6 f6;go_wp2_with (first|(with_reducible refine av.out.mono ?_;rintro e6 v6 ⟨rfl,rfl⟩)|fail)
   first|exact HD.out|(go_end0;exact HD.out)|(go_ret;exact HD.out)
  have g2:((r.kind:Int)==2)=false:=by simp;omega
  have g3:((r.kind:Int)==3)=true:=by simp;omega
  clear h2
  go_enter func26,ntmps26
  go_upto_region 1 with fail
  rw[HW1.out];go_upto_region 2 with fail
  rw[HW2.out];clear x2 k6 f6;go_wp2_with (first|(with_reducible refine av.out.mono ?_;rintro e6 v6 ⟨rfl,rfl⟩)|fail)
  first|exact HD.out|(go_end0;exact HD.out)|(go_ret;exact HD.out)
 rw[eQ h23]at hrow;have g2:((r.kind:Int)==2)=false:=by simp;omega
 have g3:((r.kind:Int)==3)=false:=by simp;omega
 have HD:=eu (HQ.out w2 _ hrow ⟨_,_,_,hP2,HT.out⟩);clear hrow hQ hP1 hT1 hw1 hw2 ak hP2 hX1 hX2 h hI hI2 hn hd hn2 hd2 hb1 hs2 ag hp2 aa hdp h4 h5 h23 hr hf ht
 go_enter func26,ntmps26
 go_upto_region 1 with fail
 rw[HW1.out];go_upto_region 2 with fail
 rw[HW2.out];clear x2 k6 f6;go_wp2_with fail
 first|exact HD.out|(go_end0;exact HD.out)|(go_ret;exact HD.out)
end
end Go.Proofs.YtfbiffdmhcjhbaaGreat

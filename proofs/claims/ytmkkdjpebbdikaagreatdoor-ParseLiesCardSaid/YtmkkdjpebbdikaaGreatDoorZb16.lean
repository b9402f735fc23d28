import Derived.Test.YtmkkdjpebbdikaaGreatDoorZb09
import Derived.Test.YtmkkdjpebbdikaaGreatDoorZb13
import Derived.Test.YtmkkdjpebbdikaaGreatDoorZb14
set_option linter.all false
set_option maxHeartbeats 16000000
set_option maxRecDepth 100000
namespace Go.Proofs.YtmkkdjpebbdikaaGreatDoor
open Go.RowKit Tryz
section
open Go.RowKit
open Sq
open Ar
theorem ahh(w0 w:World)(rb:Nat)(tv:Value)(l:List Tk)(s:Fl.fF)(R:Nat->Prop)(code i j:Nat)(hS:RS w0 w rb tv l s R)(hi:i<l.length)(hj:j<l.length)(hn:s.d.length<=1000000):
 Calls prog 168 #[RP rb,.int .i64 code,.int .i64 i,.int .i64 (j+1:Nat)] w (Goes w0 w rb tv l R (.tuple #[]) ⟨s.q,s.d++[⟨code,Fl.kW l i,Fl.too l j⟩]⟩):=by
 obtain⟨nv,dv,L,hM,hL,rfl⟩:=hS;obtain⟨x,hx⟩:∃x,l[i]?=some x:=⟨_,fu hi⟩
 obtain⟨y,hy⟩:∃y,l[j]?=some y:=⟨_,fu hj⟩
 have ef:Fl.kW l i=x.2.1:=by unfold Fl.kW;rw[hx]
 have et:Fl.too l j=y.2.2:=by unfold Fl.too;rw[hy]
 rw[ef,et];have hts:=hM.toks;obtain⟨ta,tc,rfl⟩:=hts.shape;obtain⟨tb,off,rfl,-,ai,-⟩:=iY hts i x hx;obtain⟨aM,off',he,-,-,y20⟩:=iY hts j y hy;injection he with he
 injection he with e1 e2
 subst e1 e2;obtain⟨F,hF⟩:=eu (x.2.1);obtain⟨T,hT⟩:=eu (y.2.2);rw[hF]at ai⊢;rw[hT]at y20⊢;have x1:=eB hM.kL ai;have y2:=eB hM.kL y20;obtain⟨c0,c1,c2⟩:=hM.cells;have hls:=hM.size;have hown0:=hM.told;obtain⟨da,dc,hdv⟩:=(Reads.fo (E:=fK) hown0).shape;subst hdv
 have HQ:=dY (λW (h:∃v6,RM w0 W rb (.slice (some ⟨tb,off,none⟩) l.length tc) nv v6 l L (s.d++[⟨code,F,T⟩])/\FP w W rb (jX nv (.slice da s.d.length dc) L) (jX nv v6 L))=>show Goes w0 w rb (.slice (some ⟨tb,off,none⟩) l.length tc) l (jX nv (.slice da s.d.length dc) L) (.tuple #[]) ⟨s.q,s.d++[⟨code,F,T⟩]⟩ (.returned (.tuple #[])) W from by
  obtain⟨v6,h1,h2⟩:=h
  exact⟨rfl,_,⟨_,_,_,h1,hL,rfl⟩,h2⟩)
 obtain⟨Q,hQ⟩:=eu (Goes w0 w rb (.slice (some ⟨tb,off,none⟩) l.length tc) l (jX nv (.slice da s.d.length dc) L) (.tuple #[]) ⟨s.q,s.d++[⟨code,F,T⟩]⟩);rw[hQ]at HQ⊢;obtain⟨HM,aj⟩:=fw hM hown0;obtain⟨DN,af⟩:=eu (s.d.length);have aB:=dY (show s.d.length+1<=maxLen by simp only[maxLen];omega);have aC:=dY (show(s.d.length+1)*24<=140737488355328 by omega);have aN:=dY af;rw[af]at c2 HM HQ aj;obtain⟨N,hN⟩:=eu (l.length);rw[hN]at c0 hi hj hls HM HQ;have gi:(i:Int)<(N:Int):=dS
 have gj:(j:Int)<(N:Int):=dS
 have gw:IntKind.i64.wrap (((j+1:Nat):Int)-1)=(j:Int):=by
  rw[show((j+1:Nat):Int)-1=(j:Int)by omega];exact sj _ dS
 have aD:IntKind.i64.wrap (j:Int)=(j:Int):=sj _ dS;have aO:IntKind.i64.wrap ((j:Int)+1-1)=(j:Int):=by
  rw[show(j:Int)+1-1=(j:Int)by omega];exact aD
 obtain⟨wx,hwx⟩:=eu ((w.alloc (.cells #[.int .i64 code,.int .i64 F,.int .i64 T] 40)).drew);have hbx:Below w.heap.size w wx:=by rw[<-hwx];exact(dZ w _).drew
 have tO:=dY hbx;have aF:=dY (show wx.ownsRow w0.heap.size 40 fK.k (.slice da DN dc) s.d.length (fK.all s.d)by rw[<-af];exact eZ hown0 hbx);have ae:∀jj c,(fK.all [(⟨code,F,T⟩:Fl.Dg)])[jj]?=some c->wx.cell? ⟨w.heap.size,jj,none⟩=some c:=by
  intro jj c hj;rw[<-hwx];show(w.alloc _).cell? ⟨w.heap.size,jj,none⟩=_;rw[yJ]
  simpa [mW.all,fK,abb]using hj
 have mE:=dY ae;have aG:=eB hbx c0;have aH:=eB hbx c2;have aI:=eB hbx x1;have aJ:=eB hbx y2;have hws:w0.heap.size<=wx.heap.size:=iU hM.kL.size hbx.size;have L5:=dY hwx;clear hM hL hts hown0 af hN hQ hx hy ef et hF hT hwx ae hbx hi hj
 go_enter func168,ntmps168
 go_upto_region 0 with fail
 refine fO (λwx=>wx.cell? ⟨rb,0,none⟩=some (.slice (some ⟨tb,off,none⟩) N tc)/\wx.cell? ⟨rb,2,none⟩=some (.slice da DN dc)/\wx.cell? ⟨tb,off+i*3+1,none⟩=some (.int .i64 (F:Int))/\wx.cell? ⟨tb,off+j*3+2,none⟩=some (.int .i64 (T:Int))) 28 dV ?_;have hH:(λwx:World=>wx.cell? ⟨rb,0,none⟩=some (.slice (some ⟨tb,off,none⟩) N tc)/\wx.cell? ⟨rb,2,none⟩=some (.slice da DN dc)/\wx.cell? ⟨tb,off+i*3+1,none⟩=some (.int .i64 (F:Int))/\wx.cell? ⟨tb,off+j*3+2,none⟩=some (.int .i64 (T:Int))) w.drew:=⟨eP c0,eP c2,eP x1,eP y2⟩
 refine iE 0 (.pointer (some ⟨rb,0,none⟩)) hH ?_;refine iE 1 (.pointer (some ⟨rb,0,none⟩)) hH ?_;refine iE 2 (.pointer (some ⟨rb,0,none⟩)) hH ?_;refine iE 3 (.pointer (some ⟨rb,2,none⟩)) hH ?_;refine rV 4 (.slice da DN dc) (λW hW=>?_) hH ?_
 ·obtain⟨z0,z1,z2,z3⟩:=hW;go_simp
 refine iE 5 (.int .i64 (code:Int)) hH ?_;refine iE 6 (.pointer (some ⟨rb,0,none⟩)) hH ?_;refine iE 7 (.pointer (some ⟨rb,0,none⟩)) hH ?_;refine iE 8 (.pointer (some ⟨rb,0,none⟩)) hH ?_;refine rV 9 (.slice (some ⟨tb,off,none⟩) N tc) (λW hW=>?_) hH ?_
 ·obtain⟨z0,z1,z2,z3⟩:=hW;go_simp
 refine iE 10 (.int .i64 (i:Int)) hH ?_;refine iE 11 (.pointer (some ⟨tb,off+i*3,none⟩)) hH ?_;refine iE 12 (.pointer (some ⟨tb,off+i*3+1,none⟩)) hH ?_;refine rV 13 (.int .i64 (F:Int)) (λW hW=>?_) hH ?_
 ·obtain⟨z0,z1,z2,z3⟩:=hW;go_simp
 refine iE 14 (.pointer (some ⟨rb,0,none⟩)) hH ?_;refine iE 15 (.pointer (some ⟨rb,0,none⟩)) hH ?_;refine iE 16 (.pointer (some ⟨rb,0,none⟩)) hH ?_;refine rV 17 (.slice (some ⟨tb,off,none⟩) N tc) (λW hW=>?_) hH ?_
 ·obtain⟨z0,z1,z2,z3⟩:=hW;go_simp
 refine iE 18 (.int .i64 ((j+1:Nat):Int)) hH ?_;refine iE 19 (.int .i64 (j:Int)) hH ?_;refine iE 20 (.pointer (some ⟨tb,off+j*3,none⟩)) hH ?_;refine iE 21 (.pointer (some ⟨tb,off+j*3+2,none⟩)) hH ?_;refine rV 22 (.int .i64 (T:Int)) (λW hW=>?_) hH ?_
 ·obtain⟨z0,z1,z2,z3⟩:=hW;go_simp
 refine iE 23 (.agg #[.int .i64 (code:Int),.int .i64 (F:Int),.int .i64 (T:Int)]) hH ?_;refine mY 24 λK hK=>?_
 go_simp;rw[L5.out];refine hK.out _ _ (λ_=>⟨aG,aH,aI,aJ⟩) (λhH2=>?_);clear hK K;replace hH:=hH2 dV;clear hH2;try simp only[Act.put,fG,fB,fC]
 refine mY 25 λK hK=>?_
 refine oO tyD rfl (.tmp 12) (.tmp 32) rfl w0.heap.size (.slice da DN dc) s.d rfl aF.out w.heap.size 1 [(⟨code,F,T⟩:Fl.Dg)] rfl rfl mE.out aB.out aC.out hws ?_;intro v6 w6 hown6 ak ag;obtain⟨a6,c6,hv6⟩:=(Reads.fo (E:=fK) hown6).shape;obtain⟨n6,av⟩:=eu ((s.d++[(⟨code,F,T⟩:Fl.Dg)]).length);rw[av]at hv6;clear av;subst hv6;have hgf:=(um ((dZ w (.cells #[.int .i64 code,.int .i64 F,.int .i64 T] 40)).size|>λ_=>(fD _ (w.alloc (.cells #[.int .i64 code,.int .i64 F,.int .i64 T] 40))).drew) (Value.slice da DN dc).ownBlock)
 have hgw:(w.alloc (.cells #[.int .i64 code,.int .i64 F,.int .i64 T] 40)).grownBy w6 (Value.slice da DN dc).ownBlock:=hgf.trans (by have:=ak;rw[<-L5.out]at this;exact this);have ah:(Value.slice a6 n6 c6).ownBlock=(Value.slice da DN dc).ownBlock\/(Value.slice a6 n6 c6).ownBlock=some (w.alloc (.cells #[.int .i64 code,.int .i64 F,.int .i64 T] 40)).heap.size:=by have:=ag;rw[<-L5.out]at this;exact this
 obtain⟨hb6,aa,ax,ay⟩:=HM.out.more hgw hown6 ah;have aK:w6.cell? ⟨rb,2,none⟩=some (.slice da DN dc):=(fq aa 2).trans rfl;have f26:w6.frozen? ⟨rb,2,none⟩=false:=qc aa 2;have aL:w6.cell? ⟨rb,0,none⟩=some (.slice (some ⟨tb,off,none⟩) N tc):=(fq aa 0).trans rfl;have az:w6.cell? ⟨tb,off+i*3+1,none⟩=some (.int .i64 (F:Int)):=eB hb6 ai;have aA:w6.cell? ⟨tb,off+j*3+2,none⟩=some (.int .i64 (T:Int)):=eB hb6 y20;have HD:=dY (HQ.out _ ⟨_,ax,ay⟩);clear hown6 ak ag hgf hgw ah aa ax ay hb6;refine hK.out _ _ (λ_=>⟨aL,aK,az,aA⟩) (λhH2=>?_);clear hK K;replace hH:=hH2 dV;clear hH2;try simp only[Act.put,fG,fB,fC]
 refine gZ 26 (.pointer (some ⟨rb,0,none⟩)) (λ_=>hH) ?_;refine iE 27 (.pointer (some ⟨rb,2,none⟩)) hH ?_;refine mY 28 λK hK=>?_
 go_simp;refine hK.out _ _ lh (λ_=>?_);clear hK K;try simp only[Act.put,fG,fB,fC]
 refine fJ dV ?_ _;go_wp2_with fail
 go_end0
 exact HD.out
end
section
open Go.RowKit
open Sq
open Ar
theorem aeV(w0 w:World)(rb:Nat)(tv:Value)(l:List Tk)(s:Fl.fF)(R:Nat->Prop)(up:Int)(k f:Nat)(hS:RS w0 w rb tv l s R)(hu1:-1<=up)(hu2:up<s.q.length)(hn:s.q.length<=1000000)(hkl:∀x∈s.q,x.ks.length<=1000000):
 Calls prog 165 #[RP rb,.int .i64 up,.int .i64 k,.int .i64 f] w (Goes w0 w rb tv l R (.int .i64 s.q.length) ⟨Fl.iq s.q up k f,s.d⟩):=by
 obtain⟨nv,dv,L,hM,hL,rfl⟩:=hS;have hLn:L.length=s.q.length:=yR
 have aG:∀p∈L,p.nd.ks.length<=1000000:=λp hp=>hkl p.nd P9
 obtain⟨a,cap,rfl⟩:=(Reads.fo (E:=fZ) hM.nodes.row).shape;obtain⟨pn,hpn⟩:∃pn:Ln,(⟨⟨k,f,0,up,[],false⟩,none,0,0⟩:Ln)=pn:=⟨_,rfl⟩
 have hq0:up<0->(L++[pn]).map Ln.nd=Fl.iq s.q up k f:=λh=>by
  unfold Fl.iq;rw[dX h,yF,hL,<-hpn];rfl
 have hq1:∀(i:Nat)(p:Ln)(a':Option Addr)(n' c':Nat),up=(i:Int)->(L++[pn])[i]?=some p->((L++[pn]).set i ⟨{p.nd with ks:=p.nd.ks++[(L.length:Int)]},a',n',c'⟩).map Ln.nd=Fl.iq s.q up k f:=λi p a' n' c' hi hp=>by
  subst hi;have hil:i<L.length:=dS
  have hp0:L[i]?=some p:=by rw[nK hil]at hp;exact hp
  have hx:s.q[i]?=some p.nd:=by rw[<-hL,kS,hp0];rfl
  unfold Fl.iq;rw[dW dS,jd,hx,Gj,yF,hL,<-hpn,<-hLn];rfl
 have HQ:=dY (λW (h:∃av ax L',RM w0 W rb tv av ax l L' s.d/\L'.map Ln.nd=Fl.iq s.q up k f/\FP w W rb (jX (.slice a L.length cap) dv L) (jX av ax L'))=>show Goes w0 w rb tv l (jX (.slice a L.length cap) dv L) (.int .i64 s.q.length) ⟨Fl.iq s.q up k f,s.d⟩ (.returned (.int .i64 s.q.length)) W from by
  obtain⟨av,ax,L',h1,h2,h3⟩:=h
  exact⟨rfl,_,⟨av,ax,L',h1,h2,rfl⟩,h3⟩)
 obtain⟨Q,hQ⟩:=eu (Goes w0 w rb tv l (jX (.slice a L.length cap) dv L) (.int .i64 s.q.length) ⟨Fl.iq s.q up k f,s.d⟩);rw[hQ]at HQ⊢;clear hQ;rw[<-hLn]at HQ hu2 hn;have hown0:=hM.nodes.row;have ai:=dY hown0;have c1:=hM.cells.2.1;have aH:=dY (show L.length+[pn].length<=maxLen by simp only[maxLen,iR,Gi];omega);have aI:=dY (show(L.length+[pn].length)*64<=140737488355328 by simp only[iR,Gi];omega);have hpc:fZ.cells pn=[.int .i64 k,.int .i64 f,.int .i64 0,.int .i64 up,.slice none 0 0,.bool false]:=by rw[<-hpn];rfl
 obtain⟨aJ,aD,xn,aF,aK,HM⟩:=kG hpc hpn hq0 hq1 aG hM;have hws:w0.heap.size<=(w.alloc (.cells #[.int .i64 k,.int .i64 f,.int .i64 0,.int .i64 up,.slice none 0 0,.bool false] 38)).heap.size:=by rw[size_alloc];have:=hM.kL.size;omega
 obtain⟨N,hN⟩:=eu (L.length);have HN:=dY hN;rw[hN]at c1 hu2 hn ai HM HQ aF;clear hM hL hLn hkl aG hq0 hq1 hown0 hpc hpn hN
 go_enter func165,ntmps165
 go_upto_region 3 with(at_builtin;go_must (refine lS OV rfl (.tmp 18) (.tmp 23) rfl w0.heap.size _ L rfl ((by rw[HN.out];exact ai.out:w.ownsRow w0.heap.size 38 fZ.k (.slice a N cap) L.length (fZ.all L)).alloc _) _ [pn] rfl (zf w pn _ 38 aJ.out) aH.out aI.out hws ?_;intro v6 w6 hown6 aL az;obtain⟨g6,ae,hv6,aM,aN,aO,bA⟩:=jf hown6 eG;rw[show(L++[pn]).length=N+1 from by rw[iK,HN.out];rfl]at hv6 aO;subst hv6;obtain⟨hb6,af,aP,aQ⟩:=HM.out.push (p:=pn) (by rw[<-aD.out]) (by rw[<-aD.out]) aL hown6 az;have c16:w6.cell? ⟨rb,1,none⟩=some (.slice a N cap):=(fq af 1).trans rfl;have f16:w6.frozen? ⟨rb,1,none⟩=false:=qc af 1;have aa:=dY aP;have ay:=dY aQ;clear hown6 aL az hb6 af aP aQ aM aN))
 obtain⟨w7,hw7⟩:=eu (w6.setCell ⟨rb,1,none⟩ (.slice (some ⟨g6,0,none⟩) (N+1) ae));rw[hw7]at aa ay⊢;have c17:=aa.out.cells.2.1;clear hw7 c16 f16 c1 ai HM hws aH aI aJ;by_cases hu:up<0
 ·obtain rfl:up=-1:=by omega
  have HD:=dY (HQ.out w7 ⟨_,_,_,aa.out,xn.out hu,ay.out⟩);clear xn aF HQ aa ay aD;go_wp2_with fail
  exact HD.out
 ·obtain⟨i,rfl⟩:∃i:Nat,up=(i:Int):=⟨up.toNat,dS⟩
  have bE:((i:Int) !=-1)=true:=eG
  have bB:((i:Int)==-1)=false:=eG
  have hi:i<N+1:=dS
  have aA:(L++[pn]).length=N+1:=by rw[iK,HN.out];rfl
  obtain⟨p,hp⟩:∃p,(L++[pn])[i]?=some p:=⟨_,fu (by rw[aA];exact hi)⟩
  have bC:p.nd.ks.length<=1000000:=by
   have h0:=hp;rw[nK mP]at h0;exact aK.out p (gW h0)
  have hkr:=aa.out.nodes.kids i p hp;obtain⟨ka,kc,aj⟩:=(Reads.fo (E:=encI) hkr).shape;obtain⟨kn,hkn⟩:=eu (p.nd.ks.length);rw[hkn]at aj;have aR:w7.cell? ⟨g6,i*6+4,none⟩=some (.slice ka kn kc):=by
   have:=aa.out.nodes.row.cells (g:=g6) rfl _ _ ((iJ fZ (L++[pn]) i p hp 4 dU).trans rfl);rw[fT,jY]at this;rw[<-aj];exact this
  have aS:=dY (show p.nd.ks.length+1<=maxLen by simp only[maxLen];omega);have aT:=dY (show(p.nd.ks.length+1)*8<=140737488355328 by omega);obtain⟨wx,hwx⟩:=eu ((w7.alloc (.cells #[.int .i64 (N:Int)] 3)).drew);have hbx:Below w7.heap.size w7 wx:=by rw[<-hwx];exact(dZ w7 _).drew
  have bg:=dY (show wx.ownsRow w0.heap.size 3 encI.k (.slice ka kn kc) p.nd.ks.length (encI.all p.nd.ks)by rw[<-aj];exact eZ hkr hbx);have ak:∀jj c,(encI.all [(N:Int)])[jj]?=some c->wx.cell? ⟨w7.heap.size,jj,none⟩=some c:=by
   intro jj c hj;rw[<-hwx];show(w7.alloc _).cell? ⟨w7.heap.size,jj,none⟩=_;rw[yJ]
   simpa [mW.all,encI]using hj
  have mE:=dY ak;have bn:=eB hbx c17;have bq:=eB hbx aR;have aU:w0.heap.size<=wx.heap.size:=iU aa.out.kL.size hbx.size;obtain⟨L5,HP,Pq,L8⟩:=oK hwx hp aj hkn;have hgr:=(aa.out.rows (.inl rfl:jX (.slice (some ⟨g6,0,none⟩) (N+1) ae) dv (L++[pn]) g6))
  have bF:(i:Int)<(N:Int)+1:=dS
  have bD:(i:Int)<((N+1:Nat):Int):=dS
  clear hkr aj hkn ak hbx hwx hp aA xn aK;go_upto_region 4 with fail
  refine fO (λwx=>wx.cell? ⟨rb,1,none⟩=some (.slice (some ⟨g6,0,none⟩) (N+1) ae)/\wx.cell? ⟨g6,i*6+4,none⟩=some (.slice ka kn kc)) 18 dV ?_;have hH:(λwx:World=>wx.cell? ⟨rb,1,none⟩=some (.slice (some ⟨g6,0,none⟩) (N+1) ae)/\wx.cell? ⟨g6,i*6+4,none⟩=some (.slice ka kn kc)) w7.drew:=⟨eP c17,eP aR⟩
  refine iE 0 (.pointer (some ⟨rb,0,none⟩)) hH ?_;refine iE 1 (.pointer (some ⟨rb,0,none⟩)) hH ?_;refine iE 2 (.pointer (some ⟨rb,1,none⟩)) hH ?_;refine rV 3 (.slice (some ⟨g6,0,none⟩) (N+1) ae) (λW hW=>?_) hH ?_
  ·obtain⟨z0,z1⟩:=hW;go_simp
  refine iE 4 (.int .i64 (i:Int)) hH ?_;refine iE 5 (.pointer (some ⟨rb,0,none⟩)) hH ?_;refine iE 6 (.pointer (some ⟨rb,0,none⟩)) hH ?_;refine iE 7 (.pointer (some ⟨rb,1,none⟩)) hH ?_;refine rV 8 (.slice (some ⟨g6,0,none⟩) (N+1) ae) (λW hW=>?_) hH ?_
  ·obtain⟨z0,z1⟩:=hW;go_simp
  refine iE 9 (.int .i64 (i:Int)) hH ?_;refine iE 10 (.pointer (some ⟨g6,i*6,none⟩)) hH ?_;refine iE 11 (.pointer (some ⟨g6,i*6+4,none⟩)) hH ?_;refine rV 12 (.slice ka kn kc) (λW hW=>?_) hH ?_
  ·obtain⟨z0,z1⟩:=hW;go_simp
  refine iE 13 (.int .i64 (N:Int)) hH ?_;refine mY 14 λK hK=>?_
  go_simp;rw[L5.out];refine hK.out _ _ (λ_=>⟨bn,bq⟩) (λhH2=>?_);clear hK K;replace hH:=hH2 dV;clear hH2;try simp only[Act.put,fG,fB,fC]
  refine mY 15 λK hK=>?_
  refine oO tyI rfl (.tmp 41) (.tmp 43) rfl w0.heap.size (.slice ka kn kc) p.nd.ks rfl bg.out w7.heap.size 1 [(N:Int)] rfl rfl mE.out aS.out aT.out aU ?_;intro v8 w8 ag hg8 O7;obtain⟨a8,c8,aV⟩:=(Reads.fo (E:=encI) ag).shape;obtain⟨n8,aW⟩:=eu ((p.nd.ks++[(N:Int)]).length);rw[aW]at aV;clear aW;subst aV;have hgw:(w7.alloc (.cells #[.int .i64 (N:Int)] 3)).grownBy w8 p.val.ownBlock:=(um (fD _ (w7.alloc (.cells #[.int .i64 (N:Int)] 3))).drew p.val.ownBlock).trans YC;have aB:(Value.slice a8 n8 c8).ownBlock=p.val.ownBlock\/(Value.slice a8 n8 c8).ownBlock=some (w7.alloc (.cells #[.int .i64 (N:Int)] 3)).heap.size:=YD
  obtain⟨aX,aC,aY,aZ⟩:=aa.out.kid HP.out (N:Int) hgw ag aB;have c18:w8.cell? ⟨rb,1,none⟩=some (.slice (some ⟨g6,0,none⟩) (N+1) ae):=(fq (aX.trans aa.out.box) 1).trans rfl;have ah:=fE aa.out.nodes.row (w':=w8) (λg hg=>by have e:g6=g:=iG hg;rw[<-e];exact aC);have bz:w8.cell? ⟨g6,i*6+4,none⟩=some (.slice ka kn kc):=by have h5:=ah.cells (g:=g6) rfl _ _ ((iJ fZ (L++[pn]) i p HP.out 4 dU).trans rfl);rw[fT,jY]at h5;rw[<-Pq.out];exact h5
  obtain⟨gx,bG,bf,-,hfx,-,-⟩:=jf (E:=fZ) ah (by rw[iK,HN.out];simp);have ex:=(lX bf).1;injection ex with ex
  injection ex with ex
  have f48:w8.frozen? ⟨g6,i*6+4,none⟩=false:=Jl
  have HD:=dY (HQ.out _ ⟨_,_,_,aY,aF.out i p a8 n8 c8 rfl HP.out,ay.out.trans aZ⟩);clear ag hg8 O7 hgw aB aX aC aY aZ ah bf hfx ex;refine hK.out _ _ (λ_=>⟨c18,bz⟩) (λhH2=>?_);clear hK K;replace hH:=hH2 dV;clear hH2;try simp only[Act.put,fG,fB,fC]
  refine gZ 16 (.pointer (some ⟨g6,i*6,none⟩)) (λ_=>hH) ?_;refine iE 17 (.pointer (some ⟨g6,i*6+4,none⟩)) hH ?_;refine mY 18 λK hK=>?_
  go_simp;refine hK.out _ _ lh (λ_=>?_);clear hK K;try simp only[Act.put,fG,fB,fC]
  refine fJ dV ?_ _;go_wp2_with fail
  exact HD.out
end
section
open Go.RowKit
open Sq
open Ar
structure Room(s:Fl.fF):Prop where
 q:s.q.length<=900000
 d:s.d.length<=900000
 kb:Fl.KB s.q
theorem Room.kids{s:Fl.fF}(h:Room s):∀x∈s.q,x.ks.length<=1000000:=λx hx=>by
 obtain⟨i,hi⟩:=jy hx;have:=h.kb i x hi;have:=h.q;omega
theorem Yi(w0 w:World)(rb:Nat)(tv:Value)(l:List Tk)(s:Fl.fF)(R:Nat->Prop)(up:Int)(k f t:Nat)(hS:RS w0 w rb tv l s R)(hu1:-1<=up)(hu2:up<s.q.length)(hr:Room s):
 Calls prog 154 #[RP rb,.int .i64 up,.int .i64 k,.int .i64 f,.int .i64 t] w (Goes w0 w rb tv l R (.int .i64 t) ⟨Fl.jr s.q up k f t,s.d⟩):=by
 have HA:=dY (aeV w0 w rb tv l s R up k f hS hu1 hu2 (by have:=hr.q;omega) hr.kids);have HR:=dY (λw1 R1 (h:RS w0 w1 rb tv l ⟨Fl.iq s.q up k f,s.d⟩ R1)=>En w0 w1 rb tv l ⟨Fl.iq s.q up k f,s.d⟩ R1 s.q.length t h (by show _<(Fl.iq s.q up k f).length;rw[Fl.iM];omega) (by show(Fl.iq s.q up k f).length<=_;rw[Fl.iM];have:=hr.q;omega));obtain⟨N,hN⟩:=eu (s.q.length);have HQ:=dY (λw2 R1 R2 w1 (h1:FP w w1 rb R R1)(h2:RS w0 w2 rb tv l ⟨Fl.nR (Fl.iq s.q up k f) s.q.length t,s.d⟩ R2)(h3:FP w1 w2 rb R1 R2)=>show Goes w0 w rb tv l R (.int .i64 t) ⟨Fl.jr s.q up k f t,s.d⟩ (.returned (.int .i64 t)) w2 from⟨rfl,R2,h2,h1.trans h3⟩);obtain⟨Q,hQ⟩:=eu (Goes w0 w rb tv l R (.int .i64 t) ⟨Fl.jr s.q up k f t,s.d⟩);rw[hQ]at HQ⊢;rw[hN]at HA HR HQ;clear hS hu2 hr hN hQ
 go_enter func154,ntmps154
 go_wp2_with fail
 refine HA.out.mono ?_;rintro e w1 ⟨rfl,R1,hS1,hF1⟩;obtain⟨HR1,aa⟩:=fw (HR.out w1 R1 hS1) hF1;clear hS1 hF1 HR HA;go_wp2_with fail
 refine HR1.out.mono ?_;rintro e w2 ⟨rfl,R2,hS2,hF2⟩;have HD:=dY (HQ.out w2 R1 R2 w1 aa.out hS2 hF2);clear hS2 hF2 HR1 aa HQ;go_wp2_with fail
 exact HD.out
theorem abo(w0 w:World)(rb:Nat)(tv:Value)(l:List Tk)(s:Fl.fF)(R:Nat->Prop)(up:Int)(code f t:Nat)(hS:RS w0 w rb tv l s R)(hu1:-1<=up)(hu2:up<s.q.length)(hr:Room s)(hd:s.d.length<900000)(hf:f<l.length)(ht0:0<t)(ht:t<=l.length):
 Calls prog 156 #[RP rb,.int .i64 up,.int .i64 code,.int .i64 f,.int .i64 t] w (Goes w0 w rb tv l R (.int .i64 t) (Fl.rQ l s up f t code)):=by
 obtain⟨j,rfl⟩:∃j,t=j+1:=⟨t-1,dS⟩
 have HA:=dY (ahh w0 w rb tv l s R code f j hS hf dS (by have:=hr.d;omega));obtain⟨T,hT⟩:=eu (j+1);have HQ:=dY (λw2 R1 R2 w1 (h1:FP w w1 rb R R1)(h2:RS w0 w2 rb tv l ⟨Fl.jr s.q up 11 f (j+1),s.d++[⟨code,Fl.kW l f,Fl.too l j⟩]⟩ R2)(h3:FP w1 w2 rb R1 R2)=>show Goes w0 w rb tv l R (.int .i64 (j+1:Nat)) (Fl.rQ l s up f (j+1) code) (.returned (.int .i64 (j+1:Nat))) w2 from⟨rfl,R2,by unfold Fl.rQ;rw[lW];exact h2,h1.trans h3⟩);obtain⟨Q,hQ⟩:=eu (Goes w0 w rb tv l R (.int .i64 (j+1:Nat)) (Fl.rQ l s up f (j+1) code));rw[hQ]at HQ⊢;have HL:=dY (λw1 R1 (h:RS w0 w1 rb tv l ⟨s.q,s.d++[⟨code,Fl.kW l f,Fl.too l j⟩]⟩ R1)=>Yi w0 w1 rb tv l ⟨s.q,s.d++[⟨code,Fl.kW l f,Fl.too l j⟩]⟩ R1 up 11 f (j+1) h hu1 hu2 ⟨hr.q,by show(s.d++_).length<=_;rw[iK];have:=hd;simp;omega,hr.kb⟩);rw[hT]at HA HL HQ⊢;clear hS hu2 hr hd hQ hf ht0 ht hT
 go_enter func156,ntmps156
 go_wp2_with fail
 refine HA.out.mono ?_;rintro e w1 ⟨rfl,R1,hS1,hF1⟩;obtain⟨HR1,aa⟩:=fw (HL.out w1 R1 hS1) hF1;clear hS1 hF1 HL HA;go_wp2_with fail
 refine HR1.out.mono ?_;rintro e w2 ⟨rfl,R2,hS2,hF2⟩;have HD:=dY (HQ.out w2 R1 R2 w1 aa.out hS2 hF2);clear hS2 hF2 HR1 aa HQ;go_wp2_with fail
 exact HD.out
def Cap(w:World)(b:Nat)(v:Value)(t:TypeId):Prop:=w.heap[b]?=some (.cells #[v] t (0,0))
theorem Cap.cell{w:World}{b:Nat}{v:Value}{t:TypeId}(h:Cap w b v t):w.cell? ⟨b,0,none⟩=some v:=(fq h 0).trans rfl
theorem Cap.free{w:World}{b:Nat}{v:Value}{t:TypeId}(h:Cap w b v t):w.frozen? ⟨b,0,none⟩=false:=qc h 0
theorem Cap.lt{w:World}{b:Nat}{v:Value}{t:TypeId}(h:Cap w b v t):b<w.heap.size:=gK h
theorem Cap.fp{w w':World}{b rb:Nat}{v:Value}{t:TypeId}{R R':Nat->Prop}(h:Cap w b v t)(hF:FP w w' rb R R')(hr:b≠rb)(hn:¬R b):Cap w' b v t/\¬R' b:=
 ⟨(hF.block b h.lt hr hn).trans h,λh2=>(hF.rows b h2).elim hn (λh3=>absurd h.lt (aeD.2 h3))⟩
theorem Cap.set{w:World}{b:Nat}{v:Value}{t:TypeId}(h:Cap w b v t)(u:Value):Cap (w.setCell ⟨b,0,none⟩ u) b u t:=sw h u
theorem Cap.far{w:World}{b b' o:Nat}{v u:Value}{t:TypeId}(h:Cap w b v t)(hne:b≠b'):Cap (w.setCell ⟨b',o,none⟩ u) b v t:=(jo _ _ _ _ hne).trans h
theorem abp(w0 w:World)(rb:Nat)(tv:Value)(l:List Tk)(s:Fl.fF)(R:Nat->Prop)(b5 b13 b14 c f t:Nat)(hS:RS w0 w rb tv l s R)(hc:c<s.q.length)(hr:Room s)(hd:s.d.length<900000)(hf:f<l.length)(ht0:0<t)(ht:t<=l.length)
 (h5:Cap w b5 (RP rb) 174) (ae:Cap w b13 (.int .i64 c) 3) (aa:Cap w b14 (.int .i64 f) 3) (n14:¬R b14) (XC:b14≠rb):
 Calls prog 171 #[.int .i64 t,.pointer (some ⟨b5,0,none⟩),.pointer (some ⟨b13,0,none⟩),.pointer (some ⟨b14,0,none⟩)] w
  (λe w'=>e=.returned (.tuple #[])/\∃w1 R',RS w0 w1 rb tv l (Fl.rQ l s c f t 8) R'/\FP w w1 rb R R'/\w'=w1.setCell ⟨b14,0,none⟩ (.int .i64 t)):=by
 have HA:=dY (abo w0 w rb tv l s R c 8 f t hS dS dS hr hd hf ht0 ht);have c5:=h5.cell;have c13:=ae.cell;have c14:=aa.cell;have af:=dY aa;clear hS hc hr hd hf ht0 ht h5 ae aa
 go_enter func171,ntmps171
 go_wp2_with fail
 refine HA.out.mono ?_;rintro e w1 ⟨rfl,R1,hS1,hF1⟩;have hk:=(af.out.fp hF1 XC n14).1;have d14:=hk.cell;have f14:=hk.free;obtain⟨ag,ah⟩:=fw hS1 hF1;clear hS1 hF1 hk HA af c5 c13 c14;go_wp2_with fail
 go_end0
 exact⟨rfl,w1,R1,ag.out,ah.out,rfl⟩
end
section
open Go.RowKit
open Sq
open Ar
structure Sz(l:List Tk)(s:Fl.fF)(p d:Nat):Prop where
 q:s.q.length+2*(l.length-p)+d<=400000
 d:s.d.length+(l.length-p)<=400000
 kb:Fl.KB s.q
theorem Sz.room{l:List Tk}{s:Fl.fF}{p d:Nat}(h:Sz l s p d):Room s:=⟨by have:=h.q;omega,by have:=h.d;omega,h.kb⟩
theorem Sz.gr{l:List Tk}{s s':Fl.fF}{p next d:Nat}(h:Sz l s p d)(g:Fl.Gr s s' (next-p))(h1:p<=next)(h2:next<=l.length):Sz l s' next d:=
 ⟨by have:=h.q;have:=g.len;omega,by have:=h.d;have:=g.dl;omega,g.kids h.kb⟩
theorem Sz.on{l:List Tk}{s:Fl.fF}{p q d d':Nat}(h:Sz l s p d)(h1:p<=q)(hd:d'<=d):Sz l s q d':=⟨by have:=h.q;omega,by have:=h.d;omega,h.kb⟩
def Vk(w0:World)(rb:Nat)(tv:Value)(l:List Tk)(d:Nat):Prop:=
 ∀(w:World)(c:Int)(p:Nat)(s:Fl.fF)(R:Nat->Prop),RS w0 w rb tv l s R->-1<=c->c<s.q.length->p<=l.length->Sz l s p d->
  Calls prog 131 #[RP rb,.int .i64 c,.int .i64 p,.int .i64 d] w (Goes w0 w rb tv l R (.int .i64 (Fl.iw l l.length d c p s).1) (Fl.iw l l.length d c p s).2)
section
variable {w0 w w':World}{rb:Nat}{tv:Value}{l:List Tk}{s:Fl.fF}{R:Nat->Prop}
theorem RS.node(h:RS w0 w rb tv l s R){i:Nat}{x:Nd}(hx:s.q[i]?=some x):
 ∃g cap,w.cell? ⟨rb,1,none⟩=some (.slice (some ⟨g,0,none⟩) s.q.length cap)/\(∀o,w.frozen? ⟨g,o,none⟩=false)/\w.cell? ⟨g,i*6,none⟩=some (.int .i64 x.k)/\w.cell? ⟨g,i*6+5,none⟩=some (.bool x.y)/\
  ∃R',RS w0 (w.setCell ⟨g,i*6+5,none⟩ (.bool true)) rb tv l ⟨Fl.keyed s.q i,s.d⟩ R'/\FP w (w.setCell ⟨g,i*6+5,none⟩ (.bool true)) rb R R':=by
 obtain⟨nv,dv,L,hM,hL,rfl⟩:=h;have hi:=(eY.1 hx).1;have hLn:L.length=s.q.length:=yR
 obtain⟨p,hp⟩:∃p,L[i]?=some p:=⟨_,fu dS⟩
 have hpx:p.nd=x:=by
  have:s.q[i]?=some p.nd:=by rw[<-hL,kS,hp];rfl
  rw[hx]at this;exact(iG this).symm
 obtain⟨g,cap,rfl,hB,hfz,hc1,hc2⟩:=jf hM.nodes.row dS;obtain⟨hS2,hF⟩:=hM.setNode i 5 p {p.nd with y:=true} (.bool true) hp rfl rfl dU;have ce:∀k,k<6->w.cell? ⟨g,i*6+k,none⟩=(l8 p)[k]?:=λk hk=>by
  have h0:=iJ fZ L i p hp k hk;cases hv:(l8 p)[k]? with
  |none=>have:(l8 p).length=6:=rfl;rw[AA]at hv;omega
  |some u=>
   have:=hM.nodes.row.cells (g:=g) rfl _ _ (h0.trans hv);rw[fT,jY]at this;exact this
 refine⟨g,cap,by rw[<-hLn];exact hM.cells.2.1,hfz,by have:=ce 0 dU;rw[oW]at this;rw[this,<-hpx];rfl,by rw[ce 5 dU,<-hpx];rfl,_,⟨_,_,_,hS2,?_,rfl⟩,hF⟩;unfold Fl.keyed;rw[jd,hx,<-hL,Gj,<-hpx]
end
theorem Wh{l:List Tk}{j q:Nat}(h:j<q)(h6:Fl.raw l (q-1)≠13):xE l j (q-j)=xE l j (q-1-j):=by
 by_cases hy:∃k,k<q-1-j/\Fl.raw l (j+k)=13
 ·obtain⟨k,hk,hr⟩:=hy;rw[z8 (show k<q-j by omega) hr,z8 hk hr]
 ·rw[CV (λk hk hr=>?_),CV (λk hk hr=>hy ⟨k,hk,hr⟩)];by_cases e:j+k=q-1
  ·rw[e]at hr;exact h6 hr
  ·exact hy ⟨k,dS,hr⟩
theorem akP(w0 w:World)(rb:Nat)(tv:Value)(l:List Tk)(d:Nat)(s:Fl.fF)(R:Nat->Prop)(hV:Vk w0 rb tv l d)(c j q:Nat)(hS:RS w0 w rb tv l s R)(hc:c<s.q.length)(hz:Sz l s j d)(hjq:j<q)(ai:q<=l.length)(h6:Fl.raw l (q-1)=6)(hcj:Fl.cnt (Fl.raw l j)=true):
 Calls prog 182 #[RP rb,.int .i64 c,.int .i64 j,.int .i64 (q-1:Nat),.int .i64 d] w
  (λe w'=>∃jC,jC=(if(Fl.iw l l.length d s.q.length (Fl.fI l l.length q) (Fl.mH l s c j q)).1=Fl.fI l l.length q then q else(Fl.iw l l.length d s.q.length (Fl.fI l l.length q) (Fl.mH l s c j q)).1)/\
   Goes w0 w rb tv l R (.int .i64 jC) ⟨Fl.nR (Fl.iw l l.length d s.q.length (Fl.fI l l.length q) (Fl.mH l s c j q)).2.q s.q.length jC,(Fl.iw l l.length d s.q.length (Fl.fI l l.length q) (Fl.mH l s c j q)).2.d⟩ e w'):=by
 obtain⟨a1,a2,a3,a4,a5⟩:=Fl.Ub (l:=l) s c j q hc;have aG:Fl.Gr s (Fl.mH l s c j q) (q-j):=⟨dS,by split at a2<;>omega,by rw[a3];omega,a4,a5⟩
 have ht:=Fl.iW (l:=l) (e:=l.length) (i:=q) ai;have hz2:=(hz.gr aG dS ai).on ht.1 (eO _);have hpv:=Fl.wM (l:=l) (e:=l.length) d s.q.length (Fl.fI l l.length q) (Fl.mH l s c j q) ht.2 dS dS;have aH:=hS.rt.idle q ai;have aj:Fl.mH l s c j q=if q-j<2 then⟨Fl.iq s.q c 6 j,s.d⟩else⟨Fl.jr (Fl.keyed (Fl.iq s.q c 6 j) s.q.length) s.q.length (xE l j (q-j)) j (Fl.back l (q-1) (j+1)),s.d⟩:=rfl
 obtain⟨pp,ay⟩:=eu (Fl.mH l s c j q);rw[ay]at a1 hz2 hpv aj⊢;obtain⟨xx,aD⟩:=eu (Fl.fI l l.length q);rw[aD]at ht hz2 hpv aH⊢;obtain⟨r,hr⟩:=eu (Fl.iw l l.length d s.q.length xx pp);rw[hr]at hpv⊢;have hrb:r.2.q.length<=400000/\s.q.length<r.2.q.length/\r.1<=100000:=by
  have:=hz2.q;have:=hS.rt.size;rcases hpv with⟨e1,_⟩|⟨nx,s',e1,g1,g2,g3,g4,g5,_⟩
  ·rw[e1];dsimp only;omega
  ·rw[e1];dsimp only;have:=g4.le;omega
 have ae:=dY (λw1 R1 (h:RS w0 w1 rb tv l pp R1)=>by have:=hV w1 s.q.length xx pp R1 h dS dS ht.2 hz2;rw[hr]at this;exact this);have IX:=dY (λw1 R1 (jC:Nat)(h:RS w0 w1 rb tv l r.2 R1)=>En w0 w1 rb tv l r.2 R1 s.q.length jC h hrb.2.1 dS);have HAdd:=dY (aeV w0 w rb tv l s R c 6 j hS dS dS (by have:=hz.q;omega) hz.room.kids);have ag:=dY (λw1 (h:RT w1 rb tv l)=>by have:=h.idle q ai;rw[aD]at this;exact this);have hsz:=hS.rt.size;have hxs:(q:Int)<=100000:=dS
 have hq0:0<q:=dS
 have ah:Room ⟨Fl.keyed (Fl.iq s.q c 6 j) s.q.length,s.d⟩:=⟨by show(Fl.keyed _ _).length<=_;rw[Fl.fQ,Fl.iM];have:=hz.q;omega,by have:=hz.d;show s.d.length<=_;omega,Fl.Kh (Fl.Bh hz.kb c 6 j dS) s.q.length⟩
 have Dh:=dY (λw1 R1 (h:RS w0 w1 rb tv l ⟨Fl.keyed (Fl.iq s.q c 6 j) s.q.length,s.d⟩ R1)=>Yi w0 w1 rb tv l ⟨Fl.keyed (Fl.iq s.q c 6 j) s.q.length,s.d⟩ R1 s.q.length (xE l j (q-j)) j (Fl.back l (q-1) (j+1)) h dS (by show(s.q.length:Int)<((Fl.keyed _ _).length:Int);rw[Fl.fQ,Fl.iM];omega) ah);have aa:=dY (λw1 R1 (h:RS w0 w1 rb tv l ⟨Fl.iq s.q c 6 j,s.d⟩ R1)=>h.node (i:=s.q.length) (Fl.nz s.q c 6 j dS));have HKK:=dY (λw1 (h:RT w1 rb tv l)=>by have:=acx rb tv l j (q-1) w1 h dS dS;rw[<-Wh hjq (by rw[h6];decide)]at this;exact this);have ak:=dY (λw1 (h:RT w1 rb tv l)(h2:j<q-1)=>h.counted (q-1) (j+1) dS dS dS ⟨j+1,dS,dS,by rw[lW];exact hcj⟩);have hpl:(Fl.iq s.q c 6 j).length=s.q.length+1:=Fl.iM _ _ _ _;rw[show(⟨Fl.iq s.q c 6 j,s.d⟩:Fl.fF).q=Fl.iq s.q c 6 j from rfl,hpl]at aa;obtain⟨n,hn⟩:=eu (s.q.length);have hns:n<=400000:=by have:=hz.q;omega
 rw[hn]at ae IX HAdd Dh aa aj hrb⊢;obtain⟨qr,rfl⟩:∃qr,q=qr+1:=⟨q-1,dS⟩
 rw[lW]at HKK ak Dh aj⊢;have HQ:=dY (fun(jC:Nat) w1 w2 R1 R2 (h0:jC=if r.1=xx then qr+1 else r.1)(h1:FP w w1 rb R R1)(h2:RS w0 w2 rb tv l ⟨Fl.nR r.2.q n jC,r.2.d⟩ R2)(h3:FP w1 w2 rb R1 R2)=>show(λe w'=>∃jC,jC=(if r.1=xx then qr+1 else r.1)/\Goes w0 w rb tv l R (.int .i64 jC) ⟨Fl.nR r.2.q n jC,r.2.d⟩ e w') (.returned (.int .i64 jC)) w2 from⟨jC,h0,rfl,R2,h2,h1.trans h3⟩);obtain⟨Q,hQ⟩:=eu ((λe w'=>∃jC,jC=(if r.1=xx then qr+1 else r.1)/\Goes w0 w rb tv l R (.int .i64 jC) ⟨Fl.nR r.2.q n jC,r.2.d⟩ e w'));rw[hQ]at HQ⊢;have Gb:=dY aj;have hr1:=hrb.2.2;obtain⟨r1,az⟩:=eu (r.1);rw[az]at ae HQ hr1;have aK:xx<=100000:=dS
 have aL:(qr:Int)+1<=100000:=dS
 clear hV hS hc hz ai h6 hcj a1 a2 a3 a4 a5 aG ht hz2 hpv aH ay aD hr ah hQ hn aj hrb hpl az hq0 hsz hxs
 go_enter func182,ntmps182
 go_wp2_with fail
 refine HAdd.out.mono ?_;rintro e w1 ⟨rfl,R1,hS1,hF1⟩;obtain⟨av,ax⟩:=fw hF1 hS1;clear hF1 hS1 HAdd;by_cases g2:qr+1-j<2
 ·have hpe:=Gb.out;rw[dX g2]at hpe;obtain rfl:qr=j:=by omega
  have af:=dY (show RS w0 w1 rb tv l pp R1 by rw[hpe];exact ax.out);have yM:=av;clear Gb hpe ax av Dh aa HKK ak g2 hjq;go_wp2_with fail
  refine(ag.out w1 af.out.rt).mono ?_;rintro e wi ⟨rfl,rfl⟩;have Dz:=dY (ae.out w1 R1 af.out);clear ae ag af;go_wp2_with fail
  exact ZM
 ·have aM:(j:Int)<(qr:Int):=by omega
  have aI:j<qr:=dS
  have hpe:=Gb.out;rw[dW g2]at hpe;obtain⟨g,cap,c1,hfz,-,c5,R2,hS2,hF2⟩:=aa.out w1 R1 ax.out;have f5:=hfz (n*6+5);have hnn:(n:Int)<(n:Int)+1:=dS
  obtain⟨HS2,aF⟩:=fw hS2 (av.out.trans hF2);obtain⟨w2,hw2⟩:=eu (w1.setCell ⟨g,n*6+5,none⟩ (.bool true));rw[hw2]at HS2 aF;obtain⟨aA,HW2⟩:=fw (HKK.out w2 HS2.out.rt) hw2;clear aa ax av hfz hS2 hF2 hw2 Gb HKK;go_upto_region 4 with fail
  rw[HW2.out];clear HW2 c1 c5 f5;go_wp2_with fail
  refine aA.out.mono ?_;rintro e w3 ⟨rfl,hb3⟩;have jV:=HS2.out.below hb3;have aB:=dY (ak.out w3 jV.rt aI);have aJ:=dY (aF.out.trans (FP.below hb3));have aC:=dY (Dh.out w3 R2 jV);clear hb3 jV HS2 aF ak Dh aA;go_wp2_with fail
  refine aB.out.mono ?_;rintro e aN ⟨rfl,rfl⟩;go_wp2_with fail
  refine aC.out.mono ?_;rintro e w4 ⟨rfl,R4,rU,vS⟩;have af:=dY (show RS w0 w4 rb tv l pp R4 by rw[hpe];exact rU);have yM:=dY (aJ.out.trans vS);clear rU vS aB aC aJ hpe;go_wp2_with fail
  refine(ag.out w4 af.out.rt).mono ?_;rintro e wi ⟨rfl,rfl⟩;have Dz:=dY (ae.out w4 R4 af.out);clear ae ag af;go_wp2_with fail
  exact ZM
theorem ajf(w0 w:World)(rb:Nat)(tv:Value)(l:List Tk)(d:Nat)(s:Fl.fF)(R:Nat->Prop)(hV:Vk w0 rb tv l d)(hT:oV l)(c j:Nat)(x:Nd)(hS:RS w0 w rb tv l s R)(hx:s.q[c]?=some x)(hz:Sz l s j (d+1))(hk:Fl.kd l l.length j≠0)(hcj:Fl.cnt (Fl.raw l j)=true):
 Calls prog 175 #[RP rb,.int .i64 c,.int .i64 j,.int .i64 d] w
  (λe w'=>∃(nx:Nat)(s':Fl.fF),(nx,s')=(if 0<Fl.key l l.length j\/Fl.begins (Fl.kd l l.length j)=true then Fl.qO l l.length (Fl.iw l l.length d) (x.k==10) c j s else(j,s))/\Goes w0 w rb tv l R (.int .i64 nx) s' e w'):=by
 have hj:=(Fl.ji hk).1;have hc:=(eY.1 hx).1;have hkx:=Yg (show j<=l.length by omega) hk;have hsz:=hS.rt.size;have aa:=dY (aja rb tv l j w hS.rt hT dS);have hns:s.q.length<=400000:=by have:=hz.q;omega
 have hjs:j<=100000:=dS
 by_cases hq:0<Fl.key l l.length j
 ·obtain⟨q1,q2,q3⟩:=Fl.qW (show j<=l.length by omega) hq;have HP:=dY (akP w0 w rb tv l d s R hV c j (Fl.key l l.length j) hS hc (hz.on (eO _) (Vf d)) q1 q2 q3 hcj);have hres:(if 0<Fl.key l l.length j\/Fl.begins (Fl.kd l l.length j)=true then Fl.qO l l.length (Fl.iw l l.length d) (x.k==10) c j s else(j,s))=Fl.qO l l.length (Fl.iw l l.length d) (x.k==10) c j s:=dX (.inl hq);rw[hres];unfold Fl.qO;dsimp only;rw[dX hq];unfold Fl.nI at aa;obtain⟨q,ak⟩:=eu (Fl.key l l.length j);rw[ak]at HP aa q1 q2⊢;obtain⟨r,hr⟩:=eu (Fl.iw l l.length d s.q.length (Fl.fI l l.length q) (Fl.mH l s c j q));rw[hr]at HP⊢;obtain⟨T,av⟩:=eu ((if r.1=Fl.fI l l.length q then q else r.1));rw[av]at HP⊢;obtain⟨qr,rfl⟩:∃qr,q=qr+1:=⟨q-1,dS⟩
  rw[lW]at HP;rw[show((qr+1:Nat):Int)-1=(qr:Int)by omega]at aa;have aB:((qr:Int) !=-1)=true:=eG
  have az:((qr:Int)==-1)=false:=eG
  obtain⟨N,hN⟩:=eu (s.q.length);rw[hN]at HP⊢;obtain⟨s',hs'⟩:∃s',(⟨Fl.nR r.2.q N T,r.2.d⟩:Fl.fF)=s':=⟨_,rfl⟩
  have o9:=dY (show Calls prog 182 #[RP rb,.int .i64 c,.int .i64 j,.int .i64 qr,.int .i64 d] w (Goes w0 w rb tv l R (.int .i64 T) s')from HP.out.mono (λe w' ⟨t,h1,h2⟩=>by subst h1;rw[<-hs'];exact h2));rw[hs'];clear hV hT hS hx hz hk hcj hj hc hkx q1 q2 q3 HP hres ak hr av hN hs' hq hns
  go_enter func175,ntmps175
  go_wp2_with fail
  refine aa.out.mono ?_;rintro e w1 ⟨rfl,rfl⟩;go_wp2_with fail
  refine o9.out.mono ?_;rintro e w2 ⟨rfl,R2,hS2,hF2⟩;have HD:=dY (show Goes w0 w rb tv l R (.int .i64 T) s' (.returned (.int .i64 T)) w2 from⟨rfl,R2,hS2,hF2⟩);clear hS2 hF2 o9 aa;go_wp2_with fail
  go_ret;exact⟨T,s',rfl,HD.out⟩
 ·have hcv:Fl.nI l j=-1:=by unfold Fl.nI;omega
  rw[hcv]at aa;obtain⟨g,cap,c1,hfz,c0,-,-⟩:=hS.node hx;have HK:=dY (by have:=hS.rt.kind j dS;rw[hkx]at this;exact this);have hpv:=Fl.wM (l:=l) (e:=l.length) d c j s dS dS dS;have HVd:=dY (hV w c j s R hS dS dS dS (hz.on (eO _) (Vf d)));by_cases hb:x.k=10/\Fl.begins (Fl.kd l l.length j)=true
  ·
   obtain⟨hb1,hb2⟩:=hb;have hres:(if 0<Fl.key l l.length j\/Fl.begins (Fl.kd l l.length j)=true then Fl.qO l l.length (Fl.iw l l.length d) (x.k==10) c j s else(j,s))=Fl.qO l l.length (Fl.iw l l.length d) (x.k==10) c j s:=dX (.inr hb2);rw[hres];unfold Fl.qO;dsimp only;rw[dW hq,dX (by rw[hb1];rfl)];have hgh:=Fl.Kj s c 6 j dS;have hpl:(Fl.iq s.q c 6 j).length=s.q.length+1:=Fl.iM _ _ _ _;have hz1:Sz l ⟨Fl.keyed (Fl.iq s.q c 6 j) s.q.length,s.d⟩ j d:=⟨by show(Fl.keyed _ _).length+_+_<=_;rw[Fl.fQ,hpl];have:=hz.q;omega,hz.d,Fl.Kh (hgh.kids hz.kb) _⟩
   have hpv2:=Fl.wM (l:=l) (e:=l.length) d s.q.length j ⟨Fl.keyed (Fl.iq s.q c 6 j) s.q.length,s.d⟩ dS dS YH;obtain⟨r,hr⟩:=eu (Fl.iw l l.length d s.q.length j ⟨Fl.keyed (Fl.iq s.q c 6 j) s.q.length,s.d⟩);rw[hr]at hpv2⊢;have hrb:r.2.q.length<=400000/\s.q.length<r.2.q.length/\r.1<=100000:=by
    have h1:=hz1.q;have h2:(⟨Fl.keyed (Fl.iq s.q c 6 j) s.q.length,s.d⟩:Fl.fF).q.length=s.q.length+1:=by show(Fl.keyed _ _).length=_;rw[Fl.fQ,hpl]
    rw[h2]at h1;rcases hpv2 with⟨e1,_⟩|⟨nx,s',e1,g1,g2,g3,g4,g5,_⟩
    ·rw[e1];refine⟨?_,?_,?_⟩
     ·rw[h2];omega
     ·rw[h2];omega
     ·show j<=_;omega
    ·rw[h2]at g5;have:=g4.le;rw[h2]at this;rw[e1];exact⟨by show s'.q.length<=_;omega,by show _<s'.q.length;omega,by show nx<=_;omega⟩
   have HAdd:=dY (aeV w0 w rb tv l s R c 6 j hS dS dS dS hz.room.kids);have ae:=dY (λw1 R1 (h:RS w0 w1 rb tv l ⟨Fl.iq s.q c 6 j,s.d⟩ R1)=>h.node (i:=s.q.length) (Fl.nz s.q c 6 j dS));have ag:=dY (λw1 R1 (h:RS w0 w1 rb tv l ⟨Fl.keyed (Fl.iq s.q c 6 j) s.q.length,s.d⟩ R1)=>by have:=hV w1 s.q.length j _ R1 h dS YH dS hz1;rw[hr]at this;exact this);have IX:=dY (λw1 R1 (jC:Nat)(h:RS w0 w1 rb tv l r.2 R1)=>En w0 w1 rb tv l r.2 R1 s.q.length jC h hrb.2.1 dS);rw[show(⟨Fl.iq s.q c 6 j,s.d⟩:Fl.fF).q=Fl.iq s.q c 6 j from rfl,hpl]at ae;have af:=dY YI;have ai:(c:Int)<(s.q.length:Int):=dS
   obtain⟨n,hn⟩:=eu (s.q.length);rw[hn]at ag IX HAdd ae c1 hns ai⊢;obtain⟨r1,hr1⟩:=eu (r.1);have ax:=hrb.2.2;rw[hr1]at ag ax⊢;obtain⟨s',hs'⟩:∃s',(⟨Fl.nR r.2.q n r1,r.2.d⟩:Fl.fF)=s':=⟨_,rfl⟩
   have ah:=dY (λw1 R1 (h:RS w0 w1 rb tv l r.2 R1)=>by have:=IX.out w1 R1 r1 h;rw[hs']at this;exact this);rw[hs'];obtain⟨K,hK⟩:=eu (Fl.kd l l.length j);rw[hK]at HK af;rw[hb1]at c0;clear hV hT hS hx hz hk hcj hj hc hkx hb1 hb2 hres hgh hpl hz1 hpv2 hr hrb hpv HVd IX hn hr1 hs' hK hq hcv hfz
   go_enter func175,ntmps175
   go_wp2_with fail
   refine aa.out.mono ?_;rintro e w1 ⟨rfl,rfl⟩;go_wp2_with fail
   refine HK.out.mono ?_;rintro e w1 ⟨rfl,rfl⟩;go_wp2_with fail
   refine af.out.mono ?_;rintro e w1 ⟨rfl,rfl⟩;clear aa HK af c0 c1;go_wp2_with fail
   refine HAdd.out.mono ?_;rintro e w1 ⟨rfl,R1,hS1,hF1⟩;obtain⟨g9,aA,c1,hfz,-,c5,R2,hS2,hF2⟩:=ae.out w1 R1 hS1;have f5:=hfz (n*6+5);have hnn:(n:Int)<(n:Int)+1:=dS
   have aj:=dY (hF1.trans hF2);have Dz:=dY (ag.out _ R2 hS2);obtain⟨w2,hw2⟩:=eu (w1.setCell ⟨g9,n*6+5,none⟩ (.bool true));rw[hw2]at Dz aj;have HW2:=dY hw2;clear ae hS1 hF1 hfz hS2 hF2 hw2 ag HAdd;go_upto_region 7 with fail
   rw[HW2.out];clear HW2 c1 c5 f5;go_wp2_with fail
   refine Dz.out.mono ?_;rintro e w3 ⟨rfl,R3,jV,ku⟩;obtain⟨HR3,ay⟩:=fw (ah.out w3 R3 jV) (aj.out.trans ku);clear jV ku Dz aj ah;go_wp2_with fail
   refine HR3.out.mono ?_;rintro e w4 ⟨rfl,R4,rU,vS⟩;have HD:=dY (show Goes w0 w rb tv l R (.int .i64 r1) s' (.returned (.int .i64 r1)) w4 from⟨rfl,R4,rU,ay.out.trans vS⟩);clear rU vS HR3 ay;go_wp2_with fail
   go_ret;exact⟨r1,s',rfl,HD.out⟩
  ·have hres:(if 0<Fl.key l l.length j\/Fl.begins (Fl.kd l l.length j)=true then Fl.qO l l.length (Fl.iw l l.length d) (x.k==10) c j s else(j,s))=Fl.iw l l.length d c j s:=by
    by_cases hb2:Fl.begins (Fl.kd l l.length j)=true
    ·have hxk:(x.k==10)=false:=by simpa using λh=>hb ⟨h,hb2⟩
     rw[dX (.inr hb2),hxk];unfold Fl.qO;dsimp only;rw[dW hq,dW dU]
    ·rw[dW (λh=>h.elim hq hb2)];rcases hpv with⟨e1,_⟩|⟨nx,s',_,_,_,_,_,_,g6⟩
     ·exact e1.symm
     ·exfalso;rcases g6 with g6|g6
      ·exact hb2 g6
      ·rw[g6]at hcj;exact absurd hcj dU
   rw[hres];have ai:(c:Int)<(s.q.length:Int):=dS
   obtain⟨r,hr⟩:=eu (Fl.iw l l.length d c j s);rw[hr]at HVd⊢;obtain⟨r1,r2⟩:=r;dsimp only at HVd;obtain⟨n,hn⟩:=eu (s.q.length);rw[hn]at c1 hns ai;by_cases hxk:x.k=10
   ·have hb2:Fl.begins (Fl.kd l l.length j)=false:=by
     cases h:Fl.begins (Fl.kd l l.length j)with
     |true=>exact absurd ⟨hxk,h⟩ hb
     |false=>rfl
    have af:=dY YI;obtain⟨K,hK⟩:=eu (Fl.kd l l.length j);rw[hK]at HK af;rw[hxk]at c0;clear hV hT hS hx hz hk hcj hj hc hkx hb hb2 hres hpv hr hn hK hq hcv hfz hxk
    go_enter func175,ntmps175
    go_wp2_with fail
    refine aa.out.mono ?_;rintro e w1 ⟨rfl,rfl⟩;go_wp2_with fail
    refine HK.out.mono ?_;rintro e w1 ⟨rfl,rfl⟩;go_wp2_with fail
    refine af.out.mono ?_;rintro e w1 ⟨rfl,rfl⟩;clear aa HK af c0 c1;go_wp2_with fail
    exact aac
   ·have gk:(x.k==10)=false:=by simpa using hxk
    obtain⟨xk,hxd⟩:=eu (x.k);rw[hxd]at c0 gk;clear hV hT hS hx hz hk hcj hj hc hkx hb hres hpv hr hn hq hcv hfz hxk HK hxd
    go_enter func175,ntmps175
    go_wp2_with fail
    refine aa.out.mono ?_;rintro e w1 ⟨rfl,rfl⟩;clear aa;go_wp2_with fail
    exact aac
end
end Go.Proofs.YtmkkdjpebbdikaaGreatDoor

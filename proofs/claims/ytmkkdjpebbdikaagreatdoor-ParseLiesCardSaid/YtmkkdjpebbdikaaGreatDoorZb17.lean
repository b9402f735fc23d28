import Derived.Test.YtmkkdjpebbdikaaGreatDoorZb13
import Derived.Test.YtmkkdjpebbdikaaGreatDoorZb14
set_option linter.all false
set_option maxHeartbeats 16000000
set_option maxRecDepth 100000
namespace Go.Proofs.YtmkkdjpebbdikaaGreatDoor
open Go.RowKit Tryz
def mF:=@Go.below_drewN
def Vl:=@wp_region_held_drew
def aeW:=@wpAnyH_done
section
open Go.RowKit
open Sq
open Ar
inductive Ch where
 |none
 |grow (i:Nat) (t:Int)
 |add (i:Nat) (kind f t:Int)
def Ch.n:Ch->Nat
 | .none=>0
 | .grow _ _=>1
 | .add _ _ _ _=>1
def Ch.cell:Ch->Value
 | .none=>.nilIface
 | .grow i t=>.iface 186 (.agg #[.int .i64 i,.int .i64 t])
 | .add i kind f t=>.iface 188 (.agg #[.int .i64 i,.int .i64 t,.int .i64 kind,.int .i64 f])
def LW(l:List Nd)(i:Nat)(kind f t:Int)(p:Nd):List Nd:=(l++[(⟨kind,f,t,(i:Int),[],false⟩:Nd)]).set i {p with ks:=p.ks++[(l.length:Int)]}
def Ch.res(l:List Nd):Ch->List Nd
 | .none=>l
 | .grow i t=>gY l i t
 | .add i kind f t=>match l[i]? with
  |some p=>gY (LW l i kind f t p) i t
  |Option.none=>l
def Ch.ok(l:List Nd):Ch->Prop
 | .none=>True
 | .grow i t=>i<l.length
 | .add i kind f t=>∃p,l[i]?=some p/\p.f<=t
theorem Sl(v:Value)(w:World):(Instr.typeAssert (.iface 188 v) 20 188 true).run prog w=.ok (.tuple #[v,.bool true]) w:=dV
theorem Lb(v:Value)(w:World):(Instr.typeAssert (.iface 186 v) 20 188 true).run prog w=.ok (.tuple #[.agg #[.int .i64 0,.int .i64 0,.int .i64 0,.int .i64 0],.bool false]) w:=dV
theorem Cm(v:Value)(w:World):(Instr.typeAssert (.iface 186 v) 20 186 false).run prog w=.ok v w:=dV
def Eo(R:List Nd)(w:World)(e:Ending)(w':World):Prop:=
 ∃u,e=.returned (.agg #[u])/\iC w' u R/\(∃L,L.map Ln.nd=R/\PT w' w.heap.size u L)/\Below w.heap.size w w'
theorem MZ(ch:Ch)(v:Value)(l:List Nd)(ca:Option Addr)(cc:Nat)(w:World)(h:iC w v l)(hG:Ar.dR l)(hs:l.length<=9000)(hk:∀x∈l,x.ks.length<=9000)(ho:ch.ok l)
 (hc:∀k,k<ch.n->∃cb,ca=some ⟨cb,0,none⟩/\w.cell? ⟨cb,k,none⟩=some ch.cell):
 Calls prog 177 #[.agg #[v],.slice ca ch.n cc] w (Eo (ch.res l) w):=by
 obtain⟨a,cap,rfl⟩:=h.shape;obtain⟨R,hR⟩:=eu (ch.res l);obtain⟨M,hM⟩:=eu (ch.n);have hM1:M<=1:=by
  rw[<-hM];cases ch<;>simp[Ch.n]
 have hR0:M=0->l=R:=λe=>by
  rw[<-hR];cases ch with
  |none=>rfl
  |grow i t=>rw[<-hM]at e;simp[Ch.n]at e
  |add i kind f t=>rw[<-hM]at e;simp[Ch.n]at e
 rw[hR,hM];rw[hM]at hc;have HQ:=dY (λu w'=>show(iC w' u R/\(∃L,L.map Ln.nd=R/\PT w' w.heap.size u L)/\Below w.heap.size w w')->Eo R w (.returned (.agg #[u])) w' from λh=>⟨u,rfl,h⟩);obtain⟨Q,hQ⟩:=eu (Eo R w);rw[hQ]at HQ⊢;have hpos:=hG.pos;have uO:=dY (λW (hb:Below w.heap.size w W)=>afs _ l M W (h.below hb) dS (λx hx=>iU (hk x hx) dS) dS);have bn:=dY hk;obtain⟨N,hN⟩:=eu (l.length);rw[hN]at hs hpos uO⊢;have HN:=dY hN;obtain⟨w1,hw1⟩:=eu ((w.alloc (.cells #[.slice a N cap] 31)).alloc (.cells #[.slice none 0 0] 31));obtain⟨Bt,pW⟩:=eu (w.heap.size);obtain⟨Br,hBr⟩:=eu (w.heap.size+1);have hb1:=gD (dZ w (.cells #[.slice a N cap] 31)) (.cells #[.slice none 0 0] 31);have ct:w1.cell? ⟨Bt,0,none⟩=some (.slice a N cap):=yQ
 have cr:Lt w1 Br 0 (.slice none 0 0):=QA
 rw[hw1]at hb1;obtain⟨B,hB⟩:=eu (w1.heap.size);have hlr:Br<B:=by rw[<-hB];exact lt_of_cell cr.1
 have hwr:w.heap.size<=Br:=dS
 have aG:w.heap.size<=B:=dS
 have bq:=dY (λW (hb:Below B w1 W)=>show Lt W Br 0 (.slice none 0 0)from⟨by rw[hb.cell (p:=⟨Br,0,none⟩) hlr];exact cr.1,by rw[hb.frozen (p:=⟨Br,0,none⟩) hlr];exact cr.2⟩);have bz:=dY aG;have ay:=dY (λW (hb:Below B w1 W)=>show Below w.heap.size w W from hb1.trans (hb.mono aG));obtain⟨aH,HG,bA,bB,HM,HR⟩:=kG (uO.out w1 hb1) hG ho hc hM hR;obtain⟨bC,HW1,rJ,ng,HB⟩:=vV hR0 hw1 pW hBr hB;clear h hG hk ho hc hR hM hR0 hQ hN hw1 pW hBr hb1 cr hB uO
 go_enter func177,ntmps177
 go_upto_region 1 with fail
 rw[HW1.out,ng.out,rJ.out];clear HW1 ng rJ;go_wp2_with fail
 refine aH.out.mono ?_;rintro e w2 ⟨u,rfl,⟨L,hL,hP,hF⟩,hb2⟩;rw[HB.out]at hP hb2;obtain⟨Bn,ak⟩:=eu (w2.heap.size);have hln:L.length=N:=by rw[<-HN.out,<-hL,jl]
 obtain⟨g,cp,hu,-,-,-,-⟩:=jf (E:=fZ) hP.row dS;rw[hln]at hu;subst hu;obtain⟨w3,hw3⟩:=eu (w2.alloc (.cells #[.slice (some ⟨g,0,none⟩) N cp] 31));have bD:B<=Bn:=by rw[<-ak,<-HB.out];exact hb2.size
 have hP3:=hP.below (dZ w2 (.cells #[.slice (some ⟨g,0,none⟩) N cp] 31));have hb3:Below B w1 w3:=by rw[<-hw3];exact hb2.alloc dS _
 have bx3:w3.heap[Bn]?=some (.cells #[.slice (some ⟨g,0,none⟩) N cp] 31 (0,0)):=by rw[<-hw3,<-ak];exact lz _ _
 rw[hw3]at hP3;have PE:=dY hP3;have HL3:=dY (show L.map Ln.nd=l/\∀p∈L,p.c=p.n from⟨hL,hF⟩);obtain⟨HB3,aI,HW3,OU⟩:=oK hb3 bx3 hw3 ak;clear hL hP hF hb2 ak hln hw3 hP3 hb3 bx3 aH;go_upto_region 2 with fail
 rw[HW3.out,OU.out];clear HW3 OU ct;go_wp2_with fail
 go_loopw [16] (λiv wr=>∃(k:Nat)(nv:Value)(L:List Ln),iv=.int .i64 k/\k<=M/\Hid (PT wr B nv L)/\Hid (k=0->L.map Ln.nd=l/\∀p∈L,p.c=p.n)/\Hid (k=1->L.map Ln.nd=R)/\Hid (wr.heap[Bn]?=some (.cells #[nv] 31 (0,0)))/\Hid (Below B w1 wr)) (λiv _=>M-(intOf iv).toNat)
 case atStart=>exact⟨0,_,L,rfl,fP _,PE,dY (λ_=>HL3.out),dY (λe=>uP),aI,HB3⟩
 case round=>
  clear PE HL3 aI HB3 L;obtain⟨k,nv,L,rfl,bE,HP,Ja,F9,HX,ae⟩:=hrel;by_cases hlt:k<M
  ·obtain rfl:k=0:=by omega
   obtain rfl:M=1:=dS
   obtain⟨cb,rfl,hcb⟩:=bB.out 0 dU;have c0:=eB (ay.out wr ae.out) hcb;obtain⟨hL,hF⟩:=Ja.out rfl;have hln:L.length=N:=by rw[<-HN.out,<-hL,jl]
   obtain⟨g,cp,hu,hBg,-,-,-⟩:=jf (E:=fZ) HP.out.row dS;rw[hln]at hu;subst hu;have hne:Bn≠g:=λe=>by
    obtain⟨cs,fr,e2⟩:=sG HP.out.row (g:=g) rfl;exact lG HX.out e2 dU e
   have bx:=jh HX.out;obtain⟨HL,HF,az⟩:=je hL hF hln;have hBw:B<=wr.heap.size:=by have:=gK HX.out;omega
   have hm:=HM.out;have hok:=bA.out;have hr:=HR.out;clear hcb hL hF hln Ja F9 hlt bE;cases ch with
   |none=>exact absurd hm dU
   |grow i t=>
    have hok:i<l.length:=hok
    rw[HN.out]at hok;have aA:=dY (show gY l i t=R from hr);have c1:wr.cell? ⟨cb,0,none⟩=some (.iface 186 (.agg #[.int .i64 i,.int .i64 t])):=c0;have h1:=Lb (.agg #[.int .i64 i,.int .i64 t]);have h2:=Cm (.agg #[.int .i64 i,.int .i64 t]);obtain⟨w4,hw4⟩:=eu (wr.alloc (.cells #[.int .i64 0,.int .i64 0,.int .i64 0,.int .i64 0] 188));have hb4:Below wr.heap.size wr w4:=by rw[<-hw4];exact dZ wr _
    have Jc:=(hb4.block Bn (gK HX.out)).trans HX.out;have aB:=jh Jc;have af:=dY Jc;have HP4:=dY ((HP.out.below hb4).drew);have qQ:=dY ((ae.out.trans (hb4.mono hBw)).drew);have ag:B<=w4.drew.heap.size:=by have:=hb4.size;show B<=w4.heap.size;omega
    have ah:=dY hw4;clear hm hr c0 hw4 hb4 Jc;go_upto_region 9 with fail
    rw[ah.out];clear ah bx c1;refine ik 3 dV dV ?_;simp only[vJ,vT,xB,lM]
    repeat (go_big_quiet_step (fail))
    refine LP ?_;have hre:=abk g cp B N L i t w4.drew HP4.out az.out (by rw[HL.out];exact HG.out) dS dS;rw[HL.out,aA.out]at hre;have aC:=dY hre;clear hre h1 h2;go_wp2_with fail
    refine aC.out.mono ?_;rintro e w5 ⟨rfl,⟨L2,hL2,hP2⟩,hg5⟩;have aJ:=dY ((hg5.block Bn (gK af.out) (λe=>hne (iG e))).trans af.out);have tY:=dY (qQ.out.trans (Ri hg5 hBg ag));obtain⟨aK,aL⟩:=fw hP2 hL2;clear hL2 hP2 hg5 aB;go_wp2_with fail
    go_roundw
    case rel=>
     first
      |exact⟨1,_,L2,fH,dS,aK,dY (λe=>absurd e dU),dY (λ_=>aL.out),aJ,tY⟩
      |((repeat apply Exists.intro);exact⟨⟨1,_,L2,fH,dS,aK,dY (λe=>absurd e dU),dY (λ_=>aL.out),aJ,tY⟩,rfl⟩)
    case measure=>simp[intOf]
   |add i kind f t=>
    obtain⟨p,hp,bF⟩:=hok;have hi:=(eY.1 hp).1;rw[HN.out]at hi;have hr2:gY (LW l i kind f t p) i t=R:=by rw[<-hr];simp only[Ch.res,hp]
    have aM:Ar.dR (LW l i kind f t p):=by
     have:=zU HG.out (i:Int) kind f t p dS (by rw[jd];exact hp) bF;rw[jd]at this;exact this
    have hpl:(LW l i kind f t p).length=N+1:=by unfold LW;rw[nQ,iK,HN.out];rfl
    obtain⟨pl,ai⟩:∃pl,L[i]?=some pl:=⟨_,fu (by rw[az.out];exact hi)⟩
    have hpn:pl.nd=p:=by
     have h1:(L.map Ln.nd)[i]?=some pl.nd:=by rw[kS,ai];rfl
     rw[HL.out,hp]at h1;exact(iG h1).symm
    have hkp:=bn.out p (gW hp);obtain⟨aA,bG,bH⟩:=je hr2 aM hpl;have c1:wr.cell? ⟨cb,0,none⟩=some (.iface 188 (.agg #[.int .i64 i,.int .i64 t,.int .i64 kind,.int .i64 f])):=c0;have h1:=Sl (.agg #[.int .i64 i,.int .i64 t,.int .i64 kind,.int .i64 f]);have h2:=Cm (.agg #[.int .i64 i,.int .i64 t]);obtain⟨Ba,hBa⟩:=eu (wr.heap.size);obtain⟨w4,hw4⟩:=eu (wr.alloc (.cells #[.int .i64 i,.int .i64 t,.int .i64 kind,.int .i64 f] 188));have hb4:Below wr.heap.size wr w4:=by rw[<-hw4];exact dZ wr _
    have aa:w4.heap[Ba]?=some (.cells #[.int .i64 i,.int .i64 t,.int .i64 kind,.int .i64 f] 188 (0,0)):=by rw[<-hw4,<-hBa];exact lz _ _
    have Jc:=(hb4.block Bn (gK HX.out)).trans HX.out;have hne2:Ba≠Bn:=by have:=gK HX.out;omega
    have aN:Ba≠g:=by have:=(HP.out.row.lt g rfl).2;omega
    have aB:=jh Jc;have a40:=fq aa 0;have a41:=fq aa 1;have a42:=fq aa 2;have a43:=fq aa 3;have aD:=alV g cp B N i L kind f t w4 (HP.out.below hb4) HF.out az.out dS pl ai (by rw[hpn];omega);have eR:((L.map Ln.nd)++[(⟨kind,f,t,(i:Int),[],false⟩:Nd)]).set i {pl.nd with ks:=pl.nd.ks++[(N:Int)]}=LW l i kind f t p:=by unfold LW;rw[HL.out,hpn,HN.out]
    rw[eR]at aD;obtain⟨bI,af,aO⟩:=je aD Jc aa;have qQ:=dY (ae.out.trans (hb4.mono hBw));have ag:B<=w4.heap.size:=by have:=hb4.size;omega
    obtain⟨ah,yn⟩:=fw hw4 hBa;clear hm hr hr2 aM hpl ai hpn hkp hp c0 hw4 hb4 Jc aa aD eR hBa;go_upto_region 6 with fail
    rw[ah.out,yn.out];clear ah yn bx c1;go_wp2_with fail
    refine bI.out.mono ?_;rintro e w5 ⟨u2,rfl,⟨L2,hL2,hP2⟩,hg5⟩;have aj:L2.length=N+1:=by rw[<-bH.out,<-hL2,jl]
    obtain⟨g2,cp2,hu2,aP,-,-,-⟩:=jf (E:=fZ) hP2.row dS;rw[aj]at hu2;subst hu2;have XD:=(hg5.block Bn (gK af.out) (λe=>hne (iG e))).trans af.out;have aQ:=(hg5.block Ba (gK aO.out) (λe=>aN (iG e))).trans aO.out;have bJ:=jh XD;have bK:=Dx XD;obtain⟨w6,oN⟩:=eu (w5.setCell ⟨Bn,0,none⟩ (.slice (some ⟨g2,0,none⟩) (N+1) cp2));have av:=hP2.box XD dU dU 0 (.slice (some ⟨g2,0,none⟩) (N+1) cp2);have bx6:=Pj (u:=.slice (some ⟨g2,0,none⟩) (N+1) cp2) XD;have ax:=(jo w5 ⟨Bn,0,none⟩ (.slice (some ⟨g2,0,none⟩) (N+1) cp2) Ba hne2).trans aQ;have hb6:=(qQ.out.trans (Ri hg5 hBg ag)).setCell (p:=⟨Bn,0,none⟩) bD (.slice (some ⟨g2,0,none⟩) (N+1) cp2);rw[oN]at av bx6 ax hb6;have bL:=jh bx6;have a60:=fq ax 0;have a61:=fq ax 1;have aR:Bn≠g2:=λe=>by
     obtain⟨cs,fr,e2⟩:=sG av.row (g:=g2) rfl;exact lG bx6 e2 dU e
    obtain⟨aS,bM,tN,aT,aU⟩:=vV bx6 av.drew hb6.drew hL2 aj;have aV:B<=w6.drew.heap.size:=by have:=gK bx6;show B<=w6.heap.size;omega
    have aW:=dY oN;clear hL2 hP2 hg5 aj XD aQ oN av bx6 ax hb6 aB a40 a41 a42 a43;go_upto_region 8 with fail
    rw[aW.out];clear aW bJ bK;go_upto_region 9 with fail
    refine ik 3 dV dV ?_;simp only[vJ,vT,xB,lM]
    repeat (go_big_quiet_step (fail))
    refine LP ?_;have hre:=abk g2 cp2 B (N+1) L2 i t w6.drew bM.out aU.out (by rw[aT.out];exact bG.out) dS dS;rw[aT.out,aA.out]at hre;have aC:=dY hre;clear hre h1 h2 a60 a61;go_wp2_with fail
    refine aC.out.mono ?_;rintro e w7 ⟨rfl,⟨L7,hL7,aX⟩,aF⟩;have aY:=dY ((aF.block Bn (gK aS.out) (λe=>aR (iG e))).trans aS.out);have aZ:=dY (tN.out.trans (Ri aF aP aV));obtain⟨bf,bg⟩:=fw aX hL7;clear hL7 aX aF bL;go_wp2_with fail
    go_roundw
    case rel=>
     first
      |exact⟨1,_,L7,fH,dS,bf,dY (λe=>absurd e dU),dY (λ_=>bg.out),aY,aZ⟩
      |((repeat apply Exists.intro);exact⟨⟨1,_,L7,fH,dS,bf,dY (λe=>absurd e dU),dY (λ_=>bg.out),aY,aZ⟩,rfl⟩)
    case measure=>simp[intOf]
  ·obtain rfl:k=M:=by omega
   have hii:¬((k:Int)<(k:Int)):=dS
   have hL:L.map Ln.nd=R:=by
    rcases rP k with e|e
    ·rw[(Ja.out e).1];exact bC.out e
    ·exact F9.out dS
   obtain⟨na,nc,bN⟩:=(Reads.fo (E:=fZ) HP.out.row).shape;subst bN;have bx:=jh HX.out;have cr:=bq.out wr ae.out;have bO:=cr.1;have bP:=cr.2;have HD:=dY (HQ.out (.slice na L.length nc) (wr.setCell ⟨Br,0,none⟩ (.slice na L.length nc)) ⟨by rw[<-hL];exact(HP.out.y8 hlr _).nodes,⟨L,hL,(HP.out.y8 hlr _).base bz.out⟩,(ay.out wr ae.out).setCell (p:=⟨Br,0,none⟩) hwr _⟩);obtain⟨ln,hln⟩:=eu (L.length);rw[hln]at bx HD;clear hL hlt cr hln;go_wp2_with fail
   refine vK (v:=.agg #[.slice na ln nc]) ?_ rfl HD.out;simp[results,results177,go_sem,bO,ig]
end
section
open Go.RowKit
open Sq
open Ar
def yB(l:List Nd)(p:Nd):Int:=match p.ks.getLast? with
 |none=>p.f
 |some z=>XB l z
theorem Wj{l:List Nd}(h:Ar.dR l)(i:Nat)(p:Nd)(hp:l[i]?=some p)(f:Int):Ke l p f=decide (yB l p<=f):=by
 unfold Ke yB;cases hl:p.ks.getLast? with
 |none=>
  dsimp only;rw[aeh];by_cases c:f<p.f
  ·simp[c]
  ·simp[c];omega
 |some z=>
  dsimp only;have hz:z∈p.ks:=LF hl;have hk:=h.kid i p hp z hz;obtain⟨y,hy⟩:∃y,l[z.toNat]?=some y:=⟨_,fu dS⟩
  have he:=h.ext i p hp z hz y hy;have ha:XB l z=y.t:=by unfold XB;rw[hy]
  simp only[ha];by_cases c:f<y.t
  ·simp[c]
  ·have c1:¬f<p.f:=by omega
   simp[c,c1];omega
theorem acE{l:List Nd}(h:Ar.dR l)(i:Nat)(p:Nd)(hp:l[i]?=some p)(kind f t:Int):
 il l i kind f t=(decide (1<=kind)&&decide (kind<=11)&&(decide (yB l p<=f)&&decide (f<=t)&&decide (t<=firstT l))):=by
 have hi:=(eY.1 hp).1;rw[VL l i kind f t p (by rw[jd];exact hp),Wj h i p hp];have e1:decide ((i:Int)<0)=false:=ic dS;have e2:decide ((l.length:Int)<=(i:Int))=false:=ic dS;rw[e1,e2];by_cases c1:kind<1<;>by_cases c2:11<kind<;>by_cases c3:t<f<;>by_cases c4:firstT l<t<;>by_cases c5:yB l p<=f<;>simp[c1,c2,c3,c4,c5]<;>omega
theorem afN{l:List Nd}(up kind f t:Int)(h:Dt l.length up=false):il l up kind f t=false:=by
 refine acb l up kind f t ?_;unfold Dt at h;by_cases c1:up<0
 ·simp[c1]
 ·have c2:(l.length:Int)<=up:=by
   by_cases c:up<(l.length:Int)
   ·simp[c]at h;omega
   ·omega
  simp[c2]
theorem akQ(v:Value)(l:List Nd)(i:Nat)(p:Nd)(w:World)(h:iC w v l)(hG:Ar.dR l)(hs:l.length<=9000)(hk:∀x∈l,x.ks.length<=9000)(hp:l[i]?=some p):
 Calls prog 184 #[.agg #[v],.int .i64 i] w (λe w'=>e=.returned (.int .i64 (yB l p))/\Below w.heap.size w w'):=by
 obtain⟨a,cap,rfl⟩:=h.shape;obtain⟨R,hR⟩:=eu (yB l p);rw[hR];have hi:=(eY.1 hp).1;have HX:=dY (λW (hb:Below w.heap.size w W)=>h.below hb);have hkp:=hk p (gW hp);obtain⟨N,hN⟩:=eu (l.length);rw[hN]at hs hi HX⊢;have HN:=dY hN;obtain⟨Bt,pW⟩:=eu (w.heap.size);obtain⟨w1,hw1⟩:=eu (w.alloc (.cells #[.slice a N cap] 31));have hb1:Below w.heap.size w w1:=hw1▸dZ w _;have ct:w1.cell? ⟨Bt,0,none⟩=some (.slice a N cap):=D4
 have hX1:=HX.out w1 hb1;rw[<-HN.out]at hX1;obtain⟨b,off,ka,kc,rfl,p0,p1,p2,p3,p4,p5,hkr⟩:=hX1.at_ i p hp;obtain⟨xb,hxb⟩:=eu (w1.heap.size);obtain⟨w2,hw2⟩:=eu (w1.alloc (.cells #[.int .i64 p.k,.int .i64 p.f,.int .i64 p.t,.int .i64 p.u,.slice ka p.ks.length kc,.bool p.y] 38));have hb2:Below w1.heap.size w1 w2:=hw2▸dZ w1 _;have blk:w2.heap[xb]?=some (.cells #[.int .i64 p.k,.int .i64 p.f,.int .i64 p.t,.int .i64 p.u,.slice ka p.ks.length kc,.bool p.y] 38 (0,0)):=by rw[<-hw2,<-hxb];exact lz _ _
 have af:=eB hb2 ct;obtain⟨HB2,ae,ah,HW1,rJ,HW2⟩:=kG (eD hb1 hb2) blk (hkr.below hb2) hw1 pW hw2;obtain⟨ag,HG,HP,HR⟩:=oK hxb hG hp hR;have hii:(i:Int)<(N:Int):=dS
 clear h hG hk hp hR hN pW hw1 hb1 hX1 hxb hw2 hb2 blk hkr
 go_enter func184,ntmps184
 go_upto_region 1 with fail
 rw[HW1.out,rJ.out];clear HW1 rJ;go_upto_region 2 with fail
 rw[HW2.out,ag.out];clear HW2 ag p0 p1 p2 p3 p4 p5 ct;have n1:=fq ae.out 1;have n4:=fq ae.out 4;have hr:=HR.out;unfold yB at hr;cases hks:p.ks with
 |nil=>
  rw[hks]at hr;have hr:p.f=R:=hr;have aa:w2.cell? ⟨xb,4,none⟩=some (.slice ka 0 kc):=by rw[n4,hks];rfl
  clear n4 hks;subst hr;go_upto_region 3 with fail
  go_big_quiet (fail)
  have n1':(w2.drewN nq).cell? ⟨xb,1,none⟩=some (.int .i64 p.f):=(World.cell?_drewN _ _ _).trans n1;have hq:=mF HB2.out nq;obtain⟨W,hW⟩:=eu (w2.drewN nq);rw[hW]at n1' hq;rw[hW];have HD:=dY hq;clear hW hq n1 af aa;go_wp2_with fail
  go_ret;exact⟨rfl,HD.out⟩
 |cons k0 kr=>
  obtain⟨m,hm1⟩:∃m,p.ks.length=m+1:=⟨kr.length,by rw[hks];rfl⟩
  obtain⟨z,hz⟩:∃z,p.ks[m]?=some z:=⟨_,fu dS⟩
  have hlast:p.ks.getLast?=some z:=by rw[ahK,hm1];exact hz
  rw[hlast]at hr;have hr:XB l z=R:=hr;have hzk:=HG.out.kid i p HP.out z (gW hz);rw[HN.out]at hzk;obtain⟨zn,rfl⟩:∃zn:Nat,z=(zn:Int):=⟨z.toNat,dS⟩
  obtain⟨c,hc⟩:∃c,l[zn]?=some c:=⟨_,fu mP⟩
  have hat:XB l (zn:Int)=c.t:=by unfold XB;rw[jd,hc]
  rw[hat]at hr;subst hr;obtain⟨kb,ko,hka,z0⟩:=CQ ah.out m _ hz;subst hka;have yc:=HX.out w2 HB2.out;rw[<-HN.out]at yc;obtain⟨b9,ah4,_,_,he,-,-,c2,-,-,-,-⟩:=yc.at_ zn c hc;injection he with he
  injection he with e2 e3
  subst e2 e3;have aa:w2.cell? ⟨xb,4,none⟩=some (.slice (some ⟨kb,ko,none⟩) (m+1) kc):=by rw[n4,<-hm1];rfl
  have g0:(0:Int)<(m:Int)+1:=dS
  have g0':decide ((0:Int)<(m:Int)+1)=true:=kD g0;have gw:IntKind.i64.wrap ((m:Int)+1-1)=(m:Int):=by
   have:(m:Int)+1-1=(m:Int):=dS
   rw[this];exact sj _ dS
  have ai:IntKind.i64.wrap (m:Int)=(m:Int):=sj _ dS;have g1:(m:Int)<(m:Int)+1:=dS
  have g2:(zn:Int)<(N:Int):=dS
  have hhas:Dt N (zn:Int)=true:=by unfold Dt;simp;omega
  have hH:=KM (some ⟨b,off,none⟩) N cap (zn:Int) w2.drew dS;rw[hhas]at hH;have HH:=dY hH;clear n4 hks hlast hzk hz hc hat yc hm1 hH hhas n1;go_upto_region 3 with fail
  refine ik 10 dV dV ?_;simp only[vJ,vT,xB,lM]
  repeat (go_big_quiet_step (fail))
  refine LP ?_;go_wp2_with fail
  refine HH.out.mono ?_;rintro e w3 ⟨rfl,hb3⟩;have aj:w3.cell? ⟨Bt,0,none⟩=some (.slice (some ⟨b,off,none⟩) N cap):=eB hb3 (eP af);have n43:w3.cell? ⟨xb,4,none⟩=some (.slice (some ⟨kb,ko,none⟩) (m+1) kc):=eB hb3 (eP aa);have ak:w3.cell? ⟨kb,ko+m,none⟩=some (.int .i64 (zn:Int)):=eB hb3 (eP z0);have c23:=eB hb3 (eP c2);have HB3:=dY (eD HB2.out.drew hb3);clear hb3 af aa z0 c2;go_wp2_with fail
  go_big_quiet (fail)
  have HD:=dY (mF HB3.out nq);go_wp2_with fail
  go_ret;exact⟨rfl,HD.out⟩
theorem akR(v:Value)(l:List Nd)(up kind f t:Int)(w:World)(h:iC w v l)(hG:Ar.dR l)(hs:l.length<=9000)(hk:∀x∈l,x.ks.length<=9000):
 Calls prog 176 #[.agg #[v],.agg #[.int .i64 up,.int .i64 t,.int .i64 kind,.int .i64 f]] w (λe w'=>e=.returned (.bool (il l up kind f t))/\Below w.heap.size w w'):=by
 obtain⟨a,cap,rfl⟩:=h.shape;obtain⟨R,hR⟩:=eu (il l up kind f t);have hno:=afN (l:=l) up kind f t;have ai:=fun(i:Nat)(p:Nd)(e:up=(i:Int))(hp:l[i]?=some p)=>show il l up kind f t=(decide (1<=kind)&&decide (kind<=11)&&(decide (yB l p<=f)&&decide (f<=t)&&decide (t<=firstT l)))from by rw[e];exact acE hG i p hp kind f t
 rw[hR]at hno ai⊢;obtain⟨y,hy,ak⟩:=aca hG.pos;rw[ak]at ai;have HX:=dY (λW (hb:Below w.heap.size w W)=>h.below hb);have aj:=dY (λW i p (hb:Below w.heap.size w W)=>akQ (.slice a l.length cap) l i p W (h.below hb) hG hs hk);have hpos:=hG.pos;obtain⟨N,hN⟩:=eu (l.length);rw[hN]at hs HX aj hno hpos⊢;obtain⟨HN,av,ax,HY⟩:=oK hN hno ai hy;obtain⟨Bt,pW⟩:=eu (w.heap.size);obtain⟨Ba,hBa⟩:=eu (w.heap.size+1);obtain⟨w1,hw1⟩:=eu ((w.alloc (.cells #[.slice a N cap] 31)).alloc (.cells #[.int .i64 up,.int .i64 t,.int .i64 kind,.int .i64 f] 188));have hb1:Below w.heap.size w w1:=hw1▸gD (dZ w _) _;have ct:w1.cell? ⟨Bt,0,none⟩=some (.slice a N cap):=yQ
 have hsz:(w.alloc (.cells #[.slice a N cap] 31)).heap.size=Ba:=by rw[size_alloc];exact hBa
 have a0:w1.cell? ⟨Ba,0,none⟩=some (.int .i64 up):=AP
 have a1:w1.cell? ⟨Ba,1,none⟩=some (.int .i64 t):=AP
 have a2:w1.cell? ⟨Ba,2,none⟩=some (.int .i64 kind):=AP
 have a3:w1.cell? ⟨Ba,3,none⟩=some (.int .i64 f):=AP
 have HB1:=dY hb1;have HH:=dY (λW=>KM a N cap up W dS);obtain⟨HW1,rJ,yn⟩:=je hw1 pW hBa;clear h hG hk hR hN pW hBa hw1 hb1 hsz hno ai hy ak
 go_enter func176,ntmps176
 go_upto_region 1 with fail
 rw[HW1.out,yn.out,rJ.out];clear HW1 rJ yn;go_wp2_with fail
 refine(HH.out _).mono ?_;rintro e w2 ⟨rfl,hb2⟩;have aa:=eB hb2 ct;have ae:=eB hb2 a0;have a12:=eB hb2 a1;have a22:=eB hb2 a2;have a32:=eB hb2 a3;have HB2:=dY (eD HB1.out hb2);clear hb2 ct a0 a1 a2 a3;cases hh:Dt N up with
 |false=>
  obtain rfl:R=false:=av.out hh;clear hh;go_wp2_with fail
  go_ret;exact⟨rfl,HB2.out⟩
 |true=>
  obtain⟨i,rfl⟩:∃i:Nat,up=(i:Int):=⟨up.toNat,Jq⟩
  have hi:i<N:=Jq
  obtain⟨p,hp⟩:∃p,l[i]?=some p:=⟨_,fu (by rw[HN.out];exact hi)⟩
  have hy0:=ax.out i p rfl hp;clear hh;by_cases q1:1<=kind
  case neg=>
   obtain rfl:R=false:=by rw[hy0];simp[q1]
   have d1:decide (kind<1)=true:=kD dS;have d1':kind<1:=dS
   clear hy0 hp q1;go_wp2_with fail
   go_ret;exact⟨rfl,HB2.out⟩
  have d1:decide (kind<1)=false:=ic dS;by_cases q2:kind<=11
  case neg=>
   obtain rfl:R=false:=by rw[hy0];simp[q2]
   have d2:decide (11<kind)=true:=kD dS;have ay:11<kind:=dS
   clear hy0 hp q2;go_wp2_with fail
   go_ret;exact⟨rfl,HB2.out⟩
  have d2:decide (11<kind)=false:=ic dS;have hye:R=(decide (yB l p<=f)&&decide (f<=t)&&decide (t<=y.t)):=by rw[hy0];simp[q1,q2]
  clear hy0;have hF:=aj.out w2.drew i p HB2.out.drew hp;obtain⟨fr,hfr⟩:=eu (yB l p);rw[hfr]at hF hye;have HF:=dY hF;have hX2:=HX.out w2 HB2.out;rw[<-HN.out]at hX2;obtain⟨b,off,_,_,rfl,-,-,y2,-,-,-,-⟩:=hX2.at_ 0 y HY.out;simp only[O5,oW]at y2;have hN0:(0:Int)<(N:Int):=dS
  clear hp hF hfr hX2 HH aj HX av ax q1 q2;by_cases q3:fr<=f
  case neg=>
   obtain rfl:R=false:=by rw[hye];simp[q3]
   have d3:decide (fr<=f)=false:=ic q3;clear hye q3;go_wp2_with fail
   refine Vl (S:=λwx=>wx.cell? ⟨Bt,0,none⟩=some (.slice (some ⟨b,off,none⟩) N cap)/\wx.cell? ⟨Ba,0,none⟩=some (.int .i64 (i:Int))/\wx.cell? ⟨Ba,1,none⟩=some (.int .i64 t)/\wx.cell? ⟨Ba,3,none⟩=some (.int .i64 f)/\wx.cell? ⟨b,off+2,none⟩=some (.int .i64 y.t)) dV (⟨aa,ae,a12,a32,y2⟩) (λhH=>?_);refine uf 0 (.agg #[.slice (some ⟨b,off,none⟩) N cap]) (λW hW=>?_) hH ?_
   ·obtain⟨z1,z2,z3,z4,z5⟩:=hW;go_simp
   refine iI 1 (.pointer (some ⟨Ba,0,none⟩)) hH ?_;refine iI 2 (.pointer (some ⟨Ba,0,none⟩)) hH ?_;refine uf 3 (.int .i64 (i:Int)) (λW hW=>?_) hH ?_
   ·obtain⟨z1,z2,z3,z4,z5⟩:=hW;go_simp
   refine iI 5 (.pointer (some ⟨Ba,3,none⟩)) hH ?_;refine uf 6 (.int .i64 f) (λW hW=>?_) hH ?_
   ·obtain⟨z1,z2,z3,z4,z5⟩:=hW;go_simp
   refine Cc 4 λK hK=>?_
   go_simp;refine HF.out.mono ?_;rintro e w3 ⟨rfl,hb3⟩;have af:=eB hb3 (eP ae);have ag:=eB hb3 (eP a12);have a33:=eB hb3 (eP a32);have ah:=eB hb3 (eP aa);have y23:=eB hb3 (eP y2);have HB3:=dY (eD HB2.out.drew hb3);clear hb3;try go_wp2_with fail
   refine hK.out _ _ (⟨ah,af,ag,a33,y23⟩) (λhH2=>?_);clear hK K;try simp only[Act.put,fG,fB,fC]
   refine iI 7 (.bool false) hH2 ?_;refine iI 8 (.bool false) hH2 ?_;refine vM (i:=9) (oi:=⟨_,_,_,_,_,_⟩) (v:=undef) rfl dV dV dV (λ_ _ _ h=>h) (Or.inr ⟨rfl,rfl⟩) hH2 ?_;try simp only[Act.put,fG,fB,fC]
   refine vM (i:=10) (oi:=⟨_,_,_,_,_,_⟩) (v:=undef) rfl dV dV dV (λ_ _ _ h=>h) (Or.inr ⟨rfl,rfl⟩) hH2 ?_;try simp only[Act.put,fG,fB,fC]
   refine vM (i:=11) (oi:=⟨_,_,_,_,_,_⟩) (v:=undef) rfl dV dV dV (λ_ _ _ h=>h) (Or.inr ⟨rfl,rfl⟩) hH2 ?_;try simp only[Act.put,fG,fB,fC]
   refine vM (i:=12) (oi:=⟨_,_,_,_,_,_⟩) (v:=undef) rfl dV dV dV (λ_ _ _ h=>h) (Or.inr ⟨rfl,rfl⟩) hH2 ?_;try simp only[Act.put,fG,fB,fC]
   refine vM (i:=13) (oi:=⟨_,_,_,_,_,_⟩) (v:=undef) rfl dV dV dV (λ_ _ _ h=>h) (Or.inr ⟨rfl,rfl⟩) hH2 ?_;try simp only[Act.put,fG,fB,fC]
   refine vM (i:=14) (oi:=⟨_,_,_,_,_,_⟩) (v:=undef) rfl dV dV dV (λ_ _ _ h=>h) (Or.inr ⟨rfl,rfl⟩) hH2 ?_;try simp only[Act.put,fG,fB,fC]
   refine iI 15 (.bool false) hH2 ?_;refine iI 16 (.bool false) hH2 ?_;refine vM (i:=17) (oi:=⟨_,_,_,_,_,_⟩) (v:=undef) rfl dV dV dV (λ_ _ _ h=>h) (Or.inr ⟨rfl,rfl⟩) hH2 ?_;try simp only[Act.put,fG,fB,fC]
   exact ZI
  have d3:decide (fr<=f)=true:=kD q3;by_cases q4:f<=t
  case neg=>
   obtain rfl:R=false:=by rw[hye];simp[q4]
   have d4:decide (f<=t)=false:=ic q4;clear hye q3 q4;go_wp2_with fail
   refine Vl (S:=λwx=>wx.cell? ⟨Bt,0,none⟩=some (.slice (some ⟨b,off,none⟩) N cap)/\wx.cell? ⟨Ba,0,none⟩=some (.int .i64 (i:Int))/\wx.cell? ⟨Ba,1,none⟩=some (.int .i64 t)/\wx.cell? ⟨Ba,3,none⟩=some (.int .i64 f)/\wx.cell? ⟨b,off+2,none⟩=some (.int .i64 y.t)) dV (⟨aa,ae,a12,a32,y2⟩) (λhH=>?_);refine uf 0 (.agg #[.slice (some ⟨b,off,none⟩) N cap]) (λW hW=>?_) hH ?_
   ·obtain⟨z1,z2,z3,z4,z5⟩:=hW;go_simp
   refine iI 1 (.pointer (some ⟨Ba,0,none⟩)) hH ?_;refine iI 2 (.pointer (some ⟨Ba,0,none⟩)) hH ?_;refine uf 3 (.int .i64 (i:Int)) (λW hW=>?_) hH ?_
   ·obtain⟨z1,z2,z3,z4,z5⟩:=hW;go_simp
   refine iI 5 (.pointer (some ⟨Ba,3,none⟩)) hH ?_;refine uf 6 (.int .i64 f) (λW hW=>?_) hH ?_
   ·obtain⟨z1,z2,z3,z4,z5⟩:=hW;go_simp
   refine Cc 4 λK hK=>?_
   go_simp;refine HF.out.mono ?_;rintro e w3 ⟨rfl,hb3⟩;have af:=eB hb3 (eP ae);have ag:=eB hb3 (eP a12);have a33:=eB hb3 (eP a32);have ah:=eB hb3 (eP aa);have y23:=eB hb3 (eP y2);have HB3:=dY (eD HB2.out.drew hb3);clear hb3;try go_wp2_with fail
   refine hK.out _ _ (⟨ah,af,ag,a33,y23⟩) (λhH2=>?_);clear hK K;try simp only[Act.put,fG,fB,fC]
   refine iI 7 (.bool true) hH2 ?_;refine iI 8 (.bool true) hH2 ?_;refine iI 9 (.pointer (some ⟨Ba,3,none⟩)) hH2 ?_;refine uf 10 (.int .i64 f) (λW hW=>?_) hH2 ?_
   ·obtain⟨z1,z2,z3,z4,z5⟩:=hW;go_simp
   refine iI 11 (.pointer (some ⟨Ba,0,none⟩)) hH2 ?_;refine iI 12 (.pointer (some ⟨Ba,1,none⟩)) hH2 ?_;refine uf 13 (.int .i64 t) (λW hW=>?_) hH2 ?_
   ·obtain⟨z1,z2,z3,z4,z5⟩:=hW;go_simp
   refine iI 14 (.bool false) hH2 ?_;refine iI 15 (.bool false) hH2 ?_;refine iI 16 (.bool false) hH2 ?_;refine vM (i:=17) (oi:=⟨_,_,_,_,_,_⟩) (v:=undef) rfl dV dV dV (λ_ _ _ h=>h) (Or.inr ⟨rfl,rfl⟩) hH2 ?_;try simp only[Act.put,fG,fB,fC]
   exact ZI
  have d4:decide (f<=t)=true:=kD q4;by_cases q5:t<=y.t
  case neg=>
   obtain rfl:R=false:=by rw[hye];simp[q5]
   have d5:decide (t<=y.t)=false:=ic q5;clear hye q3 q4 q5;go_wp2_with fail
   refine Vl (S:=λwx=>wx.cell? ⟨Bt,0,none⟩=some (.slice (some ⟨b,off,none⟩) N cap)/\wx.cell? ⟨Ba,0,none⟩=some (.int .i64 (i:Int))/\wx.cell? ⟨Ba,1,none⟩=some (.int .i64 t)/\wx.cell? ⟨Ba,3,none⟩=some (.int .i64 f)/\wx.cell? ⟨b,off+2,none⟩=some (.int .i64 y.t)) dV (⟨aa,ae,a12,a32,y2⟩) (λhH=>?_);refine uf 0 (.agg #[.slice (some ⟨b,off,none⟩) N cap]) (λW hW=>?_) hH ?_
   ·obtain⟨z1,z2,z3,z4,z5⟩:=hW;go_simp
   refine iI 1 (.pointer (some ⟨Ba,0,none⟩)) hH ?_;refine iI 2 (.pointer (some ⟨Ba,0,none⟩)) hH ?_;refine uf 3 (.int .i64 (i:Int)) (λW hW=>?_) hH ?_
   ·obtain⟨z1,z2,z3,z4,z5⟩:=hW;go_simp
   refine iI 5 (.pointer (some ⟨Ba,3,none⟩)) hH ?_;refine uf 6 (.int .i64 f) (λW hW=>?_) hH ?_
   ·obtain⟨z1,z2,z3,z4,z5⟩:=hW;go_simp
   refine Cc 4 λK hK=>?_
   go_simp;refine HF.out.mono ?_;rintro e w3 ⟨rfl,hb3⟩;have af:=eB hb3 (eP ae);have ag:=eB hb3 (eP a12);have a33:=eB hb3 (eP a32);have ah:=eB hb3 (eP aa);have y23:=eB hb3 (eP y2);have HB3:=dY (eD HB2.out.drew hb3);clear hb3;try go_wp2_with fail
   refine hK.out _ _ (⟨ah,af,ag,a33,y23⟩) (λhH2=>?_);clear hK K;try simp only[Act.put,fG,fB,fC]
   refine iI 7 (.bool true) hH2 ?_;refine iI 8 (.bool true) hH2 ?_;refine iI 9 (.pointer (some ⟨Ba,3,none⟩)) hH2 ?_;refine uf 10 (.int .i64 f) (λW hW=>?_) hH2 ?_
   ·obtain⟨z1,z2,z3,z4,z5⟩:=hW;go_simp
   refine iI 11 (.pointer (some ⟨Ba,0,none⟩)) hH2 ?_;refine iI 12 (.pointer (some ⟨Ba,1,none⟩)) hH2 ?_;refine uf 13 (.int .i64 t) (λW hW=>?_) hH2 ?_
   ·obtain⟨z1,z2,z3,z4,z5⟩:=hW;go_simp
   refine iI 14 (.bool true) hH2 ?_;refine iI 15 (.bool true) hH2 ?_;refine iI 16 (.bool true) hH2 ?_;refine iI 17 (.pointer (some ⟨Ba,0,none⟩)) hH2 ?_;refine iI 18 (.pointer (some ⟨Ba,1,none⟩)) hH2 ?_;refine uf 19 (.int .i64 t) (λW hW=>?_) hH2 ?_
   ·obtain⟨z1,z2,z3,z4,z5⟩:=hW;go_simp
   refine iI 20 (.pointer (some ⟨Bt,0,none⟩)) hH2 ?_;refine uf 21 (.slice (some ⟨b,off,none⟩) N cap) (λW hW=>?_) hH2 ?_
   ·obtain⟨z1,z2,z3,z4,z5⟩:=hW;go_simp
   refine iI 22 (.pointer (some ⟨b,off,none⟩)) hH2 ?_;refine iI 23 (.pointer (some ⟨b,off+2,none⟩)) hH2 ?_;refine uf 24 (.int .i64 y.t) (λW hW=>?_) hH2 ?_
   ·obtain⟨z1,z2,z3,z4,z5⟩:=hW;go_simp
   refine iI 25 (.bool false) hH2 ?_;refine iI 26 (.bool false) hH2 ?_;refine iI 27 (.bool false) hH2 ?_;refine aeW dV ?_ _;go_wp2_with fail
   go_ret;exact⟨rfl,HB3.out⟩
  case pos=>
   have d5:decide (t<=y.t)=true:=kD q5;obtain rfl:R=true:=by rw[hye];simp[q3,q4,q5]
   clear hye q3 q4 q5;go_wp2_with fail
   refine Vl (S:=λwx=>wx.cell? ⟨Bt,0,none⟩=some (.slice (some ⟨b,off,none⟩) N cap)/\wx.cell? ⟨Ba,0,none⟩=some (.int .i64 (i:Int))/\wx.cell? ⟨Ba,1,none⟩=some (.int .i64 t)/\wx.cell? ⟨Ba,3,none⟩=some (.int .i64 f)/\wx.cell? ⟨b,off+2,none⟩=some (.int .i64 y.t)) dV (⟨aa,ae,a12,a32,y2⟩) (λhH=>?_);refine uf 0 (.agg #[.slice (some ⟨b,off,none⟩) N cap]) (λW hW=>?_) hH ?_
   ·obtain⟨z1,z2,z3,z4,z5⟩:=hW;go_simp
   refine iI 1 (.pointer (some ⟨Ba,0,none⟩)) hH ?_;refine iI 2 (.pointer (some ⟨Ba,0,none⟩)) hH ?_;refine uf 3 (.int .i64 (i:Int)) (λW hW=>?_) hH ?_
   ·obtain⟨z1,z2,z3,z4,z5⟩:=hW;go_simp
   refine iI 5 (.pointer (some ⟨Ba,3,none⟩)) hH ?_;refine uf 6 (.int .i64 f) (λW hW=>?_) hH ?_
   ·obtain⟨z1,z2,z3,z4,z5⟩:=hW;go_simp
   refine Cc 4 λK hK=>?_
   go_simp;refine HF.out.mono ?_;rintro e w3 ⟨rfl,hb3⟩;have af:=eB hb3 (eP ae);have ag:=eB hb3 (eP a12);have a33:=eB hb3 (eP a32);have ah:=eB hb3 (eP aa);have y23:=eB hb3 (eP y2);have HB3:=dY (eD HB2.out.drew hb3);clear hb3;try go_wp2_with fail
   refine hK.out _ _ (⟨ah,af,ag,a33,y23⟩) (λhH2=>?_);clear hK K;try simp only[Act.put,fG,fB,fC]
   refine iI 7 (.bool true) hH2 ?_;refine iI 8 (.bool true) hH2 ?_;refine iI 9 (.pointer (some ⟨Ba,3,none⟩)) hH2 ?_;refine uf 10 (.int .i64 f) (λW hW=>?_) hH2 ?_
   ·obtain⟨z1,z2,z3,z4,z5⟩:=hW;go_simp
   refine iI 11 (.pointer (some ⟨Ba,0,none⟩)) hH2 ?_;refine iI 12 (.pointer (some ⟨Ba,1,none⟩)) hH2 ?_;refine uf 13 (.int .i64 t) (λW hW=>?_) hH2 ?_
   ·obtain⟨z1,z2,z3,z4,z5⟩:=hW;go_simp
   refine iI 14 (.bool true) hH2 ?_;refine iI 15 (.bool true) hH2 ?_;refine iI 16 (.bool true) hH2 ?_;refine iI 17 (.pointer (some ⟨Ba,0,none⟩)) hH2 ?_;refine iI 18 (.pointer (some ⟨Ba,1,none⟩)) hH2 ?_;refine uf 19 (.int .i64 t) (λW hW=>?_) hH2 ?_
   ·obtain⟨z1,z2,z3,z4,z5⟩:=hW;go_simp
   refine iI 20 (.pointer (some ⟨Bt,0,none⟩)) hH2 ?_;refine uf 21 (.slice (some ⟨b,off,none⟩) N cap) (λW hW=>?_) hH2 ?_
   ·obtain⟨z1,z2,z3,z4,z5⟩:=hW;go_simp
   refine iI 22 (.pointer (some ⟨b,off,none⟩)) hH2 ?_;refine iI 23 (.pointer (some ⟨b,off+2,none⟩)) hH2 ?_;refine uf 24 (.int .i64 y.t) (λW hW=>?_) hH2 ?_
   ·obtain⟨z1,z2,z3,z4,z5⟩:=hW;go_simp
   refine iI 25 (.bool true) hH2 ?_;refine iI 26 (.bool true) hH2 ?_;refine iI 27 (.bool true) hH2 ?_;refine aeW dV ?_ _;go_wp2_with fail
   go_ret;exact⟨rfl,HB3.out⟩
end
section
open Go.RowKit
open Sq
open Ar
theorem Lc(v:Value)(l:List Nd)(w:World)(h:iC w v l)(hG:Ar.dR l)(hs:l.length<=9000)(hk:∀x∈l,x.ks.length<=9000):
 Calls prog 177 #[.agg #[v],.slice none 0 0] w (Eo l w):=
 MZ .none v l none 0 w h hG hs hk trivial (λk hk=>absurd hk (pK k))
theorem Oj(ch:Ch)(hn:ch.n=1)(v:Value)(l:List Nd)(w:World)(cb:Nat)(h:iC w v l)(hG:Ar.dR l)(hs:l.length<=9000)(hk:∀x∈l,x.ks.length<=9000)(ho:ch.ok l)(hc:w.cell? ⟨cb,0,none⟩=some ch.cell):
 Calls prog 177 #[.agg #[v],.slice (some ⟨cb,0,none⟩) 1 1] w (Eo (ch.res l) w):=by
 have:=MZ ch v l (some ⟨cb,0,none⟩) 1 w h hG hs hk ho (λk hk=>by
  rw[hn]at hk;obtain rfl:k=0:=dS
  exact⟨cb,rfl,hc⟩)
 rw[hn]at this;exact this
end
section
open Go.RowKit
open Sq
open Ar
theorem afO{l:List Nd}{up kind f t:Int}(hm:il l up kind f t=true):∃(i:Nat),up=(i:Int)/\(Ch.add i kind f t).ok l/\addN l up kind f t=((Ch.add i kind f t).res l,(l.length:Int)):=by
 obtain⟨h0,h1,p,hp⟩:=yY hm;obtain⟨i,rfl⟩:∃i:Nat,up=(i:Int):=⟨up.toNat,dS⟩
 have hf:=(J7 hm hp).1;have hp2:=hp;rw[jd]at hp2;refine⟨i,rfl,⟨p,hp2,hf⟩,?_⟩;unfold addN;rw[dX hm,hp];simp only[Ch.res,hp2,LW,jd]
def CX(R:List Nd×Int)(w:World)(e:Ending)(w':World):Prop:=
 ∃u,e=.returned (.tuple #[.agg #[u],.int .i64 R.2])/\iC w' u R.1/\(∃L,L.map Ln.nd=R.1/\PT w' w.heap.size u L)/\Below w.heap.size w w'
theorem ahi:∀(v:Value)(l:List Nd)(up kind f t:Int)(w:World),iC w v l->Ar.dR l->l.length<=4000->(∀x∈l,x.ks.length<=4000)->
 Calls prog 159 #[.agg #[v],.int .i64 up,.int .i64 kind,.int .i64 f,.int .i64 t] w (CX (addN l up kind f t) w):=by
 intro v l up kind f t w h hG hs hk;obtain⟨a,cap,rfl⟩:=h.shape;obtain⟨R,hR⟩:=eu (addN l up kind f t);have HX:=dY (λW (hb:Below w.heap.size w W)=>h.below hb);have ai:=dY (λW (hb:Below w.heap.size w W)=>Lc _ l W (h.below hb) hG dS (λx hx=>iU (hk x hx) dS));have ax:=dY (fun(k:Nat) W cb (ho:(Ch.add k kind f t).ok l)(hb:Below w.heap.size w W)(hc:W.cell? ⟨cb,0,none⟩=some (Ch.add k kind f t).cell)=>Oj (.add k kind f t) rfl _ l W cb (h.below hb) hG dS (λx hx=>iU (hk x hx) dS) ho hc);have aj:=dY (λW (hb:Below w.heap.size w W)=>akR _ l up kind f t W (h.below hb) hG dS (λx hx=>iU (hk x hx) dS));have aa:=λhm=>afO (l:=l) (up:=up) (kind:=kind) (f:=f) (t:=t) hm
 have hno:il l up kind f t=false->addN l up kind f t=(l,-1):=λe=>by unfold addN;rw[e];rfl
 obtain⟨M,hM⟩:=eu (il l up kind f t);rw[hM]at aj aa hno;rw[hR]at aa hno⊢;have HQ:=dY (λu z w'=>show(R.2=z/\iC w' u R.1/\(∃L,L.map Ln.nd=R.1/\PT w' w.heap.size u L)/\Below w.heap.size w w')->CX R w (.returned (.tuple #[.agg #[u],.int .i64 z])) w' from λh=>⟨u,by rw[h.1],h.2⟩);obtain⟨Q,hQ⟩:=eu (CX R w);rw[hQ]at HQ⊢;obtain⟨N,hN⟩:=eu (l.length);rw[hN]at HX ai ax aj aa hs⊢;obtain⟨HN,ae,ak⟩:=je hN aa hno;obtain⟨w1,hw1⟩:=eu ((w.alloc (.cells #[.slice a N cap] 31)).alloc (.cells #[.slice none 0 0] 31));obtain⟨Bt,pW⟩:=eu (w.heap.size);obtain⟨Br,hBr⟩:=eu (w.heap.size+1);have hb1:=gD (dZ w (.cells #[.slice a N cap] 31)) (.cells #[.slice none 0 0] 31);have ct:w1.cell? ⟨Bt,0,none⟩=some (.slice a N cap):=yQ
 have cr:Lt w1 Br 0 (.slice none 0 0):=QA
 rw[hw1]at hb1;obtain⟨Ba,hBa⟩:=eu (w1.heap.size);obtain⟨w2,hw2⟩:=eu (w1.alloc (.cells #[.int .i64 up,.int .i64 t,.int .i64 kind,.int .i64 f] 188));have hb2:Below w1.heap.size w1 w2:=hw2▸dZ w1 _;have ay:=eB hb2 ct;have az:=jK hb2 cr;have a0:w2.cell? ⟨Ba,0,none⟩=some (.int .i64 up):=Jr
 have a1:w2.cell? ⟨Ba,1,none⟩=some (.int .i64 t):=Jr
 have a2:w2.cell? ⟨Ba,2,none⟩=some (.int .i64 kind):=Jr
 have a3:w2.cell? ⟨Ba,3,none⟩=some (.int .i64 f):=Jr
 have hn1:Br≠Bt:=dS
 have hn2:Br≠Ba:=by have h9:Br<w1.heap.size:=lt_of_cell cr.1;omega
 obtain⟨HB2,aA⟩:=fw (eD hb1 hb2) az;have aG:=dY (aj.out w2 (eD hb1 hb2));obtain⟨HW1,rJ,ng,HW2,yn⟩:=vV hw1 pW hBr hw2 hBa;have hwr:w.heap.size<=Br:=dS
 clear h hG hk hR hQ hN hM aa hno hw1 pW hBr hb1 cr hBa hw2 hb2 az ct aj
 go_enter func159,ntmps159
 go_upto_region 1 with fail
 rw[HW1.out,ng.out,rJ.out];clear HW1 ng rJ;go_upto_region 2 with fail
 rw[HW2.out,yn.out];clear HW2 yn;go_wp2_with fail
 refine aG.out.mono ?_;rintro e w3 ⟨rfl,hb3⟩;have aB:=eB hb3 ay;have aC:=eB hb3 a0;have aD:=eB hb3 a1;have a23:=eB hb3 a2;have a33:=eB hb3 a3;obtain⟨af,HB3⟩:=fw (jK hb3 aA.out) (eD HB2.out hb3);clear hb3 ay a0 a1 a2 a3;cases M with
 |false=>
  have hr:=ak.out rfl;have aF:=dY (ai.out w3 HB3.out);clear ai ae;go_wp2_with fail
  refine aF.out.mono ?_;rintro e w4 ⟨u,rfl,hn,⟨Lp,ag,tQ⟩,hb⟩;obtain⟨ua,uc,rfl⟩:=hn.shape;rw[HN.out]at hn tQ⊢;have hc:=jK hb af.out;have ah:=hc.1;have aH:=hc.2;have HD:=dY (HQ.out (.slice ua N uc) (-1) _ ⟨by rw[hr],by rw[hr];exact hn.set ah (.slice ua N uc),⟨Lp,by rw[hr];exact ag,(tQ.y8 (lt_of_cell af.out.1) _).base HB3.out.size⟩,(eD HB3.out hb).setCell (p:=⟨Br,0,none⟩) hwr _⟩);clear hn hb hc hr ag tQ;go_wp2_with fail
  refine vK (v:=.tuple #[.agg #[.slice ua N uc],.int .i64 (-1)]) ?_ rfl HD.out;simp[results,results159,go_sem,ah,ig]
 |true=>
  obtain⟨i,rfl,hok,hr⟩:=ae.out rfl;have hcall:=ax.out i (w3.drew.alloc (.cells #[.iface 188 (.agg #[.int .i64 i,.int .i64 t,.int .i64 kind,.int .i64 f])] 20)) w3.heap.size hok (gD HB3.out.drew _) (at_new (W:=w3.drew) rfl);have Gp:=dY hcall;have qQ:=dY (gD HB3.out.drew (.cells #[.iface 188 (.agg #[.int .i64 i,.int .i64 t,.int .i64 kind,.int .i64 f])] 20));have av:=dY (VK (o:=.cells #[.iface 188 (.agg #[.int .i64 i,.int .i64 t,.int .i64 kind,.int .i64 f])] 20) (ab9 af.out));have HR:=dY hr;have b0:=λo=>iL (o:=o) (eP aC)
  have b1:=λo=>iL (o:=o) (eP aD)
  have b2:=λo=>iL (o:=o) (eP a23)
  have b3:=λo=>iL (o:=o) (eP a33)
  have bt:=λo=>iL (o:=o) (eP aB)
  have HB0:=dY (And.intro bt (And.intro b0 (And.intro b1 (And.intro b2 b3))));clear hcall hok hr ai ax ae ak b0 b1 b2 b3 bt;go_wp2_with fail
  refine Vl (S:=λwx=>wx.cell? ⟨Bt,0,none⟩=some (.slice a N cap)/\wx.cell? ⟨Ba,0,none⟩=some (.int .i64 (i:Int))/\wx.cell? ⟨Ba,1,none⟩=some (.int .i64 t)/\wx.cell? ⟨Ba,2,none⟩=some (.int .i64 kind)/\wx.cell? ⟨Ba,3,none⟩=some (.int .i64 f)) dV (⟨aB,aC,aD,a23,a33⟩) (λhH=>?_);refine uf 0 (.agg #[.slice a N cap]) (λW hW=>?_) hH ?_
  ·obtain⟨z1,z2,z3,z4,z5⟩:=hW;go_simp
  refine uf 1 (.agg #[.int .i64 (i:Int),.int .i64 t,.int .i64 kind,.int .i64 f]) (λW hW=>?_) hH ?_
  ·obtain⟨z1,z2,z3,z4,z5⟩:=hW;go_simp
  refine iI 2 (.iface 188 (.agg #[.int .i64 (i:Int),.int .i64 t,.int .i64 kind,.int .i64 f])) hH ?_;refine iI 5 (.pointer (some ⟨Bt,0,none⟩)) hH ?_;refine uf 6 (.slice a N cap) (λW hW=>?_) hH ?_
  ·obtain⟨z1,z2,z3,z4,z5⟩:=hW;go_simp
  refine iI 7 (.int .i64 (N:Int)) hH ?_;refine Cc 3 λK hK=>?_
  go_simp;refine hK.out _ _ (⟨HB0.out.1 _,HB0.out.2.1 _,HB0.out.2.2.1 _,HB0.out.2.2.2.1 _,HB0.out.2.2.2.2 _⟩) (λhH2=>?_);clear hK K;try simp only[Act.put,fG,fB,fC]
  refine Cc 4 λK hK=>?_
  go_simp;refine Gp.out.mono ?_;rintro e w4 ⟨u,rfl,hn,⟨Lp,ag,tQ⟩,hb⟩;obtain⟨ua,uc,rfl⟩:=hn.shape;obtain⟨un,hun⟩:=eu (((Ch.add i kind f t).res l).length);rw[hun]at hn tQ⊢;clear hun;have aI:=dY hn;have hc:=jK hb av.out;have ah:=hc.1;have aH:=hc.2;have d0:=eB hb (HB0.out.2.1 _);have d1:=eB hb (HB0.out.2.2.1 _);have d2:=eB hb (HB0.out.2.2.2.1 _);have d3:=eB hb (HB0.out.2.2.2.2 _);have dt:=eB hb (HB0.out.1 _);obtain⟨tY,Gb,aJ⟩:=je (eD qQ.out hb) tQ ag;clear hb hn hc tQ ag;try go_wp2_with fail
  refine hK.out _ _ (⟨dt,d0,d1,d2,d3⟩) (λhH2=>?_);clear hK K;try simp only[Act.put,fG,fB,fC]
  refine Cc 8 λK hK=>?_
  go_simp;refine hK.out _ _ (⟨mQ hn1 dt,mQ hn2 d0,mQ hn2 d1,mQ hn2 d2,mQ hn2 d3⟩) (λhH2=>?_);clear hK K;try simp only[Act.put,fG,fB,fC]
  refine iI 9 (.int .i64 (N:Int)) hH2 ?_;refine aeW dV ?_ _;have HD:=dY (HQ.out (.slice ua un uc) (N:Int) (w4.setCell ⟨Br,0,none⟩ (.slice ua un uc)) ⟨by rw[HR.out],by rw[HR.out];exact aI.out.set ah (.slice ua un uc),⟨Lp,by rw[HR.out];exact aJ.out,(Gb.out.y8 (lt_of_cell av.out.1) _).base qQ.out.size⟩,tY.out.setCell (p:=⟨Br,0,none⟩) hwr _⟩);clear hH hH2;go_wp2_with fail
  refine vK (v:=.tuple #[.agg #[.slice ua un uc],.int .i64 (N:Int)]) ?_ rfl HD.out;simp[results,results159,go_sem,ah,ig]
theorem akS:∀(v:Value)(l:List Nd)(up kind f t:Int)(w:World),iC w v l->Ar.dR l->l.length<=4000->(∀x∈l,x.ks.length<=4000)->
 Calls prog 159 #[.agg #[v],.int .i64 up,.int .i64 kind,.int .i64 f,.int .i64 t] w (aiZ false (addN l up kind f t) w):=λv l up kind f t w h hG hs hk=>
 (ahi v l up kind f t w h hG hs hk).mono (λe w' ⟨u,h1,h2,_,h4⟩=>⟨u,h1,h2,λe=>absurd e dU,h4⟩)
end
end Go.Proofs.YtmkkdjpebbdikaaGreatDoor

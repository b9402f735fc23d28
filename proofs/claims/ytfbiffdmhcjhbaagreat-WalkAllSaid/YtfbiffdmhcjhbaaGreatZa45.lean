import Derived.Test.YtfbiffdmhcjhbaaGreatZa41
import Derived.Test.YtfbiffdmhcjhbaaGreatZa44
set_option linter.all false
set_option maxHeartbeats 16000000
set_option maxRecDepth 100000
set_option synthInstance.maxSize 4000
set_option synthInstance.maxHeartbeats 0
namespace Go.Proofs.YtfbiffdmhcjhbaaGreat
open Go.RowKit Tryz
section
open Go.RowKit
open Sg
open Sq
open Ar
open Fl (Tk)
theorem Lg{W:World}{tb:Nat}{a:Option Addr}{n c:Nat}{u:Value}{l:List Tk}(h:Reads iZ W u l)(hc:W.cell? ⟨tb,0,none⟩=some (.slice a n c))(v:Value):Reads iZ (W.setCell ⟨tb,0,none⟩ v) u l:=by
 rcases h with h2|⟨b,off,cap,e1,e2,e3,e4⟩
 ·exact .inl h2
 refine .inr ⟨b,off,cap,e1,e2,e3,λj x hj i w hw=>uC hc v _ _ (e4 j x hj i w hw) (λe a n c=>?_)⟩;have h0:off+j*iZ.k+i=0:=by injection e
 have hi:i=0:=by omega
 subst hi;have hx:(iZ.cells x)[0]?=some (.int .i64 x.1):=rfl;rw[hx]at hw;obtain rfl:=jF hw;intro e;cases e
theorem D3:prog.eqGuardType prog.depth 44=false:=by kernel_rfl
theorem Lh(a b:Nat)(w:World):(binOp .neq 44 (.agg #[.int .i64 (a:Nat),.int .i64 (b:Nat)]) (.agg #[.int .i64 (a:Nat),.int .i64 (b:Nat)])).run prog w=.ok (.bool false) w:=by
 have u3:=underlying3;have hS:prog.underlying 44=some (.struct (prog.fieldsOf 44)):=by kernel_rfl
 have hp:prog.stoodInHeld 44=false:=by kernel_rfl
 rw[run_neq_struct,show(10000:Nat)=9999+1 from rfl,OV w 9999 44 _ _ hS hp];simp only[Program.fieldsOf,underlying44];go_simp
def Rl(w:World)(ib k:Nat):Prop:=∃(a:Option Addr)(c:Nat)(S:ByteArray),S.size<=600/\∀W,Below w.heap.size w W->W.cell? ⟨ib,k,none⟩=some (.slice a S.size c)/\ou W (.slice a S.size c) S
def IG(w0 w:World)(bt:Nat)(ta na:Option Addr)(tc nc:Nat)(l:List Tk)(T:List Nd):Prop:=Reads iZ w (.slice ta l.length tc) l/\iR w (.slice na T.length nc) T/\w.cell? ⟨bt,0,none⟩=some (.slice na T.length nc)/\Below w0.heap.size w0 w
theorem Aj(v0:Value)(l0:List Int)(v1:Value)(l1:List Int)(v2:Value)(s2:ByteArray)(NT ax:Int)(w:World)(h0:rX .i64 w v0 l0)(h1:rX .i64 w v1 l1)(h2:ou w v2 s2)(_:(Lit.int .i64 NT).wf=true)(_:(Lit.int .i64 ax).wf=true):
 Calls prog 3 #[v0,v1,v2,.int .i64 NT,.int .i64 ax] w λe w'=>e=.returned (.bool true)/\Below w.heap.size w w':=by
 obtain⟨Q,hQ⟩:=eX ((λe (w':World)=>e=Ending.returned (.bool true)/\Below w.heap.size w w'));have HQ:=eu (λw' (h:Below w.heap.size w w')=>show Q (.returned (.bool true)) w' from by rw[<-hQ];exact⟨rfl,h⟩);rw[hQ];have HK:=eu (λW=>NP W);have bq:=eu (λW (hW:Below w.heap.size w W)=>KV v0 l0 v2 s2 W (h0.below hW) (h2.below hW));have bz:=eu (λW (hW:Below w.heap.size w W)=>F9 v1 l1 W (h1.below hW));obtain⟨m,hm,-,bA⟩:=Ho ax 12 12 rfl (by decide) (by decide);have bV:=eu bA;obtain⟨d,hd⟩:=eX (m+1);have e1:IntKind.i64.wrap ((1:Int)+(m:Int))=(d:Int):=by rw[jC _ (by omega)];omega
 have HE:=eu e1;have hd1:1<=d:=by omega
 have hd2:d<=50:=by omega
 clear hQ h0 h1 h2 bA e1 hd hm
 go_enter func3,ntmps3
 go_wp2_with fail
 refine(HK.out w).mono ?_;rintro e w1 ⟨rfl,hb1⟩;have HB1:=eu hb1;clear HK hb1;go_wp2_with fail
 refine(bq.out w1 HB1.out).mono ?_;rintro e w2 ⟨va,Sa,rfl,hBa,bW,hb2⟩;have HB2:=eu (eU HB1.out hb2);obtain⟨aa,ca,rfl⟩:=hBa.shape;have bB:=eu hBa;clear hb2 bq hBa;go_wp2_with fail
 refine(bz.out w2 HB2.out).mono ?_;rintro e w3 ⟨vb,Sb,rfl,hBb,hSb,-,hb3⟩;obtain⟨HB3,aG⟩:=fD (eU HB2.out hb3) (bB.out.below hb3);obtain⟨ab,cb,rfl⟩:=hBb.shape;have bC:=eu hBb;clear hb3 bz hBb bB;obtain⟨ib,hib⟩:∃b,w3.heap.size=b:=⟨_,rfl⟩
 obtain⟨w4,hw4⟩:=eX (w3.alloc (.cells #[.slice aa Sa.size ca,.slice ab Sb.size cb] 23));have hrow:w4.heap[ib]?=some (.cells #[.slice aa Sa.size ca,.slice ab Sb.size cb] 23 (0,0)):=by rw[<-hw4,<-hib];exact qj _ _
 have hb4:Below w3.heap.size w3 w4:=hw4▸eZ w3 _
 have bD:=eu (show∀k,k<2->Rl w4 ib k from λk hk=>by
  have key:∀W,Below w4.heap.size w4 W->W.heap[ib]?=some (.cells #[.slice aa Sa.size ca,.slice ab Sb.size cb] 23 (0,0)):=λW hW=>(hW.block ib (kg hrow)).trans hrow
  match k,hk with
  |0,_=>exact⟨_,_,Sa,by omega,λW hW=>⟨gQ (key W hW) 0,(aG.out.below hb4).below hW⟩⟩
  |1,_=>exact⟨_,_,Sb,by omega,λW hW=>⟨gQ (key W hW) 1,(bC.out.below hb4).below hW⟩⟩)
 obtain⟨bX,bE,bY⟩:=gW (eU HB3.out hb4) hw4 hib;clear hrow hb4 hw4 hib bW hSb aG bC HB3 HB2 HB1;go_upto_region 4 with fail
 rw[bY.out,bE.out];clear bE;go_wp2_with fail
 go_loopw [12] (λiv wr=>∃(k:Nat),iv=.int .i64 k/\k<=2/\Hid (Below w4.heap.size w4 wr)) (λiv _=>2-(intOf iv).toNat)
 case atStart=>exact⟨0,rfl,by omega,eu (fu _ _)⟩
 case round=>
  obtain⟨k,rfl,hk,HB⟩:=hrel;by_cases hlt:k<2
  ·obtain⟨ia,ic,S,hSz,hS⟩:=bD.out k hlt;obtain⟨z,hz⟩:=eX (S.size);have ay:S.size<=16384:=by omega
   have HT:=eu (λW (hW:Below w4.heap.size w4 W)=>Ob W _ S d (hS W hW).2 ay hd1 hd2);have htr:=Oa S d ay hd1 hd2;obtain⟨l,hl⟩:=eX (Sc.tokens (Sc.fP S));obtain⟨T,hT⟩:=eX ((Ps.tree (Sc.fP S) d).2.1);rw[hl,hT]at HT htr;have az:=eu (λW (hW:Below w4.heap.size w4 W)=>(hS W hW).1);rw[hz]at az HT;have hsz:=htr.sz;have hln:=htr.len;have hpos:=htr.ck.pos;have ah:=eu htr;obtain⟨NL,aV⟩:=eX (l.length);obtain⟨NN,aW⟩:=eX (T.length);obtain⟨ag,af⟩:=fD aV aW;rw[aV,aW]at HT;have dP:z<=600:=by omega
   have dN:NL<=600:=by omega
   have dO:NN<=3001:=by omega
   have k0:=az.out wr HB.out;have e1:=HE.out;have gk:(k:Int)<2:=by omega
   clear hS htr hl hT aV aW hsz hln hpos hz hSz ay;go_upto_region 7 with fail
   go_cut [13,14,15] (λx y u wx=>∃bt ta tc na nc,x=.slice ta NL tc/\y=.pointer (some ⟨bt,0,none⟩)/\Hid (IG wr wx bt ta na tc nc l T))
   case first=>
    refine fB (λwx=>∀p v,wr.cell? p=some v->wx.cell? p=some v) 14 (by kernel_rfl) ?_;have hH:(λwx:World=>∀p v,wr.cell? p=some v->wx.cell? p=some v) wr.drew:=λp v h=>h
    refine fw 0 (.slice (some ⟨ib,0,none⟩) 2 2) rfl (by kernel_rfl) rfl eY (λW hW=>by go_simp) hH ?_;refine fw 1 (.int .i64 (k:Int)) rfl (by kernel_rfl) rfl eY (λW hW=>by go_simp) hH ?_;refine fw 2 (.pointer (some ⟨ib,k,none⟩)) rfl (by kernel_rfl) rfl eY (λW hW=>by go_simp) hH ?_;refine fw 3 (.slice ia z ic) rfl (by kernel_rfl) rfl eY (λW hW=>?_) hH ?_
    ·have z0:=hW _ _ k0;clear hW;go_simp
    refine fw 4 (.int .i64 ax) rfl (by kernel_rfl) rfl eY (λW hW=>by go_simp) hH ?_;refine oq (i:=5) (oi:=⟨_,_,_,_,_,_⟩) (v:=.int .i64 (m:Nat)) rfl (by kernel_rfl) (by kernel_rfl) (by kernel_rfl) (by kernel_rfl) (by kernel_rfl) eY (Or.inl ⟨rfl,λW hW=>?_⟩) hH ?_
    ·refine fZ.zG (f:=8) (args:=#[.int .i64 ax,.int .i64 12]) ?_ ?_
     ·go_simp
     exact bV.out _
    try simp only[Act.put,fF,fH,fG]
    refine fw 6 (.int .i64 (d:Nat)) rfl (by kernel_rfl) rfl eY (λW hW=>by go_simp) hH ?_;refine uh (rs:=[7,12]) (by kernel_rfl) (by simp) ?_;refine jH.cons (o:=⟨_,_,_,_,_,_⟩) rfl (λK hK=>?_) (jH.cons (o:=⟨_,_,_,_,_,_⟩) rfl (λK hK=>?_) (jH.nil))
    ·go_simp;refine(HT.out wr.drew (eU HB.out (fu wr.heap.size wr).drew)).mono ?_;rintro e wt ⟨ta,tc,na,nc,dv,rfl,hR,hN,hbt⟩;have hbw:=eU (fu wr.heap.size wr).drew hbt;refine hK.out _ _ (λ_=>λp v h=>fe hbw h) (λhH2=>?_);clear hK K;replace hH:=hH2 (by kernel_rfl);clear hH2;try simp only[Act.put,fF,fH,fG]
     refine fw 8 (.tuple #[.slice ta NL tc,.agg #[.slice na NN nc],dv]) rfl (by kernel_rfl) rfl eY (λW hW=>by go_simp) hH ?_;refine fw 9 (.slice ta NL tc) rfl (by kernel_rfl) rfl eY (λW hW=>by go_simp) hH ?_;refine fw 10 (.agg #[.slice na NN nc]) rfl (by kernel_rfl) rfl eY (λW hW=>by go_simp) hH ?_;refine fM 11 dv rfl (by kernel_rfl) rfl eY (λW=>by go_simp) (λ_=>hH) ?_;refine iD 12 (by kernel_rfl) rfl λK hK=>?_
     obtain⟨bt,hbb⟩:∃b,wt.heap.size=b:=⟨_,rfl⟩
     obtain⟨wu,ak⟩:∃w,wt.alloc (.cells #[.slice none 0 0] 31)=w:=⟨_,rfl⟩
     have hbu:Below wt.heap.size wt wu:=ak▸eZ wt _;have hx:wu.heap[bt]?=some (.cells #[.slice none 0 0] 31 (0,0)):=by rw[<-ak,<-hbb];exact qj _ _
     have hbv:=eU hbw hbu;have hle:wr.heap.size<=bt:=by rw[<-hbb];exact hbw.size
     have hR2:=hR.below hbu;have dQ:=hN.below hbu;have hlb:wt.heap.size<=bt:=by omega
     go_simp;try rw[ak]
     try rw[hbb]
     refine hK.out _ _ (λ_=>λp v h=>fe hbv h) (λhH2=>?_);clear hK K;replace hH:=hH2 (by kernel_rfl);clear hH2;try simp only[Act.put,fF,fH,fG]
     refine fw 13 (.slice ta NL tc) rfl (by kernel_rfl) rfl eY (λW hW=>by go_simp) hH ?_;refine iD 14 (by kernel_rfl) rfl λK hK=>?_
     have aX:=(gQ hx 0).trans rfl;have aY:=rW hx 0;have hs1:=(gQ (mr (i:=0) hx (.slice na NN nc)) 0).trans rfl;have hs2:Below wr.heap.size wr (wu.setCell ⟨bt,0,none⟩ (.slice na NN nc)):=hbv.setCell (p:=⟨bt,0,none⟩) hle _;have ae:Below wt.heap.size wt (wu.setCell ⟨bt,0,none⟩ (.slice na NN nc)):=hbu.setCell (p:=⟨bt,0,none⟩) hlb _;have aA:=hR.below ae;have aB:=hN.below ae;have hend:=eu (show IG wr (wu.setCell ⟨bt,0,none⟩ (.slice na NN nc)) bt ta na tc nc l T from⟨by rw[ag.out];exact aA,by rw[af.out];exact aB,by rw[af.out];exact hs1,hs2⟩);clear hs1 hs2 aA aB ae;go_simp;refine hK.out _ _ (jg (by kernel_rfl)) (λ_=>?_);clear hK K;try simp only[Act.put,fF,fH,fG]
     refine fM 15 dv rfl (by kernel_rfl) rfl eY (λW=>by go_simp) (jg (by kernel_rfl)) ?_;clear aX aY;refine fA (by kernel_rfl) ?_ _;go_wp2_with fail
     go_meet
     exact⟨bt,ta,tc,na,nc,rfl,rfl,hend⟩
    obtain⟨bt,hbb⟩:∃b,wr.heap.size=b:=⟨_,rfl⟩
    obtain⟨wu,ak⟩:∃w,(wr.alloc (.cells #[.slice none 0 0] 31)).drew=w:=⟨_,rfl⟩
    have hbu:Below wr.heap.size wr wu:=ak▸(eZ wr _).drew;have hx0:wu.heap[bt]?=some (.cells #[.slice none 0 0] 31 (0,0)):=by rw[<-ak,<-hbb];exact qj wr _
    have hle:wr.heap.size<=bt:=by rw[<-hbb];exact fC _
    go_simp;try rw[ak]
    try rw[hbb]
    refine hK.out _ _ (λ_=>λp v h=>fe hbu h) (λhH2=>?_);clear hK K;replace hH:=hH2 (by kernel_rfl);clear hH2;try simp only[Act.put,fF,fH,fG]
    refine iD 7 (by kernel_rfl) rfl λK hK=>?_
    go_simp;refine(HT.out wu (eU HB.out hbu)).mono ?_;rintro e wt ⟨ta,tc,na,nc,dv,rfl,hR,hN,hbt⟩;have hbw:=eU hbu hbt;have hx:=(hbt.block _ (kg hx0)).trans hx0;refine hK.out _ _ (λ_=>λp v h=>fe hbw h) (λhH2=>?_);clear hK K;replace hH:=hH2 (by kernel_rfl);clear hH2;try simp only[Act.put,fF,fH,fG]
    refine fw 8 (.tuple #[.slice ta NL tc,.agg #[.slice na NN nc],dv]) rfl (by kernel_rfl) rfl eY (λW hW=>by go_simp) hH ?_;refine fw 9 (.slice ta NL tc) rfl (by kernel_rfl) rfl eY (λW hW=>by go_simp) hH ?_;refine fw 10 (.agg #[.slice na NN nc]) rfl (by kernel_rfl) rfl eY (λW hW=>by go_simp) hH ?_;refine fM 11 dv rfl (by kernel_rfl) rfl eY (λW=>by go_simp) (λ_=>hH) ?_;refine fw 13 (.slice ta NL tc) rfl (by kernel_rfl) rfl eY (λW hW=>by go_simp) hH ?_;refine iD 14 (by kernel_rfl) rfl λK hK=>?_
    have aX:=(gQ hx 0).trans rfl;have aY:=rW hx 0;have hs1:=(gQ (mr (i:=0) hx (.slice na NN nc)) 0).trans rfl;have hs2:Below wr.heap.size wr (wt.setCell ⟨bt,0,none⟩ (.slice na NN nc)):=hbw.setCell (p:=⟨bt,0,none⟩) hle _;have ae:True:=trivial;have aA:Reads iZ (wt.setCell ⟨bt,0,none⟩ (.slice na NN nc)) (.slice ta NL tc) l:=Lg hR ((gQ hx 0).trans rfl) _;have aB:iR (wt.setCell ⟨bt,0,none⟩ (.slice na NN nc)) (.slice na NN nc) T:=iR.set hN ((gQ hx 0).trans rfl) _;have hend:=eu (show IG wr (wt.setCell ⟨bt,0,none⟩ (.slice na NN nc)) bt ta na tc nc l T from⟨by rw[ag.out];exact aA,by rw[af.out];exact aB,by rw[af.out];exact hs1,hs2⟩);clear hs1 hs2 aA aB ae;go_simp;refine hK.out _ _ (jg (by kernel_rfl)) (λ_=>?_);clear hK K;try simp only[Act.put,fF,fH,fG]
    refine fM 15 dv rfl (by kernel_rfl) rfl eY (λW=>by go_simp) (jg (by kernel_rfl)) ?_;clear aX aY;refine fA (by kernel_rfl) ?_ _;go_wp2_with fail
    go_meet
    exact⟨bt,ta,tc,na,nc,rfl,rfl,hend⟩
   case rest=>
    obtain⟨bt,ta,tc,na,nc,rfl,rfl,hend⟩:=hcut
    rename World=>w5
    obtain⟨hR,hN,c5,hb5⟩:=hend.out;rw[af.out]at c5;obtain⟨bZ,aC,aZ,bF⟩:=jk (eU HB.out hb5) hR hN c5;rw[ag.out]at aC;rw[af.out]at aZ;clear hend hR hN hb5 k0 e1;go_wp2_with fail
    refine(Da na NN nc w5).mono ?_;rintro e w6 ⟨rfl,hb6⟩;obtain⟨bo,bf⟩:=eX (w6.heap.size);obtain⟨w7,hw7⟩:=eX (w6.alloc (.cells #[.slice na NN nc] 36));have bG:Below w6.heap.size w6 w7:=hw7▸eZ w6 _;have o7:w7.cell? ⟨bo,0,none⟩=some (.slice na NN nc):=by rw[<-hw7,<-bf];exact at_new rfl
    have ai:=eU hb6 bG;have c7:=fe ai bF.out;have bH:=eu (eU bZ.out ai);have HO:=eu (λW (hW:Below w7.heap.size w7 W)=>fe hW o7);have HC:=eu (λW (hW:Below w7.heap.size w7 W)=>fe hW c7);have HI:=eu (λW (hW:Below w7.heap.size w7 W)=>az.out W (eU bH.out hW));have HR:=eu (λW (hW:Below w7.heap.size w7 W)=>(aC.out.below ai).below hW);have HN:=eu (λW (hW:Below w7.heap.size w7 W)=>(aZ.out.below ai).below hW);have bI:=eu (λW (hW:Below w7.heap.size w7 W) a=>RO W (.slice ta NL tc) (.slice na NN nc) l 0 T a (HR.out W hW) ah.out.O4 (by rw[ag.out];omega) (HN.out W hW) (by rw[af.out];omega));have aH:=eu (λW (hW:Below w7.heap.size w7 W) a=>RX W (.slice ta NL tc) (.slice na NN nc) l 0 T a (HR.out W hW) ah.out.O4 (by rw[ag.out];omega) (HN.out W hW) ah.out.ck (by rw[af.out];omega));have cr:=eu (λW (hW:Below w7.heap.size w7 W) i (hi:-1000000<=i)=>Rj W (.slice na NN nc) T i (HN.out W hW) ah.out.ck.good (by rw[af.out];omega) hi);have bJ:=eu (λW (hW:Below w7.heap.size w7 W) i=>Rk W (.slice na NN nc) T i (HN.out W hW) ah.out.ck.good (by rw[af.out];omega));have cz:=eu (λi=>show(Wk.kW T i).reverse.length<=1000000 from by have h:=zZ ah.out.ck.good i;rw[af.out]at h;rw[iI];omega);have cB:=eu (λW kv k u y (f t:Nat)(hW:Below w7.heap.size w7 W)(h1:f<=t)(h2:t<=NL)=>P5 W (.slice ta NL tc) kv l k u f t y (HR.out W hW) (by rw[ag.out];omega) h1 (by rw[ag.out];exact h2));have bK:=eu (λW kv k u y (f t:Nat)(hW:Below w7.heap.size w7 W)(h1:f<=t)(h2:t<=NL)=>Qa W (.slice ta NL tc) kv l k u f t y (HR.out W hW) (by rw[ag.out];omega) h1 (by rw[ag.out];exact h2))
    have cK:=eu (λW (hW:Below w7.heap.size w7 W) i x (hi:T[i]?=some x)=>by
     have h:=HN.out W hW;rw[<-af.out]at h
     exact h.at_ i x hi)
    obtain⟨bL,cO⟩:=fD hw7 bf;clear c5 hb6 hw7 bf bG ai o7 c7 aC aZ bF HT;go_upto_region 9 with fail
    rw[cO.out,bL.out];clear bL;go_wp2_with fail
    go_loopw [17] (λiv wx=>∃(i:Int),iv=.int .i64 i/\-1<=i/\i<=(z:Int)+1/\Hid (Below w7.heap.size w7 wx)) (λiv _=>((z:Int)+1-intOf iv).toNat)
    case atStart=>exact⟨-1,rfl,by omega,by omega,eu (fu _ _)⟩
    case round=>
     rename World=>wx
     obtain⟨i,rfl,hi1,hi2,HX⟩:=hrel;have c0:=HI.out wx HX.out;by_cases hlt2:i<=(z:Int)
     ·have k0:=HO.out wx HX.out;have k1:=HC.out wx HX.out;have HA1:=eu (bI.out wx.drew HX.out.drew i);have n0:(Wk.Ak l T i==Wk.Ak l T i)=true:=by simp
      have n1:(Wk.Ak l T i !=Wk.Ak l T i)=false:=by simp
      obtain⟨A,hA⟩:=eX (Wk.Ak l T i);have aF:=eu hA;rw[hA]at n0 n1 HA1;clear hA;go_upto_region 12 with fail
      refine fB (λwy=>∀p v,wx.cell? p=some v->wy.cell? p=some v) 8 (by kernel_rfl) ?_;have hH:(λwy:World=>∀p v,wx.cell? p=some v->wy.cell? p=some v) wx.drew:=λp v h=>h
      refine fM 0 (.slice ta NL tc) rfl (by kernel_rfl) rfl eY (λW=>by go_simp) (λ_=>hH) ?_;refine Qc 3 1 (.agg #[.slice na NN nc]) rfl (by kernel_rfl) rfl eY (λW hW=>?_) hH ?_
      ·have z0:=hW _ _ k0;have z1:=hW _ _ k1;clear hW;go_simp
      refine fM 2 (.int .i64 i) rfl (by kernel_rfl) rfl eY (λW=>by go_simp) (λ_=>hH) ?_;refine fM 4 (.slice ta NL tc) rfl (by kernel_rfl) rfl eY (λW=>by go_simp) (λ_=>hH) ?_;refine Qc 7 5 (.agg #[.slice na NN nc]) rfl (by kernel_rfl) rfl eY (λW hW=>?_) hH ?_
      ·have z0:=hW _ _ k0;have z1:=hW _ _ k1;clear hW;go_simp
      refine fM 6 (.int .i64 i) rfl (by kernel_rfl) rfl eY (λW=>by go_simp) (λ_=>hH) ?_;refine iD 3 (by kernel_rfl) rfl λK hK=>?_
      go_simp;refine HA1.out.mono ?_;rintro e5 w5 ⟨rfl,hb5⟩;have aD:=eU HX.out.drew hb5;have HA2:=eu (aH.out w5 aD i);rw[aF.out]at HA2;have cZ:=eu aD;have aj:=eu (eU (fu wx.heap.size wx).drew hb5);clear hb5 aD;refine hK.out _ _ (λ_=>λp v h=>fe aj.out h) (λhH2=>?_);clear hK K;replace hH:=hH2 (by kernel_rfl);clear hH2;try simp only[Act.put,fF,fH,fG]
      refine iD 7 (by kernel_rfl) rfl λK hK=>?_
      go_simp;refine HA2.out.mono ?_;rintro e6 w6 ⟨rfl,hb6⟩;obtain⟨df,av⟩:=fD (eU cZ.out hb6) (eU aj.out hb6);clear hb6;refine hK.out _ _ (λ_=>λp v h=>fe av.out h) (λhH2=>?_);clear hK K;replace hH:=hH2 (by kernel_rfl);clear hH2;try simp only[Act.put,fF,fH,fG]
      refine iD 8 (by kernel_rfl) rfl λK hK=>?_
      go_simp;refine hK.out _ _ (jg (by kernel_rfl)) (λ_=>?_);clear hK K;try simp only[Act.put,fF,fH,fG]
      refine fA (by kernel_rfl) ?_ _;go_wp2_with fail
      go_roundw
      case rel=>exact⟨i+1,by go_num,by omega,by omega,df⟩
      case measure=>simp[intOf];omega
     have gx:¬(i<=(z:Int)):=hlt2;go_wp2_with fail
     clear c0 gx
     go_loopw [18] (λiv wy=>∃(j:Int),iv=.int .i64 j/\-1<=j/\j<=(NN:Int)+1/\Hid (Below w7.heap.size w7 wy)) (λiv _=>((NN:Int)+1-intOf iv).toNat)
     case atStart=>exact⟨-1,rfl,by omega,by omega,HX⟩
     case round=>
      rename World=>wy
      obtain⟨j,rfl,hj1,hj2,HY⟩:=hrel;have k1:=HC.out wy HY.out;by_cases hlt3:j<=(NN:Int)
      ·have k0:=HO.out wy HY.out;obtain⟨P,hP⟩:=eX ((Wk.kW T j).reverse);have hpl:=cz.out j;rw[hP]at hpl;have dh:=eu hpl
       have di:=eu ((cr.out wy.drew HY.out.drew j (by omega)).mono (λe w' h=>show∃v,e=.returned v/\Reads encI w' v P/\Below wy.drew.heap.size wy.drew w' from by
        obtain⟨v,e1,e2,e3⟩:=h;have e4:w'.ownsRow wy.drew.heap.size 3 encI.k v P.length (encI.all P):=by rw[<-hP,iI];exact e2
        exact⟨v,e1,Reads.fJ (E:=encI) e4,e3⟩))
       have dm:=eu (λW (hW:Below w7.heap.size w7 W)=>(bJ.out W hW j).mono (λe w' h=>show∃v,e=.returned v/\Reads encI w' v P/\Below W.heap.size W w' from by
        obtain⟨v,e1,e2,e3⟩:=h;have e4:w'.ownsRow W.heap.size 3 encI.k v P.length (encI.all P):=by rw[<-hP,iI];exact e2
        exact⟨v,e1,Reads.fJ (E:=encI) e4,e3⟩))
       clear hpl hP;go_upto_region 17 with fail
       refine fB (λwq=>∀p v,wy.cell? p=some v->wq.cell? p=some v) 7 (by kernel_rfl) ?_;have hH:(λwq:World=>∀p v,wy.cell? p=some v->wq.cell? p=some v) wy.drew:=λp v h=>h
       refine Cr 6 2 0 (.agg #[.slice na NN nc]) rfl (by kernel_rfl) rfl eY (λW hW=>?_) hH ?_
       ·have z0:=hW _ _ k0;have z1:=hW _ _ k1;clear hW;go_simp
       refine fM 1 (.int .i64 j) rfl (by kernel_rfl) rfl eY (λW=>by go_simp) (λ_=>hH) ?_;refine Cr 6 5 3 (.agg #[.slice na NN nc]) rfl (by kernel_rfl) rfl eY (λW hW=>?_) hH ?_
       ·have z0:=hW _ _ k0;have z1:=hW _ _ k1;clear hW;go_simp
       refine fM 4 (.int .i64 j) rfl (by kernel_rfl) rfl eY (λW=>by go_simp) (λ_=>hH) ?_;refine iD 2 (by kernel_rfl) rfl λK hK=>?_
       go_simp;refine di.out.mono ?_;rintro e5 w5 ⟨pv,rfl,bM,hb5⟩;have aj:=eu (eU (fu wy.heap.size wy).drew hb5);obtain⟨bN,aC⟩:=fD (eU HY.out.drew hb5) bM;clear hb5 bM;refine hK.out _ _ (λ_=>λp v h=>fe aj.out h) (λhH2=>?_);clear hK K;replace hH:=hH2 (by kernel_rfl);clear hH2;try simp only[Act.put,fF,fH,fG]
       refine iD 5 (by kernel_rfl) rfl λK hK=>?_
       go_simp;refine(dm.out w5 bN.out).mono ?_;rintro e6 w6 ⟨rv,rfl,bO,hb6⟩;obtain⟨av,dn⟩:=fD (eU aj.out hb6) (eU bN.out hb6);have dw:=eu (Jn w6 pv rv P (aC.out.below hb6) bO dh.out);clear hb6 bO;refine hK.out _ _ (λ_=>λp v h=>fe av.out h) (λhH2=>?_);clear hK K;replace hH:=hH2 (by kernel_rfl);clear hH2;try simp only[Act.put,fF,fH,fG]
       refine iD 6 (by kernel_rfl) rfl λK hK=>?_
       go_simp;refine dw.out.mono ?_;rintro e8 w8 ⟨rfl,bg⟩;obtain⟨dx,dA⟩:=fD (eU av.out bg) (eU dn.out bg);clear bg;refine hK.out _ _ (λ_=>λp v h=>fe dx.out h) (λhH2=>?_);clear hK K;replace hH:=hH2 (by kernel_rfl);clear hH2;try simp only[Act.put,fF,fH,fG]
       refine iD 7 (by kernel_rfl) rfl λK hK=>?_
       go_simp;refine hK.out _ _ (jg (by kernel_rfl)) (λ_=>?_);clear hK K;try simp only[Act.put,fF,fH,fG]
       refine fA (by kernel_rfl) ?_ _;go_wp2_with fail
       go_roundw
       case rel=>exact⟨j+1,by go_num,by omega,by omega,dA⟩
       case measure=>simp[intOf];omega
      have gx:¬(j<=(NN:Int)):=hlt3;go_wp2_with fail
      clear k1 gx
      go_loopw [19] (λiv wu=>∃(n:Nat),iv=.int .i64 n/\n<=NN/\Hid (Below w7.heap.size w7 wu)) (λiv _=>NN-(intOf iv).toNat)
      case atStart=>exact⟨0,rfl,gG _,HY⟩
      case round=>
       rename World=>wu
       obtain⟨n,rfl,hn,HU⟩:=hrel;have k1:=HC.out wu HU.out;by_cases aI:n<NN
       ·obtain⟨x,hx⟩:=iT T n (by rw[af.out];exact aI);obtain⟨nb,no,ka,kc,rfl,q0,q1,q2,q3,q4,q5,-⟩:=cK.out wu HU.out n x hx;have hft:=Wk.all_in ah.out.ck n x hx;rw[ag.out]at hft;obtain⟨f,hf⟩:∃f:Nat,x.f=(f:Int):=⟨x.f.toNat,by omega⟩
        obtain⟨t,ht⟩:∃t:Nat,x.t=(t:Int):=⟨x.t.toNat,by omega⟩
        rw[hf]at q1;rw[ht]at q2;obtain⟨a1,ha1⟩:∃a,(Wk.nV l f t).1=a:=⟨_,rfl⟩
        obtain⟨a2,ha2⟩:∃a,(Wk.nV l f t).2=a:=⟨_,rfl⟩
        have dB:=eu (show Calls prog 15 #[.slice ta NL tc,.agg #[.int .i64 x.k,.int .i64 f,.int .i64 t,.int .i64 x.u,.slice ka x.ks.length kc,.bool x.y]] wu.drew (λe w'=>e=.returned (.agg #[.int .i64 (a1:Nat),.int .i64 (a2:Nat)])/\Below wu.drew.heap.size wu.drew w')from by
         have h:=cB.out wu.drew (.slice ka x.ks.length kc) x.k x.u x.y f t HU.out.drew (by omega) (by omega)
         rw[ha1,ha2]at h;exact h)
        have HS2:=eu (show∀W,Below w7.heap.size w7 W->Calls prog 16 #[.slice ta NL tc,.agg #[.int .i64 x.k,.int .i64 f,.int .i64 t,.int .i64 x.u,.slice ka x.ks.length kc,.bool x.y]] W (λe w'=>e=.returned (.agg #[.int .i64 (a1:Nat),.int .i64 (a2:Nat)])/\Below W.heap.size W w')from λW hW=>by
         have h:=bK.out W (.slice ka x.ks.length kc) x.k x.u x.y f t hW (by omega) (by omega)
         rw[ha1,ha2]at h;exact h)
        have gn:(n:Int)<(NN:Int):=by omega
        have hne:=λW=>Lh a1 a2 W
        have hge:=D3;clear hx hf ht ha1 ha2 hft;go_upto_region 22 with fail
        refine fB (λwq=>∀p v,wu.cell? p=some v->wq.cell? p=some v) 14 (by kernel_rfl) ?_;have hH:(λwq:World=>∀p v,wu.cell? p=some v->wq.cell? p=some v) wu.drew:=λp v h=>h
        refine fM 0 (.slice ta NL tc) rfl (by kernel_rfl) rfl eY (λW=>by go_simp) (λ_=>hH) ?_;refine fM 1 (.pointer (some ⟨bt,0,none⟩)) rfl (by kernel_rfl) rfl eY (λW=>by go_simp) (λ_=>hH) ?_;refine fV [14,6,5,4,13] (i:=2) (oi:=⟨_,_,_,_,_,_⟩) (v:=.slice (some ⟨nb,no,none⟩) NN nc) rfl (by kernel_rfl) (by kernel_rfl) (by kernel_rfl) (by kernel_rfl) (by kernel_rfl) eY (Or.inl ⟨rfl,λW hW=>?_⟩) hH ?_
        ·refine fZ.of_run ?_;have z0:=hW _ _ k1;have z1:=hW _ _ q0;have z2:=hW _ _ q1;have z3:=hW _ _ q2;have z4:=hW _ _ q3;have z5:=hW _ _ q4;have z6:=hW _ _ q5;clear hW;go_simp
        try simp only[Act.put,fF,fH,fG]
        refine fM 3 (.int .i64 (n:Int)) rfl (by kernel_rfl) rfl eY (λW=>by go_simp) (λ_=>hH) ?_;refine fM 4 (.pointer (some ⟨nb,no+n*6,none⟩)) rfl (by kernel_rfl) rfl eY (λW=>by go_simp) (λ_=>hH) ?_;refine Qc 6 5 (.agg #[.int .i64 x.k,.int .i64 f,.int .i64 t,.int .i64 x.u,.slice ka x.ks.length kc,.bool x.y]) rfl (by kernel_rfl) rfl eY (λW hW=>?_) hH ?_
        ·have z0:=hW _ _ k1;have z1:=hW _ _ q0;have z2:=hW _ _ q1;have z3:=hW _ _ q2;have z4:=hW _ _ q3;have z5:=hW _ _ q4;have z6:=hW _ _ q5;clear hW;go_simp
        refine fM 7 (.slice ta NL tc) rfl (by kernel_rfl) rfl eY (λW=>by go_simp) (λ_=>hH) ?_;refine fM 8 (.pointer (some ⟨bt,0,none⟩)) rfl (by kernel_rfl) rfl eY (λW=>by go_simp) (λ_=>hH) ?_;refine fV [14,13,12,11] (i:=9) (oi:=⟨_,_,_,_,_,_⟩) (v:=.slice (some ⟨nb,no,none⟩) NN nc) rfl (by kernel_rfl) (by kernel_rfl) (by kernel_rfl) (by kernel_rfl) (by kernel_rfl) eY (Or.inl ⟨rfl,λW hW=>?_⟩) hH ?_
        ·refine fZ.of_run ?_;have z0:=hW _ _ k1;have z1:=hW _ _ q0;have z2:=hW _ _ q1;have z3:=hW _ _ q2;have z4:=hW _ _ q3;have z5:=hW _ _ q4;have z6:=hW _ _ q5;clear hW;go_simp
        try simp only[Act.put,fF,fH,fG]
        refine fM 10 (.int .i64 (n:Int)) rfl (by kernel_rfl) rfl eY (λW=>by go_simp) (λ_=>hH) ?_;refine fM 11 (.pointer (some ⟨nb,no+n*6,none⟩)) rfl (by kernel_rfl) rfl eY (λW=>by go_simp) (λ_=>hH) ?_;refine Qc 13 12 (.agg #[.int .i64 x.k,.int .i64 f,.int .i64 t,.int .i64 x.u,.slice ka x.ks.length kc,.bool x.y]) rfl (by kernel_rfl) rfl eY (λW hW=>?_) hH ?_
        ·have z0:=hW _ _ k1;have z1:=hW _ _ q0;have z2:=hW _ _ q1;have z3:=hW _ _ q2;have z4:=hW _ _ q3;have z5:=hW _ _ q4;have z6:=hW _ _ q5;clear hW;go_simp
        refine iD 6 (by kernel_rfl) rfl λK hK=>?_
        go_simp;refine dB.out.mono ?_;rintro e5 w5 ⟨rfl,hb5⟩;have aj:=eu (eU (fu wu.heap.size wu).drew hb5);have bP:=eu (eU HU.out.drew hb5);clear hb5;refine hK.out _ _ (λ_=>λp v h=>fe aj.out h) (λhH2=>?_);clear hK K;replace hH:=hH2 (by kernel_rfl);clear hH2;try simp only[Act.put,fF,fH,fG]
        refine iD 13 (by kernel_rfl) rfl λK hK=>?_
        go_simp;refine(HS2.out w5 bP.out).mono ?_;rintro e6 w6 ⟨rfl,hb6⟩;obtain⟨av,dC⟩:=fD (eU aj.out hb6) (eU bP.out hb6);clear hb6;refine hK.out _ _ (λ_=>λp v h=>fe av.out h) (λhH2=>?_);clear hK K;replace hH:=hH2 (by kernel_rfl);clear hH2;try simp only[Act.put,fF,fH,fG]
        refine iD 14 (by kernel_rfl) rfl λK hK=>?_
        go_simp;refine hK.out _ _ (jg (by kernel_rfl)) (λ_=>?_);clear hK K;try simp only[Act.put,fF,fH,fG]
        refine fA (by kernel_rfl) ?_ _;clear hne hge;go_wp2_with fail
        go_roundw
        case rel=>exact⟨n+1,by go_num,by omega,dC⟩
        case measure=>simp[intOf];omega
       obtain rfl:n=NN:=by omega
       have k0:=HO.out wu HU.out;have HOr:=eu (P8 wu.drew (.slice na n nc) T (l.length:Nat) (HN.out wu.drew HU.out.drew) ah.out.ck (by rw[af.out];omega));have bQ:=eu (λW O (hW:Below w7.heap.size w7 W)(hA:Wk.All T O)=>P9 W (.slice na n nc) T (l.length:Nat) (HN.out W hW) ah.out.ck O hA (by rw[af.out];omega));have bR:=eu (λW (hW:Below w7.heap.size w7 W)=>NK W (.slice na n nc) T (HN.out W hW) (by rw[af.out];omega));have aJ:=eu (λW (hW:Below w7.heap.size w7 W)=>NQ W (.slice na n nc) T (HN.out W hW) (by rw[af.out];omega));obtain⟨E,hE⟩:=eX (Wk.lG T T.length);obtain⟨A,hA⟩:=eX (Wk.Ak l T NT);rw[hE]at bR aJ;have aF:=eu hA;have n0:(A !=A)=false:=by simp
       have n1:((E:Int) !=(E:Int))=false:=by simp
       have n2:(A==A)=true:=by simp
       have n3:((E:Int)==(E:Int))=true:=by simp
       have n4:(E==E)=true:=by simp
       have n5:(E !=E)=false:=by simp
       have gx:¬((n:Int)<(n:Int)):=by omega
       clear aI hE hA;go_upto_region 24 with fail
       refine fB (λwq=>∀p v,wu.cell? p=some v->wq.cell? p=some v) 23 (by kernel_rfl) ?_;have hH:(λwq:World=>∀p v,wu.cell? p=some v->wq.cell? p=some v) wu.drew:=λp v h=>h
       refine fV [23,13,10,6,4,1,3,5,8,7,9,12,11,22,17,14,15,16,21,18,19,20] (i:=0) (oi:=⟨_,_,_,_,_,_⟩) (v:=.agg #[.slice na n nc]) rfl (by kernel_rfl) (by kernel_rfl) (by kernel_rfl) (by kernel_rfl) (by kernel_rfl) eY (Or.inl ⟨rfl,λW hW=>?_⟩) hH ?_
       ·refine fZ.of_run ?_;have z0:=hW _ _ k0;have z1:=hW _ _ k1;clear hW;go_simp
       try simp only[Act.put,fF,fH,fG]
       refine fV [23,13,10,6,4,3,5,8,7,9,12,11,22,17,14,15,16,21,18,19,20] (i:=2) (oi:=⟨_,_,_,_,_,_⟩) (v:=.agg #[.slice na n nc]) rfl (by kernel_rfl) (by kernel_rfl) (by kernel_rfl) (by kernel_rfl) (by kernel_rfl) eY (Or.inl ⟨rfl,λW hW=>?_⟩) hH ?_
       ·refine fZ.of_run ?_;have z0:=hW _ _ k0;have z1:=hW _ _ k1;clear hW;go_simp
       try simp only[Act.put,fF,fH,fG]
       refine iD 1 (by kernel_rfl) rfl λK hK=>?_
       go_simp;refine(HOr.out).mono ?_;rintro e9 dD ⟨ov,O,rfl,bn,hO,ae⟩;have aK:=eu (eU (fu wu.heap.size wu).drew ae);obtain⟨aL,dE⟩:=fD (eU HU.out.drew ae) bn;have dF:=eu (Reads.fJ (E:=encI) hO);have dG:=eu (show O.length<=1000000 from by rw[Wk.iX bn,af.out];omega);clear bn hO;clear ae;refine hK.out _ _ (λ_=>λp v h=>fe aK.out h) (λhH2=>?_);clear hK K;replace hH:=hH2 (by kernel_rfl);clear hH2;try simp only[Act.put,fF,fH,fG]
       refine iD 3 (by kernel_rfl) rfl λK hK=>?_
       go_simp;refine(bQ.out dD O aL.out dE.out).mono ?_;rintro e9 dH ⟨rv,rfl,hO,ae⟩;obtain⟨aM,bS⟩:=fD (eU aK.out ae) (eU aL.out ae);have az:=eu (Jn dH ov rv O (dF.out.below ae) (Reads.fJ (E:=encI) hO) dG.out);clear hO;clear ae;refine hK.out _ _ (λ_=>λp v h=>fe aM.out h) (λhH2=>?_);clear hK K;replace hH:=hH2 (by kernel_rfl);clear hH2;try simp only[Act.put,fF,fH,fG]
       refine iD 4 (by kernel_rfl) rfl λK hK=>?_
       go_simp;refine(az.out).mono ?_;rintro e9 dI ⟨rfl,ae⟩;obtain⟨aN,aO⟩:=fD (eU aM.out ae) (eU bS.out ae);clear ae;refine hK.out _ _ (λ_=>λp v h=>fe aN.out h) (λhH2=>?_);clear hK K;replace hH:=hH2 (by kernel_rfl);clear hH2;try simp only[Act.put,fF,fH,fG]
       refine fM 5 (.bool false) rfl (by kernel_rfl) rfl eY (λW=>by go_simp) (λ_=>hH) ?_;refine fM 6 (.bool false) rfl (by kernel_rfl) rfl eY (λW=>by go_simp) (λ_=>hH) ?_;refine fV [23,13,10,8,12,11,22,17,14,15,16,21,18,19,20] (i:=7) (oi:=⟨_,_,_,_,_,_⟩) (v:=.agg #[.slice na n nc]) rfl (by kernel_rfl) (by kernel_rfl) (by kernel_rfl) (by kernel_rfl) (by kernel_rfl) eY (Or.inl ⟨rfl,λW hW=>?_⟩) hH ?_
       ·refine fZ.of_run ?_;have z0:=hW _ _ k0;have z1:=hW _ _ k1;clear hW;go_simp
       try simp only[Act.put,fF,fH,fG]
       refine Cr 13 10 9 (.agg #[.slice na n nc]) rfl (by kernel_rfl) rfl eY (λW hW=>?_) hH ?_
       ·have z0:=hW _ _ k0;have z1:=hW _ _ k1;clear hW;go_simp
       refine iD 8 (by kernel_rfl) rfl λK hK=>?_
       go_simp;refine(bR.out dI aO.out).mono ?_;rintro e9 dJ ⟨rfl,ae⟩;obtain⟨aP,aQ⟩:=fD (eU aN.out ae) (eU aO.out ae);clear ae;refine hK.out _ _ (λ_=>λp v h=>fe aP.out h) (λhH2=>?_);clear hK K;replace hH:=hH2 (by kernel_rfl);clear hH2;try simp only[Act.put,fF,fH,fG]
       refine iD 10 (by kernel_rfl) rfl λK hK=>?_
       go_simp;refine(aJ.out dJ aQ.out).mono ?_;rintro e9 dK ⟨rfl,ae⟩;obtain⟨aR,aS⟩:=fD (eU aP.out ae) (eU aQ.out ae);clear ae;refine hK.out _ _ (λ_=>λp v h=>fe aR.out h) (λhH2=>?_);clear hK K;replace hH:=hH2 (by kernel_rfl);clear hH2;try simp only[Act.put,fF,fH,fG]
       refine fM 11 (.bool false) rfl (by kernel_rfl) rfl eY (λW=>by go_simp) (λ_=>hH) ?_;refine fM 12 (.bool false) rfl (by kernel_rfl) rfl eY (λW=>by go_simp) (λ_=>hH) ?_;refine fw 13 (.bool false) rfl (by kernel_rfl) rfl eY (λW hW=>by go_simp) hH ?_;refine fM 14 (.slice ta NL tc) rfl (by kernel_rfl) rfl eY (λW=>by go_simp) (λ_=>hH) ?_;refine Cr 22 17 15 (.agg #[.slice na n nc]) rfl (by kernel_rfl) rfl eY (λW hW=>?_) hH ?_
       ·have z0:=hW _ _ k0;have z1:=hW _ _ k1;clear hW;go_simp
       refine fM 16 (.int .i64 NT) rfl (by kernel_rfl) rfl eY (λW=>by go_simp) (λ_=>hH) ?_;refine fM 18 (.slice ta NL tc) rfl (by kernel_rfl) rfl eY (λW=>by go_simp) (λ_=>hH) ?_;refine Cr 22 21 19 (.agg #[.slice na n nc]) rfl (by kernel_rfl) rfl eY (λW hW=>?_) hH ?_
       ·have z0:=hW _ _ k0;have z1:=hW _ _ k1;clear hW;go_simp
       refine fM 20 (.int .i64 NT) rfl (by kernel_rfl) rfl eY (λW=>by go_simp) (λ_=>hH) ?_;refine iD 17 (by kernel_rfl) rfl λK hK=>?_
       go_simp;refine(bI.out dK aS.out NT).mono ?_;rintro e9 dL ⟨rfl,ae⟩;obtain⟨aT,aU⟩:=fD (eU aR.out ae) (eU aS.out ae);rw[aF.out];clear ae;refine hK.out _ _ (λ_=>λp v h=>fe aT.out h) (λhH2=>?_);clear hK K;replace hH:=hH2 (by kernel_rfl);clear hH2;try simp only[Act.put,fF,fH,fG]
       refine iD 21 (by kernel_rfl) rfl λK hK=>?_
       go_simp;refine(aH.out dL aU.out NT).mono ?_;rintro e9 dR ⟨rfl,ae⟩;obtain⟨bT,bU⟩:=fD (eU aT.out ae) (eU aU.out ae);rw[aF.out];have dM:=eu (eU bH.out bU.out);clear ae;refine hK.out _ _ (λ_=>λp v h=>fe bT.out h) (λhH2=>?_);clear hK K;replace hH:=hH2 (by kernel_rfl);clear hH2;try simp only[Act.put,fF,fH,fG]
       refine fw 22 (.bool false) rfl (by kernel_rfl) rfl eY (λW hW=>by go_simp) hH ?_;refine iD 23 (by kernel_rfl) rfl λK hK=>?_
       go_simp;refine hK.out _ _ (jg (by kernel_rfl)) (λ_=>?_);clear hK K;try simp only[Act.put,fF,fH,fG]
       refine fA (by kernel_rfl) ?_ _;go_wp2_with fail
       go_roundw
       case rel=>exact⟨k+1,by go_num,by omega,dM⟩
       case measure=>simp[intOf];omega
  obtain rfl:k=2:=by omega
  have HD:=eu (HQ.out wr (eU bX.out HB.out));clear hlt;go_wp2_with fail
  first|exact HD.out|(go_ret;exact HD.out)
end
end Go.Proofs.YtfbiffdmhcjhbaaGreat

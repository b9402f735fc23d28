import Derived.Test.YtmkkdjpebbdikaaGreatDoorZb21
set_option linter.all false
set_option maxHeartbeats 16000000
set_option maxRecDepth 100000
namespace Go.Proofs.YtmkkdjpebbdikaaGreatDoor
open Go.RowKit Tryz
section
open Go.RowKit
open Sq
open Ar
theorem acR(rb:Nat)(v:Value)(l:List Tk)(a b:Nat)(w:World)(hc:w.cell? ⟨rb,1,none⟩=some v)(h:Reads iQ w v l)(hs:l.length<=100000)(hab:a<=b)(hb:b<=l.length):
 Calls prog 133 #[RP rb,.int .i64 a,.int .i64 b] w λe w'=>e=.returned (.int .i64 (xE l a (b-a):Nat))/\Below w.heap.size w w':=by
 obtain⟨ad,cap,rfl⟩:=h.shape;obtain⟨u,hu,Gq⟩:=Ka (P:=prog) tyT h hab hb;have hlen:((l.drop a).take (b-a)).length=b-a:=Jd
 have hget:∀k x,((l.drop a).take (b-a))[k]?=some x->k<b-a/\Fl.raw l (a+k)=x.1:=by
  intro k x hx;have hk:=(eY.1 hx).1;rw[hlen]at hk;rw[tu hk,sW]at hx;exact⟨hk,Fl.uU hx⟩
 obtain⟨ts,hts⟩:=eu ((l.drop a).take (b-a));rw[hts]at Gq hlen hget;obtain⟨ua,uc,rfl⟩:=Gq.shape;have HT:=dY (λW (hW:Below w.heap.size w W) j x (hj:ts[j]?=some x)=>iY (Gq.below hW) j x hj);have HG:=dY hget;obtain⟨M,hM⟩:=eu (b-a);rw[hM]at hlen HG⊢;have HY:=dY (λk (hk:k<M) h=>z8 (l:=l) (a:=a) hk h);have HN:=dY (λh=>CV (l:=l) (a:=a) (n:=M) h);obtain⟨T,hT⟩:=eu (xE l a M);rw[hT]at HY HN⊢;rw[hlen]at hu;have HL:=dY hlen;have hMs:M<=100000:=dS
 obtain⟨N,hN⟩:=eu (l.length);rw[hN]at hc hb hs hu;clear h Gq hget hlen hT hts hN hM
 go_enter func133,ntmps133
 go_wp2_with fail
 go_loopw [17] (λiv wr=>∃k:Nat,iv=.int .i64 k/\k<=M/\Hid (∀j,j<k->Fl.raw l (a+j)≠13)/\Below w.heap.size w wr) (λiv _=>M-(intOf iv).toNat)
 case atStart=>exact⟨0,rfl,fP _,dY (λj h=>absurd h (pK j)),fD _ _⟩
 case round=>
  obtain⟨k,rfl,hk,HA,hB⟩:=hrel;have HB:=dY hB;by_cases hlt:k<M
  ·obtain⟨x,hx⟩:∃x,ts[k]?=some x:=⟨_,fu (by rw[HL.out];exact hlt)⟩
   obtain⟨xb,off,rfl,c0,c1,c2⟩:=HT.out wr hB k x hx;have hr:=(HG.out k x hx).2;have hi:(k:Int)<(M:Int):=dS
   obtain⟨K,hK⟩:=eu (x.1);rw[hK]at c0 hr;by_cases q:K=13
   ·exact aaf
   ·have HA2:=dY (show∀j,j<k+1->Fl.raw l (a+j)≠13 from λj hj=>by
     by_cases e:j=k
     ·rw[e,hr];exact q
     ·exact HA.out j dS)
    exact aaQ
  ·exact aaM
theorem fF.key{w0 w:World}{rb:Nat}{c:Ctx}{q:Pr.QS}{lv:Value}{R:Nat->Prop}{i:Nat}(hS:fF w0 w rb c q lv R)(hi:i<q.s.t.length):
 ∃g cap,w.cell? ⟨rb,4,none⟩=some (.slice (some ⟨g,0,none⟩) q.s.t.length cap)/\(∀o,w.frozen? ⟨g,o,none⟩=false)/\(∃b,w.cell? ⟨g,i*6+5,none⟩=some (.bool b))/\
  ∃R',fF w0 (w.setCell ⟨g,i*6+5,none⟩ (.bool true)) rb c {q with s:=⟨Fl.keyed q.s.t i,q.s.d⟩} lv R'/\FP w (w.setCell ⟨g,i*6+5,none⟩ (.bool true)) rb R R':=by
 obtain⟨nv,dv,L,hM,hL,hTr,rfl⟩:=hS;have hLn:L.length=q.s.t.length:=yR
 obtain⟨p,hp⟩:∃p,L[i]?=some p:=⟨_,fu dS⟩
 have hpx:q.s.t[i]?=some p.nd:=by rw[<-hL,kS,hp];rfl
 obtain⟨g,cap,rfl,hB,hfz,hc1,hc2⟩:=jf hM.nodes.row dS;obtain⟨hM2,hF⟩:=hM.setNode i 5 p {p.nd with y:=true} (.bool true) hp rfl rfl dU;have h5:w.cell? ⟨g,i*6+5,none⟩=some (.bool p.nd.y):=by
  have:=hM.nodes.row.cells (g:=g) rfl _ _ ((iJ fZ L i p hp 5 dU).trans rfl);rw[fT,jY]at this;exact this
 have hkd:(L.set i {p with nd:={p.nd with y:=true}}).map Ln.nd=Fl.keyed q.s.t i:=by
  unfold Fl.keyed;rw[jd,hpx,Gj,hL]
 refine⟨g,cap,by rw[<-hLn];exact Jc hM.box,hfz,⟨_,h5⟩,_,⟨_,dv,_,hM2,hkd,?_,rfl⟩,hF⟩;have hlen:(Fl.keyed q.s.t i).length=q.s.t.length:=by rw[<-hkd,jl,nQ,hLn]
 refine⟨λj x hj hx=>?_,λx hx=>?_⟩
 ·unfold Fl.keyed at hx;rw[jd,hpx]at hx;dsimp only at hx;rw[oI]at hx;split at hx
  ·rename_i e;subst e;injection hx with hx
   subst hx;exact hTr.up i p.nd hj hpx
  ·exact hTr.up j x hj hx
 ·show x.ks.length<=(Fl.keyed q.s.t i).length;rw[hlen];have hx:x∈Fl.keyed q.s.t i:=hx;unfold Fl.keyed at hx;rw[jd,hpx]at hx;rcases ahQ hx with hx|hx
  ·exact hTr.kb x hx
  ·rw[hx];exact hTr.kb p.nd (gW hpx)
theorem fF.UB{w0 w:World}{rb:Nat}{c:Ctx}{q:Pr.QS}{lv:Value}{R:Nat->Prop}{h:Pr.Lv}{tl:List Pr.Lv}{gl n cap m:Nat}(hS:fF w0 w rb c q lv R)(hlv:Value.slice (some ⟨gl,0,none⟩) n cap=lv)(hm:tl.length=m)(hst:q.st=h::tl)(j:Nat)(u:Value)(h':Pr.Lv)(hc:oh h'=(oh h).set j u)(hj:j<5):
 fF w0 (w.setCell ⟨gl,m*5+j,none⟩ u) rb c {q with st:=h'::tl} lv R/\FP w (w.setCell ⟨gl,m*5+j,none⟩ u) rb R R:=by
 subst hlv hm;exact hS.Kr hst j u h' hc hj
theorem UC(w0 w:World)(rb:Nat)(c:Ctx)(q:Pr.QS)(lv:Value)(R:Nat->Prop)(h:Pr.Lv)(tl:List Pr.Lv)(e:Rw.E)(hS:fF w0 w rb c q lv R)(hst:q.st=h::tl)(hnd:h.node<q.s.t.length)(h1:e.from'<e.bu)(h2:e.bu<=c.l.length)(hcn:Fl.cnt (Fl.raw c.l e.from')=true)(hn:q.s.t.length<=800000000000)(htl:tl.length<=1000000):
 Calls prog 102 #[RP rb,I4 e] w (nW w0 w rb c lv R (.tuple #[]) (Pr.again c.l q e h tl)):=by
 obtain⟨ed,aF,F,T⟩:=e;dsimp only at h1 h2 hcn;obtain⟨wb,hwb⟩:=eu (w.alloc (.cells #[.bool ed,.int .i64 aF,.int .i64 (F:Int),.int .i64 (T:Int)] 97));obtain⟨be,hbe⟩:=eu (w.heap.size);have hbw:Below w.heap.size w wb:=hwb▸dZ w _;have kb:wb.heap[be]?=some (.cells #[.bool ed,.int .i64 aF,.int .i64 (F:Int),.int .i64 (T:Int)] 97 (0,0)):=Qc
 have bM:FP w wb rb R R:=FP.below hbw;obtain⟨gl,cap,rfl,hfz,hcl,c8,-⟩:=hS.top hst;have hIn:=za wb rb gl tl.length cap (eB hbw c8) htl;obtain⟨m,hm⟩:=eu (tl.length);have ax:=dY hm;have cB:=c.l.length;have hkt:=hS.ctx.size;obtain⟨h',hh'⟩:∃h',({h with full:=false}:Pr.Lv)=h':=⟨_,rfl⟩
 have aG:=λW (hW:Below w.heap.size w W)=>fF.Kr (hS.below hW) hst 4 (.bool false) h' (by rw[<-hh'];rfl) dU
 obtain⟨q1,hq1⟩:∃q1:Pr.QS,{q with st:=h'::tl}=q1:=⟨_,rfl⟩
 rw[hq1]at aG;have bf:q1.st=h'::tl:=by rw[<-hq1]
 have hs1:q1.s=q.s:=by rw[<-hq1]
 have aH:h'.node=h.node:=by rw[<-hh']
 have hA:=fun(k:Nat) W R' (hW:fF w0 W rb c q1 (.slice (some ⟨gl,0,none⟩) (tl.length+1) cap) R')=>X5 w0 W rb c q1 _ R' h.node k F T hW (by rw[hs1];exact hnd) (by rw[hs1];omega)
 obtain⟨N,hN⟩:=eu (q.s.t.length);rw[hs1,hN]at hA;rw[hN]at hn hnd;obtain⟨ND,aI⟩:=eu (h.node);rw[aI]at hA hnd;have aA:∀W,Below w.heap.size w W->∀j u,(oh h)[j]?=some u->W.cell? ⟨gl,m*5+j,none⟩=some u:=λW hW j u hu=>by rw[<-hm];exact eB hW (hcl j u hu)
 have hgl:=(hS.rows (by have:=hS.top hst;obtain⟨dw,cap',hv,-,-,-,hr⟩:=this;have e:=(lX hv).1;injection e with e;injection e with e;rw[e];exact hr:R gl)).2.1;obtain⟨lv,hlv⟩:=eu ((Value.slice (some ⟨gl,0,none⟩) (tl.length+1) cap));obtain⟨QQ,aW⟩:∃Q,nW w0 w rb c lv R (.tuple #[]) (Pr.again c.l q ⟨ed,aF,F,T⟩ h tl)=Q:=⟨_,rfl⟩
 rw[hlv,aW];have bN:∀k,k=(if ed=true then 4 else 6)->(ed=true\/T-F<2)->∀W R',fF w0 W rb c {q1 with s:=⟨Pr.add q.s.t ND k F T,q.s.d⟩,st:={h' with cur:=N}::tl} lv R'->FP w W rb R R'->QQ (.returned (.tuple #[])) W:=λk hk hor W R' hS' hF'=>by
  rw[<-aW];refine⟨rfl,R',?_,hF'⟩;rw[<-hq1,<-hh',<-aI]at hS';unfold Pr.again Pr.enter;dsimp only;rw[hN];by_cases he:ed=true
  ·rw[dX he]at hk;rw[hk]at hS';rw[dX he];exact hS'
  ·rw[dW he]at hk;rw[hk]at hS';rw[dW he,dX (hor.elim (λx=>absurd x he) id)];exact hS'
 have bO:ed=false->¬T-F<2->∀W R',fF w0 W rb c {q1 with s:=⟨Pr.add (Fl.keyed (Pr.add q.s.t ND 6 F T) N) N (xE c.l F (T-1-F)) F (Fl.back c.l (T-1) (F+1)),q.s.d⟩,st:={h' with cur:=N}::tl} lv R'->FP w W rb R R'->QQ (.returned (.tuple #[])) W:=λhe hlt W R' hS' hF'=>by
  rw[<-aW];refine⟨rfl,R',?_,hF'⟩;rw[<-hq1,<-hh',<-aI]at hS';unfold Pr.again Pr.enter;dsimp only;rw[hN,dW (by rw[he];decide),dW hlt];unfold xE at hS';have e8:(((if(List.range (T-1-F)).any (λx=>Fl.raw c.l (F+x)==13)=true then 8 else 7:Nat)):Int)=(if(List.range (T-1-F)).any (λx=>Fl.raw c.l (F+x)==13)=true then 8 else 7:Int):=by split<;>rfl
  rw[e8]at hS';exact hS'
 obtain⟨cK,cO,bE⟩:=hS.tok;have bP:∀W,Below w0.heap.size w0 W->W.cell? ⟨rb,1,none⟩=some c.tv->F<=T-1->Calls prog 133 #[RP rb,.int .i64 F,.int .i64 (T-1:Nat)] W λe w'=>e=.returned (.int .i64 (xE c.l F (T-1-F):Nat))/\Below W.heap.size W w':=λW h0 h1' h2'=>acR rb c.tv c.l F (T-1) W h1' (hS.ctx.toks.below h0) bE h2' dS
 have bQ:∀W,Below w0.heap.size w0 W->W.cell? ⟨rb,1,none⟩=some c.tv->¬T-F<2->Calls prog 96 #[RP rb,.int .i64 (T-1:Nat)] W λe w'=>e=.returned (.int .i64 (Fl.back c.l (T-1) (F+1):Nat))/\W=w':=λW h0 h1' h2'=>M4 rb c.tv c.l (T-1) (F+1) W h1' (hS.ctx.toks.below h0) dS bE dS dS ⟨F+1,eO _,dS,by rw[lW];exact hcn⟩
 rw[hlv]at hA aG;have bg:∀W,Below w.heap.size w W->∀o,W.frozen? ⟨gl,o,none⟩=false:=λW hW o=>YE
 obtain⟨bR,aJ⟩:=fw hwb hbe;rw[hm]at hIn;obtain⟨rM,bS,bT,HS⟩:=oK hIn kb hbw hS;rw[hm]at aG;obtain⟨bU,HA,bV,bW,aK,L6⟩:=kG aG hA aA bM bf hlv;obtain⟨bF,bX,aC,af,ag,ah⟩:=kG (aH.trans aI) bg bN bO bP bQ;obtain⟨HN,dx⟩:=fw hN hs1;have hT1:T<=32768:=dS
 have dn:=dY htl;clear hwb hbe hbw kb bM hfz hcl c8 hIn hm aG bf hA aA aW aH aI hq1 hh' hcn hS hst hs1 hN htl bN bO cK cO bE bP bQ hlv bg hgl cB hkt h2
 go_enter func102,ntmps102
 go_upto_region 1 with fail
 rw[bR.out,aJ.out];clear bR aJ;go_wp2_with fail
 refine rM.out.mono ?_;rintro e w1 ⟨rfl,n1,rfl⟩;have hb1:Below w.heap.size w (wb.drewN n1):=X4 bT.out n1;have bG:(wb.drewN n1).heap[be]?=_:=bS.out;obtain⟨w1,hw1⟩:=eu (wb.drewN n1);rw[hw1]at hb1 bG⊢;obtain⟨hS2,hF2⟩:=bU.out w1 hb1;have c4:=bV.out w1 hb1 4 _ rfl;have f4:=bX.out w1 hb1 (m*5+4);have ay:=(HS.out.below hb1).boxed hF2 bG dU dU dU dU dU;obtain⟨w2,hw2⟩:=eu (w1.setCell ⟨gl,m*5+4,none⟩ (.bool false));rw[hw2]at hS2 hF2 ay;have b0:=(fq ay 0).trans rfl;have b2:w2.cell? ⟨be,2,none⟩=some (.int .i64 (F:Int)):=(fq ay 2).trans rfl;have b3:w2.cell? ⟨be,3,none⟩=some (.int .i64 (T:Int)):=(fq ay 3).trans rfl;have b0:w2.cell? ⟨be,0,none⟩=some (.bool ed):=(fq ay 0).trans rfl;obtain⟨cZ,cap2,hlv2,-,bn,-,-⟩:=hS2.top aK.out;have e2:gl=cZ:=YF
 subst e2;have n1':=bn 1 _ rfl;rw[ax.out,bF.out]at n1';have n1:w2.cell? ⟨gl,m*5+1,none⟩=some (.int .i64 (ND:Int)):=n1';obtain⟨bq,HS2⟩:=fw ay hS2;have bH:=dY (bW.out.trans ((FP.below YG).trans hF2));have HW2:=dY hw2;clear hw1 hb1 bG hS2 hF2 ay hw2 hlv2 bn n1' rM bS bT HS bU bV bW bX;go_upto_region 3 with fail
 rw[HW2.out];clear HW2 c4 f4;have az:=dY (λk W (hW:Below w2.heap.size w2 W)=>HA.out k W R (HS2.out.below hW));clear HA;cases ed with
 |true=>
  have aC:=dY (aC.out 4 rfl (.inl rfl));clear af ag ah;have az:=dY (az.out 4);go_upto_region 4 with fail
  refine fO (λwx=>wx.cell? ⟨gl,m*5+1,none⟩=some (.int .i64 (ND:Int))/\wx.cell? ⟨be,2,none⟩=some (.int .i64 (F:Int))/\wx.cell? ⟨be,3,none⟩=some (.int .i64 (T:Int))) 10 dV ?_;have hH:(λwx:World=>wx.cell? ⟨gl,m*5+1,none⟩=some (.int .i64 (ND:Int))/\wx.cell? ⟨be,2,none⟩=some (.int .i64 (F:Int))/\wx.cell? ⟨be,3,none⟩=some (.int .i64 (T:Int))) w2.drew:=⟨eP n1,eP b2,eP b3⟩
  refine gZ 0 (.pointer (some ⟨gl,m*5,none⟩)) (λ_=>hH) ?_;refine iE 1 (.pointer (some ⟨rb,0,none⟩)) hH ?_;refine gZ 2 (.pointer (some ⟨gl,m*5,none⟩)) (λ_=>hH) ?_;refine gZ 3 (.pointer (some ⟨gl,m*5,none⟩)) (λ_=>hH) ?_;refine gZ 4 (.pointer (some ⟨gl,m*5+1,none⟩)) (λ_=>hH) ?_;refine rV 5 (.int .i64 (ND:Int)) (λW hW=>?_) hH ?_
  ·obtain⟨z0,z1,z2⟩:=hW;go_simp
  refine gZ 6 (.pointer (some ⟨be,2,none⟩)) (λ_=>hH) ?_;refine rV 7 (.int .i64 (F:Int)) (λW hW=>?_) hH ?_
  ·obtain⟨z0,z1,z2⟩:=hW;go_simp
  refine gZ 8 (.pointer (some ⟨be,3,none⟩)) (λ_=>hH) ?_;refine rV 9 (.int .i64 (T:Int)) (λW hW=>?_) hH ?_
  ·obtain⟨z0,z1,z2⟩:=hW;go_simp
  refine mY 10 λK hK=>?_
  go_simp;refine(az.out _ (fD _ w2).drew).mono ?_;rintro e w3 ⟨rfl,R3,jV,ku⟩;obtain⟨df,Pf,hlv3,ai,aj,bI,-⟩:=jV.top aK.out;have e3:=hlv3;rw[<-L6.out]at e3;have e3:=(lX e3).1;injection e3 with e3
  injection e3 with e3
  subst e3;have n33:w3.cell? ⟨gl,m*5+3,none⟩=some (.int .i64 (h'.cur:Int)):=by have:=aj 3 _ rfl;rw[ax.out]at this;exact this
  have f33:=ai (m*5+3);obtain⟨Xx,aL⟩:=fw jV ku;clear jV ku hlv3 ai aj bI;refine hK.out _ _ lh (λ_=>?_);clear hK K;try simp only[Act.put,fG,fB,fC]
  refine gZ 11 (.pointer (some ⟨gl,m*5,none⟩)) lh ?_;refine gZ 12 (.pointer (some ⟨gl,m*5+3,none⟩)) lh ?_;refine mY 13 λK hK=>?_
  go_simp;refine hK.out _ _ lh (λ_=>?_);clear hK K;try simp only[Act.put,fG,fB,fC]
  refine fJ dV ?_ _
  have HD:=dY (show QQ (.returned (.tuple #[])) (w3.setCell ⟨gl,m*5+3,none⟩ (.int .i64 (N:Int)))from by
   have h4:=Xx.out.UB L6.out ax.out (h:=h') aK.out 3 (.int .i64 (N:Int)) {h' with cur:=N} rfl dU
   exact aC.out _ _ h4.1 (bH.out.trans ((FP.below (fD _ w2).drew).trans (aL.out.trans h4.2))))
  go_wp2_with fail
  exact sP
 |false=>
  have az:=dY (az.out 6);go_upto_region 5 with fail
  refine fO (λwx=>wx.cell? ⟨gl,m*5+1,none⟩=some (.int .i64 (ND:Int))/\wx.cell? ⟨be,2,none⟩=some (.int .i64 (F:Int))/\wx.cell? ⟨be,3,none⟩=some (.int .i64 (T:Int))) 10 dV ?_;have hH:(λwx:World=>wx.cell? ⟨gl,m*5+1,none⟩=some (.int .i64 (ND:Int))/\wx.cell? ⟨be,2,none⟩=some (.int .i64 (F:Int))/\wx.cell? ⟨be,3,none⟩=some (.int .i64 (T:Int))) w2.drew:=⟨eP n1,eP b2,eP b3⟩
  refine gZ 0 (.pointer (some ⟨gl,m*5,none⟩)) (λ_=>hH) ?_;refine iE 1 (.pointer (some ⟨rb,0,none⟩)) hH ?_;refine gZ 2 (.pointer (some ⟨gl,m*5,none⟩)) (λ_=>hH) ?_;refine gZ 3 (.pointer (some ⟨gl,m*5,none⟩)) (λ_=>hH) ?_;refine gZ 4 (.pointer (some ⟨gl,m*5+1,none⟩)) (λ_=>hH) ?_;refine rV 5 (.int .i64 (ND:Int)) (λW hW=>?_) hH ?_
  ·obtain⟨z0,z1,z2⟩:=hW;go_simp
  refine gZ 6 (.pointer (some ⟨be,2,none⟩)) (λ_=>hH) ?_;refine rV 7 (.int .i64 (F:Int)) (λW hW=>?_) hH ?_
  ·obtain⟨z0,z1,z2⟩:=hW;go_simp
  refine gZ 8 (.pointer (some ⟨be,3,none⟩)) (λ_=>hH) ?_;refine rV 9 (.int .i64 (T:Int)) (λW hW=>?_) hH ?_
  ·obtain⟨z0,z1,z2⟩:=hW;go_simp
  refine mY 10 λK hK=>?_
  go_simp;refine(az.out _ (fD _ w2).drew).mono ?_;rintro e w3 ⟨rfl,R3,jV,ku⟩;obtain⟨df,Pf,hlv3,ai,aj,bI,-⟩:=jV.top aK.out;have e3:=hlv3;rw[<-L6.out]at e3;have e3:=(lX e3).1;injection e3 with e3
  injection e3 with e3
  subst e3;have n33:w3.cell? ⟨gl,m*5+3,none⟩=some (.int .i64 (h'.cur:Int)):=by have:=aj 3 _ rfl;rw[ax.out]at this;exact this
  have f33:=ai (m*5+3);obtain⟨Xx,aL⟩:=fw jV ku;clear jV ku hlv3 ai aj bI;refine hK.out _ _ lh (λ_=>?_);clear hK K;try simp only[Act.put,fG,fB,fC]
  refine gZ 11 (.pointer (some ⟨gl,m*5,none⟩)) lh ?_;refine gZ 12 (.pointer (some ⟨gl,m*5+3,none⟩)) lh ?_;refine mY 13 λK hK=>?_
  go_simp;refine hK.out _ _ lh (λ_=>?_);clear hK K;try simp only[Act.put,fG,fB,fC]
  refine fJ dV ?_ _;obtain⟨rU,aM⟩:=Xx.out.UB L6.out ax.out (h:=h') aK.out 3 (.int .i64 (N:Int)) {h' with cur:=N} rfl dU;have vS:FP w _ rb R R3:=bH.out.trans ((FP.below (fD _ w2).drew).trans (aL.out.trans aM));have aN:=HS2.out.boxed ((FP.below (fD _ w2).drew).trans (aL.out.trans aM)) bq.out dU dU dU dU dU;obtain⟨w4,hw4⟩:=eu (w3.setCell ⟨gl,m*5+3,none⟩ (.int .i64 (N:Int)));rw[hw4]at rU vS aN;obtain⟨q4,hq4⟩:∃q4:Pr.QS,{q1 with s:=⟨Pr.add q.s.t ND 6 F T,q.s.d⟩,st:={h' with cur:=N}::tl}=q4:=⟨_,rfl⟩
  have rU:fF w0 w4 rb c q4 lv R3:=by rw[<-hq4];exact rU
  have ak:q4.s.t=Pr.add q.s.t ND 6 F T:=by rw[<-hq4]
  have aO:q4.s.d=q.s.d:=by rw[<-hq4]
  have aB:q4.st={h' with cur:=N}::tl:=by rw[<-hq4]
  have av:q4.s.t.length=N+1:=by rw[ak,Pr.jG,HN.out]
  have b2:w4.cell? ⟨be,2,none⟩=some (.int .i64 (F:Int)):=(fq aN 2).trans rfl;have b3:w4.cell? ⟨be,3,none⟩=some (.int .i64 (T:Int)):=(fq aN 3).trans rfl;obtain⟨C,hC⟩:=eu (T-1);have gw:(T:Int)-1=(C:Int):=dS
  rw[hC]at af ag ah;obtain⟨bY,bJ,bz,aP⟩:=oK hw4 vS aN rU;clear Xx aL bH bq HS2 az hw4 vS aN rU aM;go_upto_region 6 with fail
  rw[bY.out];clear bY;go_upto_region 7 with fail
  clear gw;by_cases hlt:T-F<2
  ·have HD:=dY (show QQ (.returned (.tuple #[])) w4 from aC.out 6 rfl (.inr hlt) w4 R3 (by rw[hq4];exact aP.out) bJ.out);have g0:C=F:=by omega
   have g1:¬(F:Int)<(F:Int):=dS
   clear aC af ag ah hq4 ak aO aB av hlt hC;rw[g0];go_wp2_with fail
   exact sP
  ·have af:=dY (af.out rfl hlt);have g1:(F:Int)<(C:Int):=by omega
   obtain⟨g5,cap5,aQ,f5,⟨y5,aX⟩,R5,ae,aY⟩:=(aP.out.below (fD _ w4).drew).key (i:=N) (by rw[av];omega);rw[av]at aQ;have aQ:w4.cell? ⟨rb,4,none⟩=some (.slice (some ⟨g5,0,none⟩) (N+1) cap5):=aQ;have aX:w4.cell? ⟨g5,N*6+5,none⟩=some (.bool y5):=aX;have f55:w4.frozen? ⟨g5,N*6+5,none⟩=false:=f5 _;obtain⟨dh,cap4,aR,-,bA,-,-⟩:=aP.out.top aB;have e4:gl=dh:=by rw[<-L6.out]at aR;have e:=(lX aR).1;injection e with e;injection e with e
   subst e4;have n35:w4.cell? ⟨gl,m*5+3,none⟩=some (.int .i64 (N:Int)):=by have:=bA 3 _ rfl;rw[ax.out]at this;exact this
   have gi:(N:Int)<(N:Int)+1:=dS
   have dA:(N:Int)<((N+1:Nat):Int):=dS
   obtain⟨q6,aD⟩:∃q6:Pr.QS,{q4 with s:=⟨Fl.keyed q4.s.t N,q4.s.d⟩}=q6:=⟨_,rfl⟩
   rw[aD]at ae;have bB:q6.st={h' with cur:=N}::tl:=by rw[<-aD];exact aB
   have aS:q6.s.t=Fl.keyed (Pr.add q.s.t ND 6 F T) N:=by rw[<-aD,<-ak]
   have aT:q6.s.t.length=N+1:=by rw[aS,Fl.fQ,<-ak,av]
   have bK:=(aP.out.below (fD _ w4).drew).boxed aY (show w4.drew.heap[be]?=_ from bz.out) dU dU dU dU dU;obtain⟨w6,oN⟩:=eu (w4.drew.setCell ⟨g5,N*6+5,none⟩ (.bool true));rw[oN]at ae aY bK;have bL:w6.cell? ⟨be,2,none⟩=some (.int .i64 (F:Int)):=(fq bK 2).trans rfl;obtain⟨di,cap6,aU,-,bC,-,-⟩:=ae.top bB;have e6:gl=di:=by rw[<-L6.out]at aU;have e:=(lX aU).1;injection e with e;injection e with e
   subst e6;have n36:w6.cell? ⟨gl,m*5+3,none⟩=some (.int .i64 (N:Int)):=by have:=bC 3 _ rfl;rw[ax.out]at this;exact this
   have bD:q6.s.d=q.s.d:=by rw[<-aD];exact aO
   have bZ:=dY (λW (hW:Below w6.heap.size w6 W)=>ag.out W (ae.kL.trans (hW.mono ae.kL.size)) (eB hW ae.tok.1) dS);have aJ:=dY (λW (hW:Below w6.heap.size w6 W)=>ah.out W (ae.kL.trans (hW.mono ae.kL.size)) (eB hW ae.tok.1) hlt);obtain⟨kk,hkk⟩:=eu (xE c.l F (C-F));obtain⟨bb,hbb⟩:=eu (Fl.back c.l C (F+1));rw[hkk]at bZ af;rw[hbb]at aJ af;have dm:=dY (λW (hW:Below w6.heap.size w6 W)=>X5 w0 W rb c q6 lv R5 N kk F bb (ae.below hW) (by rw[aT];omega) (by rw[aT];omega))
   have HQ:=dY (λw9 R9 W (hb:Below w6.heap.size w6 W)(aV:fF w0 w9 rb c {q6 with s:=⟨Pr.add q6.s.t N kk F bb,q6.s.d⟩} lv R9)(aZ:FP W w9 rb R5 R9)=>show QQ (.returned (.tuple #[])) w9 from af.out w9 R9 (by
    rw[aS,bD,<-aD,<-hq4]at aV
    exact aV) (bJ.out.trans ((FP.below (fD _ w4).drew).trans (aY.trans ((FP.below hb).trans aZ)))))
   have cr:=dY (show(w4.setCell ⟨g5,N*6+5,none⟩ (.bool true)).drew=w6 from oN);clear aC af ag ah hq4 ak aO aB av hlt hC ae aY bK oN aD bB aS aT bD aR bA aU bC hkk hbb f5 aP bJ bz;go_upto_region 8 with fail
   refine fO (λwx=>wx.cell? ⟨rb,4,none⟩=some (.slice (some ⟨g5,0,none⟩) (N+1) cap5)/\wx.cell? ⟨gl,m*5+3,none⟩=some (.int .i64 (N:Int))) 11 dV ?_;have hH:(λwx:World=>wx.cell? ⟨rb,4,none⟩=some (.slice (some ⟨g5,0,none⟩) (N+1) cap5)/\wx.cell? ⟨gl,m*5+3,none⟩=some (.int .i64 (N:Int))) w4.drew:=⟨eP aQ,eP n35⟩
   refine iE 0 (.pointer (some ⟨rb,0,none⟩)) hH ?_;refine iE 1 (.pointer (some ⟨rb,0,none⟩)) hH ?_;refine iE 2 (.pointer (some ⟨rb,4,none⟩)) hH ?_;refine iE 3 (.pointer (some ⟨rb,4,none⟩)) hH ?_;refine rV 4 (.slice (some ⟨g5,0,none⟩) (N+1) cap5) (λW hW=>?_) hH ?_
   ·obtain⟨z0,z1⟩:=hW;go_simp
   refine iE 5 (.pointer (some ⟨gl,m*5,none⟩)) hH ?_;refine iE 6 (.pointer (some ⟨gl,m*5,none⟩)) hH ?_;refine iE 7 (.pointer (some ⟨gl,m*5+3,none⟩)) hH ?_;refine rV 8 (.int .i64 (N:Int)) (λW hW=>?_) hH ?_
   ·obtain⟨z0,z1⟩:=hW;go_simp
   refine gZ 9 (.pointer (some ⟨g5,N*6,none⟩)) (λ_=>hH) ?_;refine iE 10 (.pointer (some ⟨g5,N*6+5,none⟩)) hH ?_;refine mY 11 λK hK=>?_
   have dB:=eP aX;have dC:w4.drew.frozen? ⟨g5,N*6+5,none⟩=false:=f55;go_simp;refine hK.out _ _ lh (λ_=>?_);clear hK K;try simp only[Act.put,fG,fB,fC]
   refine fJ dV ?_ _;go_upto_region 9 with fail
   rw[cr.out];clear cr aQ aX f55 n35;refine fO (λwx=>wx.cell? ⟨gl,m*5+3,none⟩=some (.int .i64 (N:Int))/\wx.cell? ⟨be,2,none⟩=some (.int .i64 (F:Int))) 15 dV ?_;have hH:(λwx:World=>wx.cell? ⟨gl,m*5+3,none⟩=some (.int .i64 (N:Int))/\wx.cell? ⟨be,2,none⟩=some (.int .i64 (F:Int))) w6.drew:=⟨eP n36,eP bL⟩
   refine iE 0 (.pointer (some ⟨rb,0,none⟩)) hH ?_;refine gZ 1 (.pointer (some ⟨gl,m*5,none⟩)) (λ_=>hH) ?_;refine gZ 2 (.pointer (some ⟨gl,m*5,none⟩)) (λ_=>hH) ?_;refine gZ 3 (.pointer (some ⟨gl,m*5+3,none⟩)) (λ_=>hH) ?_;refine rV 4 (.int .i64 (N:Int)) (λW hW=>?_) hH ?_
   ·obtain⟨z0,z1⟩:=hW;go_simp
   refine gZ 5 (.pointer (some ⟨rb,0,none⟩)) (λ_=>hH) ?_;refine gZ 6 (.pointer (some ⟨be,2,none⟩)) (λ_=>hH) ?_;refine tkc 9 7 (.int .i64 (F:Int)) (λW hW=>?_) hH ?_
   ·obtain⟨z0,z1⟩:=hW;go_simp
   refine gZ 8 (.int .i64 (C:Int)) (λ_=>hH) ?_;refine gZ 10 (.pointer (some ⟨be,2,none⟩)) (λ_=>hH) ?_;refine rV 11 (.int .i64 (F:Int)) (λW hW=>?_) hH ?_
   ·obtain⟨z0,z1⟩:=hW;go_simp
   refine gZ 12 (.pointer (some ⟨rb,0,none⟩)) (λ_=>hH) ?_;refine gZ 13 (.int .i64 (C:Int)) (λ_=>hH) ?_;refine mY 9 λK hK=>?_
   go_simp;refine(bZ.out _ (fD _ w6).drew).mono ?_;rintro e w7 ⟨rfl,cz⟩;have aa:=eD (fD _ w6).drew cz;clear cz;refine hK.out _ _ (λ_=>⟨eB aa n36,eB aa bL⟩) (λhH2=>?_);clear hK K;replace hH:=hH2 dV;clear hH2;try simp only[Act.put,fG,fB,fC]
   refine mY 14 λK hK=>?_
   go_simp;refine(aJ.out _ aa).mono ?_;rintro e w8 ⟨rfl,rfl⟩;refine hK.out _ _ (λ_=>⟨eB aa n36,eB aa bL⟩) (λhH2=>?_);clear hK K;replace hH:=hH2 dV;clear hH2;try simp only[Act.put,fG,fB,fC]
   refine mY 15 λK hK=>?_
   go_simp;refine(dm.out _ aa).mono ?_;rintro e w9 ⟨rfl,R9,aV,aZ⟩;have HD:=dY (HQ.out w9 R9 _ aa aV aZ);clear aV aZ aa;refine hK.out _ _ lh (λ_=>?_);clear hK K;try simp only[Act.put,fG,fB,fC]
   refine fJ dV ?_ _;try go_end0
   exact HD.out
end
section
open Go.RowKit
open Sq
open Ar
theorem fF.lev{w0 w:World}{rb:Nat}{c:Ctx}{q:Pr.QS}{lv:Value}{R:Nat->Prop}(hS:fF w0 w rb c q lv R):w.ownsRow w0.heap.size 91 5 lv q.st.reverse.length (qK.all q.st.reverse)/\w.cell? ⟨rb,8,none⟩=some lv/\(∀o,w.frozen? ⟨rb,o,none⟩=false)/\w0.heap.size<=w.heap.size:=by
 obtain⟨nv,dv,L,hM,hL,hTr,rfl⟩:=hS;exact⟨hM.levels,bx8 hM.box,hM.free,hM.size⟩
theorem fF.afY{w0 w wq w6:World}{rb:Nat}{c:Ctx}{q:Pr.QS}{lv v6:Value}{R:Nat->Prop}{be:Nat}{CB:Array Value}{T:TypeId}{fr:Nat×Nat}(hS:fF w0 w rb c q lv R)(x:Pr.Lv)(kb:w.heap[be]?=some (.cells CB T fr))(hT:91≠T)(hq:Below w.heap.size w wq)(hg:wq.grownBy w6 lv.ownBlock)(hown:w6.ownsRow w0.heap.size 91 5 v6 (q.st.reverse++[x]).length (qK.all (q.st.reverse++[x])))
 (hat:v6.ownBlock=lv.ownBlock\/v6.ownBlock=some wq.heap.size):
 (w6.cell? ⟨rb,8,none⟩=some lv/\w6.frozen? ⟨rb,8,none⟩=false/\w6.heap[be]?=some (.cells CB T fr))/\∃R',fF w0 (w6.setCell ⟨rb,8,none⟩ v6) rb c {q with st:=x::q.st} v6 R'/\FP w (w6.setCell ⟨rb,8,none⟩ v6) rb R R':=by
 obtain⟨nv,dv,L,hM,hL,hTr,rfl⟩:=hS;have hoff:lv.ownBlock≠some be:=eU hM.levels kb hT;have hlt:be<w.heap.size:=gK kb
 obtain⟨hb,aa,ae⟩:=hM.lev hq hg hown hat;refine⟨⟨bx8 hb,qc hb 8,?_⟩,_,⟨nv,dv,L,?_,hL,hTr,rfl⟩,ae⟩
 ·exact((hg.block be (zx hlt hq.size) (λe=>hoff e.symm)).trans (hq.block be hlt)).trans kb
 ·show PM _ _ _ _ _ _ _ _ _ _ _ (x::q.st).reverse;rw[O1];exact aa
theorem Ws(w0 w:World)(rb:Nat)(c:Ctx)(q:Pr.QS)(lv:Value)(R:Nat->Prop)(h:Pr.Lv)(tl:List Pr.Lv)(kd:Nat)(e:Rw.E)(hS:fF w0 w rb c q lv R)(hst:q.st=h::tl)(az:h.cur<q.s.t.length)(hn:q.s.t.length<=800000000000)(htl:tl.length<=1000000):
 Calls prog 103 #[RP rb,.int .i64 kd,I4 e] w (tV w0 w rb c R (.tuple #[]) {q with s:=⟨Pr.add q.s.t h.cur kd e.from' e.bu,q.s.d⟩,st:=⟨kd,q.s.t.length,e.eT,0,false⟩::{h with full:=true}::tl}):=by
 obtain⟨ed,aa,F,T⟩:=e;dsimp only;obtain⟨wb,hwb⟩:=eu (w.alloc (.cells #[.bool ed,.int .i64 aa,.int .i64 (F:Int),.int .i64 (T:Int)] 97));obtain⟨be,hbe⟩:=eu (w.heap.size);have hbw:Below w.heap.size w wb:=hwb▸dZ w _;have kb:wb.heap[be]?=some (.cells #[.bool ed,.int .i64 aa,.int .i64 (F:Int),.int .i64 (T:Int)] 97 (0,0)):=Qc
 have aG:FP w wb rb R R:=FP.below hbw;obtain⟨gl,cap,rfl,hfz,hcl,c8,-⟩:=hS.top hst;have hIn:=za wb rb gl tl.length cap (eB hbw c8) htl;obtain⟨m,hm⟩:=eu (tl.length);have bg:=dY hm;obtain⟨h',hh'⟩:∃h',({h with full:=true}:Pr.Lv)=h':=⟨_,rfl⟩
 have ag:=λW (hW:Below w.heap.size w W)=>fF.Kr (hS.below hW) hst 4 (.bool true) h' (by rw[<-hh'];rfl) dU
 obtain⟨q1,hq1⟩:∃q1:Pr.QS,{q with st:=h'::tl}=q1:=⟨_,rfl⟩
 rw[hq1]at ag;have ah:q1.st=h'::tl:=by rw[<-hq1]
 have hs1:q1.s=q.s:=by rw[<-hq1]
 have qp:h'.cur=h.cur:=by rw[<-hh']
 have hA:=λW R' (hW:fF w0 W rb c q1 (.slice (some ⟨gl,0,none⟩) (tl.length+1) cap) R')=>X5 w0 W rb c q1 _ R' h.cur kd F T hW (by rw[hs1];exact az) (by rw[hs1];omega)
 obtain⟨N,hN⟩:=eu (q.s.t.length);rw[hs1,hN]at hA;rw[hN]at hn az;obtain⟨CU,aj⟩:=eu (h.cur);rw[aj]at hA az;have af:∀W,Below w.heap.size w W->∀j u,(oh h)[j]?=some u->W.cell? ⟨gl,m*5+j,none⟩=some u:=λW hW j u hu=>by rw[<-hm];exact eB hW (hcl j u hu)
 have hgl:=(hS.rows (by have:=hS.top hst;obtain⟨bG,cap',hv,-,-,-,hr⟩:=this;have e:=(lX hv).1;injection e with e;injection e with e;rw[e];exact hr:R gl)).2.1;obtain⟨lv,hlv⟩:=eu ((Value.slice (some ⟨gl,0,none⟩) (tl.length+1) cap));obtain⟨QQ,aA⟩:∃Q,tV w0 w rb c R (.tuple #[]) {q with s:=⟨Pr.add q.s.t h.cur kd F T,q.s.d⟩,st:=⟨kd,q.s.t.length,aa,0,false⟩::{h with full:=true}::tl}=Q:=⟨_,rfl⟩
 rw[aA];have aH:∀W lv' R',fF w0 W rb c {({q1 with s:=⟨Pr.add q.s.t CU kd F T,q.s.d⟩}:Pr.QS)with st:=⟨kd,N,aa,0,false⟩::({q1 with s:=⟨Pr.add q.s.t CU kd F T,q.s.d⟩}:Pr.QS).st} lv' R'->FP w W rb R R'->QQ (.returned (.tuple #[])) W:=λW lv' R' hS' hF'=>by
  rw[<-aA];refine⟨rfl,lv',R',?_,hF'⟩;rw[<-hq1,<-hh',<-aj,<-hN]at hS';exact hS'
 rw[hlv]at hA ag;have ak:∀W,Below w.heap.size w W->∀o,W.frozen? ⟨gl,o,none⟩=false:=λW hW o=>YE
 obtain⟨aI,aJ⟩:=fw hwb hbe;rw[hm]at hIn;obtain⟨rM,aK,aL,HS⟩:=oK hIn kb hbw hS;rw[hm]at ag;obtain⟨aM,HA,aN,aO,bn,L6⟩:=kG ag hA af aG ah hlv;obtain⟨aP,aQ,bq⟩:=je (qp.trans aj) ak aH;have aR:=dY (show q1.st.reverse.length=m+1 by rw[ah,IV,iR,hm]);have av:=dY (show m<=1000000 by omega);clear hwb hbe hbw kb aG hfz hcl c8 hIn hm ag ah hA af aA qp aj hq1 hh' hS hst hs1 hN htl aH hlv ak hgl
 go_enter func103,ntmps103
 go_upto_region 1 with fail
 rw[aI.out,aJ.out];clear aI aJ;go_wp2_with fail
 refine rM.out.mono ?_;rintro e w1 ⟨rfl,n1,rfl⟩;have hb1:Below w.heap.size w (wb.drewN n1):=X4 aL.out n1;have aB:(wb.drewN n1).heap[be]?=_:=aK.out;obtain⟨w1,hw1⟩:=eu (wb.drewN n1);rw[hw1]at hb1 aB⊢;obtain⟨hS2,hF2⟩:=aM.out w1 hb1;have c4:=aN.out w1 hb1 4 _ rfl;have f4:=aQ.out w1 hb1 (m*5+4);have ai:=(HS.out.below hb1).boxed hF2 aB dU dU dU dU dU;obtain⟨w2,hw2⟩:=eu (w1.setCell ⟨gl,m*5+4,none⟩ (.bool true));rw[hw2]at hS2 hF2 ai;have b2:w2.cell? ⟨be,2,none⟩=some (.int .i64 (F:Int)):=(fq ai 2).trans rfl;have b3:w2.cell? ⟨be,3,none⟩=some (.int .i64 (T:Int)):=(fq ai 3).trans rfl;obtain⟨bz,cap2,hlv2,-,ax,-,-⟩:=hS2.top bn.out;have e2:gl=bz:=YF
 subst e2;have aC:=ax 3 _ rfl;rw[bg.out,aP.out]at aC;have n3:w2.cell? ⟨gl,m*5+3,none⟩=some (.int .i64 (CU:Int)):=aC;have ay:=dY ai;have bA:=dY (aO.out.trans ((FP.below YG).trans hF2));obtain⟨HW2,HS2⟩:=fw hw2 hS2;have HA2:=dY (λW (hW:Below w2.heap.size w2 W)=>HA.out W R (HS2.out.below hW));clear hw1 hb1 aB hS2 hF2 ai hw2 hlv2 ax aC rM aK aL HS aM aN aO aQ HA;go_upto_region 3 with fail
 rw[HW2.out];clear HW2 c4 f4;refine fO (λwx=>wx.cell? ⟨gl,m*5+3,none⟩=some (.int .i64 (CU:Int))/\wx.cell? ⟨be,2,none⟩=some (.int .i64 (F:Int))/\wx.cell? ⟨be,3,none⟩=some (.int .i64 (T:Int))) 10 dV ?_;have hH:(λwx:World=>wx.cell? ⟨gl,m*5+3,none⟩=some (.int .i64 (CU:Int))/\wx.cell? ⟨be,2,none⟩=some (.int .i64 (F:Int))/\wx.cell? ⟨be,3,none⟩=some (.int .i64 (T:Int))) w2.drew:=⟨eP n3,eP b2,eP b3⟩
 refine iE 0 (.pointer (some ⟨rb,0,none⟩)) hH ?_;refine gZ 1 (.pointer (some ⟨gl,m*5,none⟩)) (λ_=>hH) ?_;refine gZ 2 (.pointer (some ⟨gl,m*5,none⟩)) (λ_=>hH) ?_;refine gZ 3 (.pointer (some ⟨gl,m*5+3,none⟩)) (λ_=>hH) ?_;refine rV 4 (.int .i64 (CU:Int)) (λW hW=>?_) hH ?_
 ·obtain⟨z0,z1,z2⟩:=hW;go_simp
 refine iE 5 (.int .i64 (kd:Int)) hH ?_;refine gZ 6 (.pointer (some ⟨be,2,none⟩)) (λ_=>hH) ?_;refine rV 7 (.int .i64 (F:Int)) (λW hW=>?_) hH ?_
 ·obtain⟨z0,z1,z2⟩:=hW;go_simp
 refine gZ 8 (.pointer (some ⟨be,3,none⟩)) (λ_=>hH) ?_;refine rV 9 (.int .i64 (T:Int)) (λW hW=>?_) hH ?_
 ·obtain⟨z0,z1,z2⟩:=hW;go_simp
 refine mY 10 λK hK=>?_
 go_simp;refine(HA2.out _ (fD _ w2).drew).mono ?_;rintro e w3 ⟨rfl,R3,jV,ku⟩;obtain⟨Xx,aS⟩:=fw jV ku;clear jV ku b2 b3 n3;refine hK.out _ _ lh (λ_=>?_);clear hK K;try simp only[Act.put,fG,fB,fC]
 refine gZ 11 (.int .i64 (N:Int)) lh ?_;refine fJ dV ?_ _;go_upto_region 4 with fail
 have aD:=HS2.out.boxed ((FP.below (fD _ w2).drew).trans aS.out) ay.out dU dU dU dU dU;have b1:w3.cell? ⟨be,1,none⟩=some (.int .i64 aa):=(fq aD 1).trans rfl;obtain⟨hown,c8,-,hsz⟩:=Xx.out.lev;obtain⟨oL,aF⟩:=eu (Obj.cells #[.int .i64 (kd:Int),.int .i64 (N:Int),.int .i64 aa,.int .i64 0,.bool false] 91);obtain⟨wx,hwx⟩:=eu ((w3.alloc oL).drew);have hbx:Below w3.heap.size w3 wx:=by rw[<-hwx];exact(dZ w3 _).drew
 have aT:=dY (show wx.ownsRow w0.heap.size 91 qK.k lv q1.st.reverse.length (qK.all q1.st.reverse)from eZ hown hbx)
 have mE:=dY (show∀jj x,(qK.all [(⟨kd,N,aa,0,false⟩:Pr.Lv)])[jj]?=some x->wx.cell? ⟨w3.heap.size,jj,none⟩=some x by
  intro jj x hj;rw[<-hwx,<-aF];show(w3.alloc _).cell? ⟨w3.heap.size,jj,none⟩=_;rw[yJ]
  simpa [mW.all,qK,oh]using hj)
 have bB:=dY (show q1.st.reverse.length+1<=maxLen by have:=aR.out;have:=av.out;simp only[maxLen];omega);have bC:=dY (show(q1.st.reverse.length+1)*40<=140737488355328 by have:=aR.out;have:=av.out;omega);have aU:w0.heap.size<=wx.heap.size:=iU hsz hbx.size;have bD:=eB hbx c8;have bE:=eB hbx b1;obtain⟨tO,aV⟩:=fw hbx aD;have L5:=dY (show(w3.alloc (.cells #[.int .i64 (kd:Int),.int .i64 (N:Int),.int .i64 aa,.int .i64 0,.bool false] 91)).drew=wx by rw[aF];exact hwx);clear hwx aF hbx aD hown hsz ay HS2;refine fO (λwx=>wx.cell? ⟨rb,8,none⟩=some lv/\wx.cell? ⟨be,1,none⟩=some (.int .i64 aa)) 14 dV ?_;have hH:(λwx:World=>wx.cell? ⟨rb,8,none⟩=some lv/\wx.cell? ⟨be,1,none⟩=some (.int .i64 aa)) w3.drew:=⟨eP c8,eP b1⟩
 refine iE 0 (.pointer (some ⟨rb,0,none⟩)) hH ?_;refine iE 1 (.pointer (some ⟨rb,0,none⟩)) hH ?_;refine iE 2 (.pointer (some ⟨rb,0,none⟩)) hH ?_;refine iE 3 (.pointer (some ⟨rb,8,none⟩)) hH ?_;refine rV 4 lv (λW hW=>?_) hH ?_
 ·obtain⟨z0,z1⟩:=hW;go_simp
 refine iE 5 (.int .i64 (kd:Int)) hH ?_;refine iE 6 (.int .i64 (N:Int)) hH ?_;refine iE 7 (.pointer (some ⟨be,1,none⟩)) hH ?_;refine rV 8 (.int .i64 aa) (λW hW=>?_) hH ?_
 ·obtain⟨z0,z1⟩:=hW;go_simp
 refine iE 9 (.agg #[.int .i64 (kd:Int),.int .i64 (N:Int),.int .i64 aa,.int .i64 0,.bool false]) hH ?_;refine mY 10 λK hK=>?_
 go_simp;rw[L5.out];refine hK.out _ _ (λ_=>⟨bD,bE⟩) (λhH2=>?_);clear hK K;replace hH:=hH2 dV;clear hH2;try simp only[Act.put,fG,fB,fC]
 refine mY 11 λK hK=>?_
 refine oO tyL rfl (.tmp 28) (.tmp 34) rfl w0.heap.size lv q1.st.reverse rfl aT.out w3.heap.size 1 [(⟨kd,N,aa,0,false⟩:Pr.Lv)] rfl rfl mE.out bB.out bC.out aU ?_;intro v8 w8 ae hg8 O7;obtain⟨a8,k8,aW⟩:=(Reads.fo (E:=qK) ae).shape;obtain⟨n8,aX⟩:=eu ((q1.st.reverse++[(⟨kd,N,aa,0,false⟩:Pr.Lv)]).length);rw[aX]at aW;clear aX;subst aW;obtain⟨⟨bF,f88,aY⟩,R8,aZ,bf⟩:=Xx.out.afY ⟨kd,N,aa,0,false⟩ aV.out dU tO.out hg8 ae O7;have b18:w8.cell? ⟨be,1,none⟩=some (.int .i64 aa):=(fq aY 1).trans rfl;have HD:=dY (bq.out _ _ R8 aZ (bA.out.trans ((FP.below (fD _ w2).drew).trans (aS.out.trans bf))));clear ae hg8 O7 aY aZ bf;refine hK.out _ _ (λ_=>⟨bF,b18⟩) (λhH2=>?_);clear hK K;replace hH:=hH2 dV;clear hH2;try simp only[Act.put,fG,fB,fC]
 refine gZ 12 (.pointer (some ⟨rb,0,none⟩)) (λ_=>hH) ?_;refine iE 13 (.pointer (some ⟨rb,8,none⟩)) hH ?_;refine mY 14 λK hK=>?_
 go_simp;refine hK.out _ _ lh (λ_=>?_);clear hK K;try simp only[Act.put,fG,fB,fC]
 refine fJ dV ?_ _;go_wp2_with fail
 try go_end0
 exact HD.out
end
namespace Pr
open Ar Fl
theorem acS(l:List Tk)(en d i n:Nat)(hi:i<=en)(he:en<=n)(hn:n<=32768)(h1:(gP l en d 0 i ⟨fU n,[]⟩).1≠-1):
 (gP l en d 0 i ⟨fU n,[]⟩).1=1/\∃p0 r,(gP l en d 0 i ⟨fU n,[]⟩).2.2.t.drop 1=p0::r/\(∃tt:Nat,p0.t=(tt:Int))/\(gP l en d 0 i ⟨fU n,[]⟩).2.2.t.length=r.length+2/\r.length+2<=1+2*n/\
  ∀(j:Nat)(p:Nd),(p0::r)[j]?=some p->p.ks.length<=r.length+2/\(j=0\/0<=p.u)/\-1<=p.u/\p.u<=j/\∀z∈p.ks,0<=z/\z<=400000:=by
 obtain⟨hck,hf⟩:=uE n i hn;have h0:=uj (l:=l) (n:=(n:Int)) dS d i _ hck hf dS hi;have hp:=wM (l:=l) (e:=en) d (-1) i ⟨[],[]⟩ hi dS Jp;rw[show(0:Int)=((0:Nat):Int)from rfl]at h1⊢;rcases h0 with⟨b1,b2⟩|⟨next,s',ps',b1,b2,b3,b4,b5,b6,b7,b8,b9,b10,b11,v,b12,b13⟩
 ·rw[b1]at h1;exact absurd rfl h1
 ·rw[b1];rw[b2]at hp;have hl:(fU (n:Int)).length=1:=rfl;rw[hl]at b9 b10;have hkb:KB ps'.q:=by
   rcases hp with⟨e1,_⟩|⟨nx,s1,e1,_,_,_,g,_⟩
   ·have:=congrArg Prod.fst e1;dsimp only at this;omega
   ·obtain⟨rfl,rfl⟩:=LK e1;exact g.kids (λi x h=>jQ)
  have ae:0<=v.t:=by
   unfold il fU at b13;simp at b13;omega
  cases hq:ps'.q with
  |nil=>rw[hq]at b7;exact absurd b7 dU
  |cons v' r=>
   rw[hq]at b12;obtain rfl:v'=v:=by simpa using b12
   have ht:s'.t=(addN (fU (n:Int)) ((0:Nat):Int) v'.k v'.f v'.t).1.take 1++shift ((0:Nat):Int) 1 (v'::r):=by
    rw[hq]at b8;have h2:(qZ (fU (n:Int)) ((0:Nat):Int) (v'::r)).1=(addN (fU (n:Int)) ((0:Nat):Int) v'.k v'.f v'.t).1.take 1++shift ((0:Nat):Int) 1 (v'::r):=by
     have e:qZ (fU (n:Int)) ((0:Nat):Int) (v'::r)=if il (fU (n:Int)) ((0:Nat):Int) v'.k v'.f v'.t=true then((addN (fU (n:Int)) ((0:Nat):Int) v'.k v'.f v'.t).1.take (fU (n:Int)).length++shift ((0:Nat):Int) (fU (n:Int)).length (v'::r),((fU (n:Int)).length:Int))else(fU (n:Int),-1):=rfl
     rw[e,dX b13];rfl
    rw[b8]at h2;exact h2
   have htk:((addN (fU (n:Int)) ((0:Nat):Int) v'.k v'.f v'.t).1.take 1).length=1:=by
    have h3:=congrArg List.length ht;rw[iK,jL,b9,hq]at h3;omega
   have hdr:s'.t.drop 1=shift ((0:Nat):Int) 1 (v'::r):=by
    rw[ht];exact List.drop_left' htk
   obtain⟨p0,r',hpr⟩:∃p0 r',shift ((0:Nat):Int) 1 (v'::r)=p0::r':=by
    cases h:shift ((0:Nat):Int) 1 (v'::r)with
    |nil=>have:=congrArg List.length h;rw[jL]at this;simp at this
    |cons a b=>exact⟨a,b,rfl⟩
   have hr':r'.length=r.length:=by
    have:=congrArg List.length hpr;rw[jL,iR,iR]at this;omega
   have hlen:s'.t.length=r'.length+2:=by rw[b9,hq,iR,hr'];omega
   refine⟨rfl,p0,r',by rw[<-hpr];exact hdr,⟨v'.t.toNat,?_⟩,hlen,dS,λj p hj=>?_⟩
   ·have h4:(shift ((0:Nat):Int) 1 (v'::r))[0]?=some p0:=by rw[hpr];rfl
    rw[mf _ _ _ _ v' rfl]at h4;injection h4 with h4
    rw[<-h4];show v'.t=_;omega
   ·have hg:=b5.ck.good;have hj1:s'.t[j+1]?=some p:=by
     have:(s'.t.drop 1)[j]?=some p:=by rw[hdr,hpr];exact hj
     rw[sW,Nat.add_comm]at this;exact this
    have hu:=hg.up (j+1) p hj1;have hjl:=(eY.1 hj).1;rw[<-hpr,jL]at hjl;obtain⟨x,hx⟩:∃x,(v'::r)[j]?=some x:=⟨_,fu hjl⟩
    have hxp:some p=some _:=(hpr▸hj:(shift ((0:Nat):Int) 1 (v'::r))[j]?=some p).symm.trans (mf ((0:Nat):Int) 1 (v'::r) j x hx);injection hxp with hxp
    have aa:ps'.q[j]?=some x:=by rw[hq];exact hx
    have af:=b11 j x aa;have hk:=hkb j x aa;rw[hq,iR]at hk;refine⟨?_,?_,hu.1,dS,λz hz=>?_⟩
    ·rw[hxp];show(x.ks.map _).length<=_;rw[jl];omega
    ·by_cases e:j=0
     ·exact .inl e
     ·refine .inr ?_;rw[hxp];show 0<=(if j=0 then _ else x.u+((1:Nat):Int));rw[dW e];omega
    ·have:=hg.kid (j+1) p hj1 z hz;omega
end Pr
section
open Go.RowKit
open Es
def X9(o:Option (Int×Nat)):Value:=.tuple #[.string (akI o),.int .i64 (lenOf o)]
theorem uz(n:Int)(w:World):(convert 21 9 (.int .i32 n)).run prog w=.ok (.string (Utf8.encode n)) w:=Zx
theorem Sw(s:ByteArray)(w:World)(hs:s.size<=maxLen):
 Calls prog 106 #[.string s] w λe w'=>e=.returned (X9 (esc s.data.toList))/\Below w.heap.size w w':=by
 unfold maxLen at hs;have hl:s.data.toList.length=s.size:=(vL s).symm;by_cases h2:2<=s.size
 ·have hlt:decide ((s.size:Int)<2)=false:=by simp;omega
  have i0:0<s.size:=zx dU h2
  have i1:1<s.size:=h2
  have hL:=ab3 s h2;have hr:(s.data.toList.drop 2).length=s.size-2:=by rw[ky,hl]
  have hb0:(s[1]'i1).toNat<256:=XW _
  by_cases h9:(s[0]'i0).toNat=92
  ·have g9:(((s[0]'i0).toNat:Int) !=92)=false:=by rw[h9];rfl
   cases hs1:qX (s[1]'i1).toNat with
   |some v=>
    have hE:=Fv (r:=s.data.toList.drop 2) h9 hs1;rw[<-hL]at hE;have hE2:X9 (esc s.data.toList)=.tuple #[.string (Utf8.encode v),.int .i64 2]:=by rw[hE];rfl
    obtain⟨HS,H1⟩:=fw hE2 hs1;have hcv:=uz v w;clear hE hE2 hs1 hL hl hr h9;generalize Utf8.encode v=V at*
    go_enter func106,ntmps106
    go_wp2_with fail
    refine(RI _ v w dS dS H1.out).mono ?_;rintro e w1 ⟨rfl,rfl⟩;go_wp2;go_ret2;exact⟨nZ,fD _ _⟩
   |none=>
    have HN:=dY hs1;have hdg:=RJ (s[1]'i1).toNat w;rcases ab1 (s[1]'i1).toNat with hd|hd|hd|hd
    ·have hE:=uB (r:=s.data.toList.drop 2) h9 hs1 (.inl hd);rw[<-hL]at hE;have HS:=dY hE;rw[hd]at hdg;have HD:=dY hdg;clear hE hs1 hL hl hr h9 hd hdg
     exact ZU
    ·by_cases h3:s.size<4
     ·have hE:=uB (r:=s.data.toList.drop 2) h9 hs1 (.inr AQ);rw[<-hL]at hE;have HS:=dY hE;rw[hd]at hdg;have HD:=dY hdg;have hlt2:((s.size:Int))<4:=by omega
      exact Q6
     ·have hle2:(4:Int)<=s.size:=by omega
      have hln:kK (s[1]'i1).toNat<=(s.data.toList.drop 2).length:=AQ
      have htk:(s.data.toList.drop 2).take (kK (s[1]'i1).toNat)=(s.extract 2 4).data.toList:=by rw[hd,ext_list]
      have htz:(s.extract 2 4).size<=8:=uQ
      have hnb:=ze (s.extract 2 4) w htz;cases hsn:sign (s.extract 2 4).data.toList with
      |none=>
       exact QY
      |some v=>
       have hE:=zW (r:=s.data.toList.drop 2) h9 hs1 Jy hln Jz;rw[<-hL,hd]at hE;have hE2:X9 (esc s.data.toList)=.tuple #[.string (Utf8.encode v),.int .i64 4]:=by rw[hE];rfl
       exact QZ
    ·by_cases h3:s.size<6
     ·have hE:=uB (r:=s.data.toList.drop 2) h9 hs1 (.inr AQ);rw[<-hL]at hE;have HS:=dY hE;rw[hd]at hdg;have HD:=dY hdg;have hlt2:((s.size:Int))<6:=by omega
      exact Q6
     ·have hle2:(6:Int)<=s.size:=by omega
      have hln:kK (s[1]'i1).toNat<=(s.data.toList.drop 2).length:=AQ
      have htk:(s.data.toList.drop 2).take (kK (s[1]'i1).toNat)=(s.extract 2 6).data.toList:=by rw[hd,ext_list]
      have htz:(s.extract 2 6).size<=8:=uQ
      have hnb:=ze (s.extract 2 6) w htz;cases hsn:sign (s.extract 2 6).data.toList with
      |none=>
       exact QY
      |some v=>
       have hE:=zW (r:=s.data.toList.drop 2) h9 hs1 Jy hln Jz;rw[<-hL,hd]at hE;have hE2:X9 (esc s.data.toList)=.tuple #[.string (Utf8.encode v),.int .i64 6]:=by rw[hE];rfl
       exact QZ
    ·by_cases h3:s.size<10
     ·have hE:=uB (r:=s.data.toList.drop 2) h9 hs1 (.inr AQ);rw[<-hL]at hE;have HS:=dY hE;rw[hd]at hdg;have HD:=dY hdg;have hlt2:((s.size:Int))<10:=by omega
      exact Q6
     ·have hle2:(10:Int)<=s.size:=by omega
      have hln:kK (s[1]'i1).toNat<=(s.data.toList.drop 2).length:=AQ
      have htk:(s.data.toList.drop 2).take (kK (s[1]'i1).toNat)=(s.extract 2 10).data.toList:=by rw[hd,ext_list]
      have htz:(s.extract 2 10).size<=8:=uQ
      have hnb:=ze (s.extract 2 10) w htz;cases hsn:sign (s.extract 2 10).data.toList with
      |none=>
       exact QY
      |some v=>
       have hE:=zW (r:=s.data.toList.drop 2) h9 hs1 Jy hln Jz;rw[<-hL,hd]at hE;have hE2:X9 (esc s.data.toList)=.tuple #[.string (Utf8.encode v),.int .i64 10]:=by rw[hE];rfl
       exact QZ
  ·have HS:=dY (G6 (c:=s[1]'(by omega)) (r:=s.data.toList.drop 2) h9);rw[<-hL]at HS;have g9:(((s[0]'i0).toNat:Int) !=92)=true:=by rw[Vg];omega
   clear hL hl hr h9
   exact aaA
 ·have HS:=dY (Vw (s:=s.data.toList) dS);have hlt:decide ((s.size:Int)<2)=true:=by simp;omega
  clear hl
  exact aaA
end
end Go.Proofs.YtmkkdjpebbdikaaGreatDoor

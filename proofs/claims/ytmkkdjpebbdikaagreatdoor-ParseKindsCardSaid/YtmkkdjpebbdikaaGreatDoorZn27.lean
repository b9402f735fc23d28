import Derived.Test.YtmkkdjpebbdikaaGreatDoorZn24
import Derived.Test.YtmkkdjpebbdikaaGreatDoorZn25
set_option linter.all false
set_option maxHeartbeats 16000000
set_option maxRecDepth 100000
namespace Go.Proofs.YtmkkdjpebbdikaaGreatDoor
open Go.RowKit Go.Proofs.Tryz
section
open Go.RowKit
open Sq
open Ar
theorem Tr.reach{t:List Nd}(h:Tr t)(k:Nat)(z:Int):Tr (Pr.reach t k z):=by
 refine⟨λi x hi hx=>?_,λx hx=>?_⟩
 ·obtain⟨y,g1,g2,_⟩:=qw _ _ _ _ i x hx;have:=h.up i y hi g1;omega
 rw[Pr.ry];obtain⟨i,hi⟩:=lh hx;obtain⟨y,g1,_,g3⟩:=qw _ _ _ _ i x hi;rw[g3];exact h.kb y (iK g1)
theorem Ut(w0 w:World)(rb:Nat)(c:Ctx)(q:Pr.QS)(lv:Value)(R:Nat->Prop)(k z:Nat)(hS:fV w0 w rb c q lv R)(hk:k<q.s.t.length):
 Calls prog 62 #[RP rb,.int .i64 k,.int .i64 z] w (ng w0 w rb c lv R (.tuple #[]) {q with s:=⟨Pr.reach q.s.t k z,q.s.d⟩}):=by
 obtain⟨nv,dv,L,hM,hL,hTr,rfl⟩:=hS;have hLn:L.length=q.s.t.length:=by rw[<-hL,jD]
 refine(OB w0 w rb c nv dv lv q.row q.en L q.s.d q.st.reverse k z hM (by omega) (by rw[hL];exact hTr.up)).mono ?_;rintro e w' ⟨rfl,L',h1,h2,h3⟩;rw[hL]at h2;exact⟨rfl,_,⟨nv,dv,L',h1,h2,hTr.reach k z,rfl⟩,h3⟩
theorem Bq(t:List Nd)(z:Nat)(D:Pr.Lv):∀pre:List Pr.Lv,Pr.wF t z (pre++[D])=Pr.reach t D.node z
 |[]=>rfl
 |[a]=>rfl
 |a::b::r=>Bq t z D (b::r)
theorem uo(l:List Tk)(i:Nat)(hi:i<=l.length):i<=Ps.limit l i/\Ps.limit l i<=l.length:=by
 unfold Ps.limit;exact⟨(IC _ _ _).1,by have:=Fl.mi (λj=>Fl.raw l j !=20&&Fl.raw l j !=21) (l.length-i) i;omega⟩
theorem Mt(w0 w:World)(rb:Nat)(c:Ctx)(q:Pr.QS)(lv:Value)(R:Nat->Prop)(r:Rw.R)(hS:fV w0 w rb c q lv R)(hok:Pr.nZ q)(ae:nO c.l)(h1:r.from'<r.bu)(h2:r.bu<=c.l.length)(hdp:c.depth<=50)(hn:q.s.t.length<=600000000000)(hd:q.s.d.length<=600000000000)(hrt:∀r∈c.rs,r.bu<=c.l.length)
 (hsk:Fl.raw c.l r.from'=20->Pr.skip c.rs q.row (Fl.jd c.l (Ps.limit c.l (r.from'+1)) c.depth 0 (r.from'+1) ⟨gV c.l.length,[]⟩).2.1<c.rs.length):
 Calls prog 39 #[RP rb,KT r] w (qM w0 w rb c R (.tuple #[]) (Pr.mark c.l c.rs c.depth q r)):=by
 obtain⟨kd,F,T,fG⟩:=r;dsimp only at h1 h2 hsk;obtain⟨Q,hQ⟩:=fq (qM w0 w rb c R (.tuple #[]) (Pr.mark c.l c.rs c.depth q ⟨kd,F,T,fG⟩));rw[hQ];unfold Pr.mark at hQ;dsimp only at hQ;obtain⟨wb,hwb⟩:=fq (w.alloc (.cells #[.int .i64 (kd:Int),.int .i64 (F:Int),.int .i64 (T:Int),.int .i64 fG] 61));obtain⟨bx,hbx⟩:=fq (w.heap.size);have hbw:Below w.heap.size w wb:=hwb▸fo w _;have kb:wb.heap[bx]?=some (.cells #[.int .i64 (kd:Int),.int .i64 (F:Int),.int .i64 (T:Int),.int .i64 fG] 61 (0,0)):=by rw[<-hwb,<-hbx];exact j5 _ _
 have hSb:=hS.below hbw;have hls:=hS.tok.2.2;have hSd:=λn=>hSb.below (ji (fI _ wb) n)
 have af:=uo c.l (F+1) (by omega);have aO:=λn=>Ox rb c.tv c.l (F+1) (wb.drewN n) (hSd n).tok.1 (hSd n).tok.2.1 (by omega) hls
 obtain⟨EN,aW⟩:=fq (Ps.limit c.l (F+1));rw[aW]at aO hsk af;rw[show Pr.ky c.l (F+1)=EN from aW]at hQ;obtain⟨q1,hq1⟩:∃q1:Pr.QS,{q with en:=EN}=q1:=⟨_,rfl⟩
 have aP:=λn=>(hSd n).U7 EN
 rw[hq1]at aP;obtain⟨tx,htx⟩:=jB c.l F (by omega);have hraw:=Fl.rM htx;obtain⟨KK,aQ⟩:=fq (tx.1);rw[aQ]at hraw;rw[hraw]at hQ hsk;obtain⟨ta,tc,aX⟩:=hS.ctx.toks.shape;obtain⟨NT,aY⟩:=fq (c.l.length);have aJ:∀W R',fV w0 W rb c q1 lv R'->W.cell? ⟨rb,1,none⟩=some (.slice ta NT tc)/\∃b off,ta=some ⟨b,off,none⟩/\W.cell? ⟨b,off+F*3,none⟩=some (.int .i64 (KK:Int)):=λW R' hW=>by
  have ht:=hW.tok;rw[aX]at ht;obtain⟨b,off,e,c0,_⟩:=iZ ht.2.1 F tx htx;rw[aQ]at c0;exact⟨by rw[<-aY];exact ht.1,b,off,e,c0⟩
 have aZ:=eZ aJ;have x1:wb.cell? ⟨bx,1,none⟩=some (.int .i64 (F:Int)):=gG kb 1;obtain⟨bf,aH,ax,bg,bn,bq⟩:=kJ aP hSd aO kb hwb hbx;have bz:FP w wb rb R R:=FP.below hbw;obtain⟨bA,az⟩:=fT bz hQ;have bM:F<=100000:=by omega
 have bN:(F:Int)<(NT:Int):=by omega
 have HA:=eZ (And.intro hq1 (And.intro hok (And.intro ae (And.intro h2 (And.intro hdp (And.intro hn (And.intro hd (And.intro hrt (And.intro hsk (And.intro af h1))))))))));clear hq1 hok ae h1 h2 hdp hn hd hrt hsk af hbw kb hS hSb hls hSd aO aP htx hraw aQ aX aY aJ hwb hbx bz hQ
 go_enter func39,ntmps39
 go_upto_region 1 with fail
 rw[bn.out,bq.out];clear bn bq
 go_big_quiet (fail)
 have d7:(wb.drewN nq).cell? ⟨rb,7,none⟩=some (.int .i64 (q.en:Int)):=by
  obtain⟨nv,dv,L,hM,_⟩:=aH.out nq;exact YF hM.box
 have f7:(wb.drewN nq).frozen? ⟨rb,7,none⟩=false:=(aH.out nq).Q8.2.2.1 7;obtain⟨hS2,hF2⟩:=bf.out nq;have ax:=eZ (ax.out nq);have aR:(wb.drewN nq).heap[bx]?=_:=bg.out;have aA:=aH.out nq;have hFn:FP wb (wb.drewN nq) rb R R:=FP.below (ji (fI _ wb) nq);obtain⟨w1,hw1⟩:=fq (wb.drewN nq);rw[hw1]at d7 f7 hS2 hF2 ax aR aA hFn⊢;have aS:=aA.boxed hF2 aR (by decide) (by decide) (by decide) (by decide) (by decide);obtain⟨w2,hw2⟩:=fq (w1.setCell ⟨rb,7,none⟩ (.int .i64 (EN:Int)));rw[hw2]at hS2 hF2 aS;obtain⟨t1,b,off,e,t0⟩:=aZ.out w2 R hS2;subst e;have aK:FP w w2 rb R R:=bA.out.trans (hFn.trans hF2);obtain⟨HW2,HS2,aB,ag⟩:=oN hw2 hS2 aS aK;clear hS2 hF2 aR aA hFn aS hw2 hw1 aK bf aH bg bA aZ x1;by_cases hk:KK=20
 ·have g20:((KK:Int)==20)=true:=by simp[hk]
  obtain⟨hq1,hok,ae,h2,hdp,hn,hd,hrt,hsk,af,h1⟩:=HA.out;have hQ:=az.out;rw[eY hk]at hQ;obtain⟨R3,ah,aj⟩:=HS2.out.U5;have ha:=HS2.out.c8;obtain⟨a8,k8,-,c8,f8⟩:=ha;have f8:=f8 8;obtain⟨w3,hw3⟩:=fq (w2.setCell ⟨rb,8,none⟩ (.slice none 0 0));rw[hw3]at ah aj;obtain⟨q3,hq3⟩:∃q3:Pr.QS,{q1 with st:=[]}=q3:=⟨_,rfl⟩
  rw[hq3]at ah;have aa:({q with en:=EN,st:=[]}:Pr.QS)=q3:=by rw[<-hq3,<-hq1]
  rw[aa]at hQ;have aC:Pr.nZ q3:=by rw[<-aa];exact⟨hok.pos,λv hv=>by cases hv⟩
  have aT:=Ap w0 w3 rb c q3 _ R3 F ah aC.pos (by rw[<-aa];show q.s.t.length<=_;omega) (by omega);obtain⟨o1,o2,o3,o4,-⟩:=Pr.lZ aC F;have aD:(Pr.fM q3 F).st=[⟨2,q3.s.t.length,-1,q3.s.t.length,false⟩]:=by rw[<-aa];rfl
  have hrow4:(Pr.fM q3 F).row=q.row:=by rw[<-aa];rfl
  have ai:(Pr.fM q3 F).en=EN:=by rw[<-aa];rfl
  have bB:q3.s.t.length=q.s.t.length:=by rw[<-aa]
  have aL:q3.s.d=q.s.d:=by rw[<-aa]
  obtain⟨q4,hq4⟩:=fq (Pr.fM q3 F);rw[hq4]at hQ aT o1 o2 o3 o4 aD hrow4 ai;have hRv:=λW lv' R' (hW:fV w0 W rb c q4 lv' R')=>Bl w0 W rb c q4 lv' R' _ _ (F+1) hW aD o1 ae (by rw[ai];exact af.1) (by rw[ai];exact af.2) (ic _) hdp (by omega) (by rw[o4,aL];omega) hrt (by rw[ai,hrow4];exact hsk hk)
  obtain⟨bC,aI,bD,HQ,HW3⟩:=sP aT hRv (ag.out.trans aj) hQ hw3;clear hq1 hok ae h2 hdp hn hd hrt hsk af h1 hQ ah aj hw3 hq3 aa aC aT o1 o2 o3 o4 aD hrow4 ai bB aL hq4 hRv HA az aB HS2 ag hk;go_wp2_with fail
  refine ax.out.mono ?_;rintro e wz ⟨rfl,rfl⟩;go_upto_region 3 with fail
  rw[HW2.out];clear HW2 d7 f7;go_upto_region 5 with fail
  rw[HW3.out];clear HW3 c8 f8;go_wp2_with fail
  refine bC.out.mono ?_;rintro e w4 ⟨rfl,bK,R4,ay,ak⟩;obtain⟨aI,bE⟩:=fT (aI.out w4 bK R4 ay) (bD.out.trans ak);clear ay ak bD bC;go_wp2_with fail
  refine aI.out.mono ?_;rintro e w5 ⟨rfl,R5,hS5,bF⟩;have HD:=eZ (show Q (.returned (.tuple #[])) w5 by rw[<-HQ.out];exact⟨rfl,_,R5,hS5,bE.out.trans bF⟩);clear hS5 bF bE aI;go_wp2_with fail
  try go_end0
  exact HD.out
 have g20:((KK:Int)==20)=false:=by simp;omega
 obtain⟨hq1,hok,ae,h2,hdp,hn,hd,hrt,hsk,af,h1⟩:=HA.out;have hQ:=az.out;rw[eX hk]at hQ;have hpos:=hok.pos;rcases List.eq_nil_or_concat q.st with hst|⟨pre,D,hst⟩
 ·rw[hst]at hQ;have aF:=xW w0 w2 rb c q1 lv R 0 8 (F+1) T HS2.out (by rw[<-hq1];exact hpos) (by omega) h2 (by rw[<-hq1];show q.s.t.length<=_;omega) (by rw[<-hq1];show q.s.d.length<=_;omega)
  have aG:=eZ (aF.mono (λe w' h=>show e=.returned (.tuple #[])/\Q (.returned (.tuple #[])) w' from by
   obtain⟨rfl,R5,h5,h6⟩:=h;refine⟨rfl,?_⟩;rw[<-hQ];refine⟨rfl,lv,R5,?_,ag.out.trans h6⟩;rw[<-hq1]at h5;have e:(⟨Pr.fault c.l q.s 0 8 (F+1) T,q.row,EN,q.st⟩:Pr.QS)=⟨Pr.fault c.l ⟨Pr.wF q.s.t (F+1) [],q.s.d⟩ 0 8 (F+1) T,q.row,EN,[]⟩:=by
    rw[hst]
    first|done|rfl
   have h5:fV w0 w' rb c (⟨Pr.fault c.l q.s 0 8 (F+1) T,q.row,EN,q.st⟩:Pr.QS) lv R5:=h5;rw[e]at h5
   exact h5))
  obtain⟨a8,k8,-,c8,-⟩:=HS2.out.c8;rw[show q1.st.length=0 by rw[<-hq1];show q.st.length=0;rw[hst];rfl]at c8;have y2:w2.cell? ⟨bx,2,none⟩=some (.int .i64 (T:Int)):=(gG aB.out 2).trans rfl;clear hq1 hok ae h2 hdp hn hd hrt hsk af h1 hQ hpos hst aF HA az aB HS2 ag hk;go_wp2_with fail
  refine ax.out.mono ?_;rintro e wz ⟨rfl,rfl⟩;go_upto_region 3 with fail
  rw[HW2.out];clear HW2 d7 f7;go_wp2_with fail
  refine aG.out.mono ?_;rintro e w5 ⟨rfl,hq⟩;have HD:=eZ hq;clear hq;go_wp2_with fail
  try go_end0
  exact HD.out
 rw[List.concat_eq_append]at hst;rw[hst,Bq]at hQ;have hDn:=(hok.lv D (by rw[hst];simp)).1;have av:q1.st=pre++D::[]:=by rw[<-hq1];exact hst
 have hRe:=Ut w0 w2 rb c q1 lv R D.node (F+1) HS2.out (by rw[<-hq1];exact hDn);obtain⟨gl,cap,hlv,-,-,-,-⟩:=jM (E:=pg) HS2.out.Q8.1 (by rw[av];simp);have c8:=HS2.out.Q8.2.1;subst hlv;have v1:w2.cell? ⟨gl,1,none⟩=some (.int .i64 (D.node:Int)):=HS2.out.Ff av 1 _ rfl;obtain⟨SL,aU⟩:=fq (q1.st.reverse.length);have bG:0<SL:=by rw[<-aU,Db,av];simp
 rw[aU]at c8;have bO:(0:Int)<(SL:Int):=by omega
 have aM:=λW lv' R' (hW:fV w0 W rb c {q1 with s:=⟨Pr.reach q1.s.t D.node ((F+1:Nat):Int),q1.s.d⟩} lv' R')=>hW.U5
 have aF:=λW lv' R' (hW:fV w0 W rb c {({q1 with s:=⟨Pr.reach q1.s.t D.node ((F+1:Nat):Int),q1.s.d⟩}:Pr.QS)with st:=[]} lv' R')=>xW w0 W rb c _ lv' R' 0 8 (F+1) T hW (by show 0<(Pr.reach q1.s.t _ _).length;rw[Pr.ry,<-hq1];exact hpos) (by omega) h2 (by show(Pr.reach q1.s.t _ _).length<=_;rw[Pr.ry,<-hq1];show q.s.t.length<=_;omega) (by rw[<-hq1];show q.s.d.length<=_;omega)
 obtain⟨bH,aN⟩:=fT hRe aM
 have aG:=eZ (λW lv' R' hW hF=>(aF W lv' R' hW).mono (λe w' h=>show e=.returned (.tuple #[])/\Q (.returned (.tuple #[])) w' from by
  obtain⟨rfl,R5,h5,h6⟩:=h;refine⟨rfl,?_⟩;rw[<-hQ];refine⟨rfl,lv',R5,?_,FP.trans (a:=w) (b:=W) (R':=R') hF h6⟩;rw[<-hq1]at h5
  exact h5))
 have bL:=eZ v1;clear hq1 hok ae h2 hdp hn hd hrt hsk af h1 hQ hpos hst aF HA az hk hDn av hRe aU bG aM v1;go_wp2_with fail
 refine ax.out.mono ?_;rintro e wz ⟨rfl,rfl⟩;have v1:=bL.out;go_upto_region 3 with fail
 rw[HW2.out];clear HW2 d7 f7;go_wp2_with fail
 refine bH.out.mono ?_;rintro e w3 ⟨rfl,R3,ah,aj⟩;obtain⟨R4,ay,ak⟩:=aN.out w3 _ R3 ah;obtain⟨a9,k9,-,c9,f9⟩:=ah.c8;have f9:=f9 8;have bI:=HS2.out.boxed aj aB.out (by decide) (by decide) (by decide) (by decide) (by decide);have aV:=ah.boxed ak bI (by decide) (by decide) (by decide) (by decide) (by decide);obtain⟨w4,hw4⟩:=fq (w3.setCell ⟨rb,8,none⟩ (.slice none 0 0));rw[hw4]at ay ak aV;have y2:w4.cell? ⟨bx,2,none⟩=some (.int .i64 (T:Int)):=(gG aV 2).trans rfl;have aG:=eZ (aG.out w4 _ R4 ay (ag.out.trans (aj.trans ak)));have bJ:=eZ hw4;clear ah aj ay ak bI aV hw4 aN bH ag HS2 aB c8 v1 t1 t0;go_upto_region 10 with fail
 rw[bJ.out];clear bJ c9 f9;go_wp2_with fail
 refine aG.out.mono ?_;rintro e w5 ⟨rfl,hq⟩;have HD:=eZ hq;clear hq;go_wp2_with fail
 try go_end0
 exact HD.out
end
section
open Go.RowKit
open Sq
open Ar
theorem fV.Xk{w0 w:World}{rb:Nat}{c:Ctx}{q:Pr.QS}{lv v:Value}{R:Nat->Prop}{B e s n:Nat}{xs:List Value}(hS:fV w0 w rb c q lv R)(h:w.ownsRow B e s v n xs)(h1:3≠e)(h2:38≠e)(h3:40≠e)(h4:91≠e)(h5:e≠58):
 ∀k,v.ownBlock=some k->k<w.heap.size/\k≠rb/\¬R k:=λk hk=>by
 obtain⟨nv,dv,L,hM,hL,hTr,rfl⟩:=hS;refine⟨(h.lt k hk).2,λe=>fF h hM.box h5 (e▸hk),λhg=>?_⟩;rcases hg with hg|hg|hg|⟨p,hp,hg⟩
 ·exact fH hM.nodes.row h h2 k hg hk
 ·exact fH hM.told h h3 k hg hk
 ·exact fH hM.levels h h4 k hg hk
 obtain⟨i,hi⟩:=lh hp;exact fH (hM.nodes.kids i p hi) h h1 k hg hk
structure BI(w0 w wr:World)(rb:Nat)(c:Ctx)(q q1 q':Pr.QS)(lv:Value)(R R':Nat->Prop)(bx BE:Nat)(CB:Array Value)(ev:Value)(es:List Rw.E)(T k:Nat):Prop where
 st:fV w0 wr rb c q' lv R'
 fp:FP w wr rb R R'
 box:wr.heap[bx]?=some (.cells CB 61 (0,0))
 iP:wr.ownsRow BE 97 4 ev es.length (qc.all es)
 ok:Pr.nZ q'
 bot:vE q'.st
 len:q'.st.length<=c.depth+1
 row:q'.row=q.row
 en:q'.en=q.en
 told:q'.s.d=q.s.d
 size:q'.s.t.length<=q1.s.t.length+3*k
 pl:Pr.places c.l c.depth T q' (es.drop k)=Pr.places c.l c.depth T q1 es
theorem BI.below{w0 w wr wr':World}{rb:Nat}{c:Ctx}{q q1 q':Pr.QS}{lv:Value}{R R':Nat->Prop}{bx BE:Nat}{CB:Array Value}{ev:Value}{es:List Rw.E}{T k:Nat}(h:BI w0 w wr rb c q q1 q' lv R R' bx BE CB ev es T k)(hb:Below wr.heap.size wr wr'):BI w0 w wr' rb c q q1 q' lv R R' bx BE CB ev es T k:=
 ⟨h.st.below hb,h.fp.trans (FP.below hb),(hb.block bx (il h.box)).trans h.box,fQ h.iP hb,h.ok,h.bot,h.len,h.row,h.en,h.told,h.size,h.pl⟩
theorem BI.next{w0 w wr w':World}{rb:Nat}{c:Ctx}{q q1 q':Pr.QS}{lv lv':Value}{R R' R2:Nat->Prop}{bx BE:Nat}{CB:Array Value}{ev:Value}{es:List Rw.E}{T k:Nat}{e:Rw.E}(h:BI w0 w wr rb c q q1 q' lv R R' bx BE CB ev es T k)(he:es[k]?=some e)(h0:(Pr.place c.l c.depth q' e).1=0)
 (hS:fV w0 w' rb c (Pr.place c.l c.depth q' e).2 lv' R2) (hF:FP wr w' rb R' R2):BI w0 w w' rb c q q1 (Pr.place c.l c.depth q' e).2 lv' R R2 bx BE CB ev es T (k+1):=by
 obtain⟨o1,o2,o3,o4,o5,o6⟩:=Pr.pO h.ok c.l c.depth e;obtain⟨p1,p2,-⟩:=Av c.l c.depth e h.bot h.len;have hoff:=h.st.Xk h.iP (by decide) (by decide) (by decide) (by decide) (by decide);have hk:=(gD.1 he).1;have hdr:es.drop k=e::es.drop (k+1):=by rw[vZ hk];rw[(gD.1 he).2]
 refine⟨hS,h.fp.trans hF,h.st.boxed hF h.box (by decide) (by decide) (by decide) (by decide) (by decide),fU h.iP (λg hg=>hF.block g (hoff g hg).1 (hoff g hg).2.1 (hoff g hg).2.2),o1,p1,p2,by rw[o5,h.row],by rw[o6,h.en],by rw[o4,h.told],by have:=h.size;omega,?_⟩;rw[<-h.pl,hdr,Pr.places];rw[eY h0]
theorem Jo{l:List Tk}{depth T:Nat}{q':Pr.QS}{e:Rw.E}{es:List Rw.E}(h:(Pr.place l depth q' e).1≠0):Pr.places l depth T q' (e::es)=(false,{q' with s:=Pr.fault l q'.s (Pr.mq q'.st) (Pr.place l depth q' e).1 e.from' T}):=by
 rw[Pr.places];rw[eX h]
theorem Mv(w0 w:World)(rb:Nat)(c:Ctx)(q:Pr.QS)(lv:Value)(R:Nat->Prop)(r:Rw.R)(hS:fV w0 w rb c q lv R)(hok:Pr.nZ q)(ae:nO c.l)(bn:∀x∈c.l,x.2.1<=1000000)(h1:r.from'<r.bu)(h2:r.bu<=c.l.length)(hdp:c.depth<=50)(hn:q.s.t.length<=500000000000)(hd:q.s.d.length<=500000000000)(hrt:∀r∈c.rs,r.bu<=c.l.length)
 (hb0:q.st=[]\/vE q.st) (hbl:q.st.length<=c.depth+1) (hel:(Rw.iP c.l r).1.length<=100000) (hes:∀e∈(Rw.iP c.l r).1,0<=e.fG/\Fl.cnt (Fl.raw c.l e.from')=true/\e.from'<e.bu/\e.bu<=r.bu) (hre:(Rw.iP c.l r).2<=r.bu/\(Rw.iP c.l r).2<=q.en) (hen:q.en<=c.l.length)
 (hsk:∀d,Pr.skip c.rs q.row (Fl.jd c.l q.en d 0 (Rw.iP c.l r).2 ⟨gV c.l.length,[]⟩).2.1<c.rs.length):
 Calls prog 40 #[RP rb,KT r] w (qM w0 w rb c R (.tuple #[]) (Pr.body c.l c.rs c.depth q r)):=by
 have aS:=λW (hW:Reads iU W c.tv c.l) bv=>Qs bv c.tv c.l r W hW hS.tok.2.2 bn (nX h1) h2
 obtain⟨ES,bq⟩:=fq (Rw.iP c.l r);obtain⟨Q,hQ⟩:=fq (qM w0 w rb c R (.tuple #[]) (Pr.body c.l c.rs c.depth q r));rw[hQ];unfold Pr.body at hQ;dsimp only at hQ;rw[bq]at hQ hel hes hre hsk aS;obtain⟨es,rest⟩:=ES;try dsimp only at hQ hel hes hre hsk aS
 obtain⟨kd,F,T,fG⟩:=r;try dsimp only at h1 h2 hQ hes hre
 obtain⟨wb,hwb⟩:=fq (w.alloc (.cells #[.int .i64 (kd:Int),.int .i64 (F:Int),.int .i64 (T:Int),.int .i64 fG] 61));obtain⟨bx,hbx⟩:=fq (w.heap.size);have hbw:Below w.heap.size w wb:=hwb▸fo w _;have kb:wb.heap[bx]?=some (.cells #[.int .i64 (kd:Int),.int .i64 (F:Int),.int .i64 (T:Int),.int .i64 fG] 61 (0,0)):=by rw[<-hwb,<-hbx];exact j5 _ _
 have hSb:=hS.below hbw;obtain⟨k1,k2,k3⟩:=hSb.tok;have HC:=eZ (xe rb c.tv c.l F T wb k1 k2 (by omega) h2 k3);have hge:=Ps.kQ c.l F T;obtain⟨x,hx⟩:=fq (Ps.lo c.l F T);rw[hx]at HC hge hQ;have hlo:x<=100000:=by rw[<-hx];have:=Ps.lo_le c.l (show F<=T by omega);omega
 have hO:=Ap w0 wb rb c q lv R x hSb hok.pos (by omega) hlo;obtain⟨o1,o2,o3,o4,-⟩:=Pr.lZ hok x;have o5:=oF x hb0;have o6:=pU x c.depth hbl;have o7:(Pr.fM q x).row=q.row/\(Pr.fM q x).en=q.en:=by unfold Pr.fM;cases q.st<;>exact⟨rfl,rfl⟩
 obtain⟨q1,hq1⟩:=fq (Pr.fM q x);rw[hq1]at hO o1 o2 o3 o4 o5 o6 o7 hQ;have x1:wb.cell? ⟨bx,1,none⟩=some (.int .i64 (F:Int)):=gG kb 1;have x2:wb.cell? ⟨bx,2,none⟩=some (.int .i64 (T:Int)):=gG kb 2;have bz:FP w wb rb R R:=FP.below hbw;obtain⟨bA,bB,bC,bD,bE,HO⟩:=kJ hwb hbx kb hSb bz hO;obtain⟨bF,ai⟩:=fT aS hQ;have bG:=eZ (And.intro o1 (And.intro o2 (And.intro o3 (And.intro o4 (And.intro o5 (And.intro o6 o7))))));have HA:=eZ (And.intro ae (And.intro h1 (And.intro h2 (And.intro hdp (And.intro hn (And.intro hd (And.intro hrt (And.intro hel (And.intro hes (And.intro hre (And.intro hen hsk)))))))))));have HS:=eZ hS;have hls:=k3;clear hwb hbx hbw kb hSb hS k1 k2 hx hge bz hQ hq1 hO o1 o2 o3 o4 o5 o6 o7 ae bn h1 h2 hdp hn hd hrt hb0 hbl hel hes hre hen hsk aS bq hok hls
 go_enter func40,ntmps40
 go_upto_region 1 with fail
 rw[bA.out,bB.out];clear bA bB;go_wp2_with fail
 refine HC.out.mono ?_;rintro e w1 ⟨rfl,rfl⟩;go_wp2_with fail
 refine HO.out.mono ?_;rintro e w2 ⟨rfl,bH,R2,hS2,hF2⟩;have ay:=bD.out.boxed hF2 bC.out (by decide) (by decide) (by decide) (by decide) (by decide);have hbv:∃bv,w2.cell? ⟨rb,0,none⟩=some bv:=by
  obtain⟨nv,dv,L,hM,_⟩:=hS2;exact⟨_,bx0 hM.box⟩
 obtain⟨bv,n0⟩:=hbv;obtain⟨TV,bI⟩:=fq (c.tv);have n1:w2.cell? ⟨rb,1,none⟩=some TV:=by rw[<-bI];exact hS2.tok.1
 have z0:w2.cell? ⟨bx,0,none⟩=some (.int .i64 (kd:Int)):=gG ay 0;have z1:w2.cell? ⟨bx,1,none⟩=some (.int .i64 (F:Int)):=gG ay 1;have z2:w2.cell? ⟨bx,2,none⟩=some (.int .i64 (T:Int)):=gG ay 2;have z3:w2.cell? ⟨bx,3,none⟩=some (.int .i64 fG):=gG ay 3;have aD:=eZ (bF.out w2.drew (hS2.tok.2.1.below (fI _ w2).drew) bv);rw[bI]at aD;obtain⟨HS2,bJ,aW⟩:=jF hS2 (bE.out.trans hF2) ay;clear ay hS2 hF2 bE bD bC HO HC bF x1 x2;go_upto_region 2 with fail
 refine gK (λwx=>wx.cell? ⟨rb,0,none⟩=some bv/\wx.cell? ⟨rb,1,none⟩=some TV/\wx.cell? ⟨bx,0,none⟩=some (.int .i64 (kd:Int))/\wx.cell? ⟨bx,1,none⟩=some (.int .i64 (F:Int))/\wx.cell? ⟨bx,2,none⟩=some (.int .i64 (T:Int))/\wx.cell? ⟨bx,3,none⟩=some (.int .i64 fG)) 9 (by kernel_rfl) ?_;have hH:(λwx:World=>wx.cell? ⟨rb,0,none⟩=some bv/\wx.cell? ⟨rb,1,none⟩=some TV/\wx.cell? ⟨bx,0,none⟩=some (.int .i64 (kd:Int))/\wx.cell? ⟨bx,1,none⟩=some (.int .i64 (F:Int))/\wx.cell? ⟨bx,2,none⟩=some (.int .i64 (T:Int))/\wx.cell? ⟨bx,3,none⟩=some (.int .i64 fG)) w2.drew:=⟨fE n0,fE n1,fE z0,fE z1,fE z2,fE z3⟩
 refine iD 0 (.pointer (some ⟨rb,0,none⟩)) rfl (by kernel_rfl) rfl fC (λW=>by go_simp) (λ_=>hH) ?_;refine iD 1 (.pointer (some ⟨rb,0,none⟩)) rfl (by kernel_rfl) rfl fC (λW=>by go_simp) (λ_=>hH) ?_;refine iD 2 (.pointer (some ⟨rb,0,none⟩)) rfl (by kernel_rfl) rfl fC (λW=>by go_simp) (λ_=>hH) ?_;refine ik 3 bv rfl (by kernel_rfl) rfl fC (λW hW=>?_) hH ?_
 ·obtain⟨z0,z1,z2,z3,z4,z5⟩:=hW;go_simp
 refine iD 4 (.pointer (some ⟨rb,0,none⟩)) rfl (by kernel_rfl) rfl fC (λW=>by go_simp) (λ_=>hH) ?_;refine iD 5 (.pointer (some ⟨rb,0,none⟩)) rfl (by kernel_rfl) rfl fC (λW=>by go_simp) (λ_=>hH) ?_;refine iD 6 (.pointer (some ⟨rb,1,none⟩)) rfl (by kernel_rfl) rfl fC (λW=>by go_simp) (λ_=>hH) ?_;refine ik 7 TV rfl (by kernel_rfl) rfl fC (λW hW=>?_) hH ?_
 ·obtain⟨z0,z1,z2,z3,z4,z5⟩:=hW;go_simp
 refine ik 8 (.agg #[.int .i64 (kd:Int),.int .i64 (F:Int),.int .i64 (T:Int),.int .i64 fG]) rfl (by kernel_rfl) rfl fC (λW hW=>?_) hH ?_
 ·obtain⟨z0,z1,z2,z3,z4,z5⟩:=hW;go_simp
 refine mO 9 (by kernel_rfl) rfl λK hK=>?_
 go_simp;refine aD.out.mono ?_;rintro e w3 ⟨ev,rfl,hown3,hb3⟩;have aj:=eZ hown3;have HB3:=eZ (fD (fI _ w2).drew hb3);clear hown3 hb3 n0 n1 z0 z1 z2 z3;refine hK.out _ _ (kC (by kernel_rfl)) (λ_=>?_);clear hK K;try simp only[Act.put,fK,fP,fO]
 refine iD 10 (.tuple #[ev,.int .i64 (rest:Int)]) rfl (by kernel_rfl) rfl fC (λW=>by go_simp) (kC (by kernel_rfl)) ?_;refine iD 11 ev rfl (by kernel_rfl) rfl fC (λW=>by go_simp) (kC (by kernel_rfl)) ?_;refine iD 12 (.int .i64 (rest:Int)) rfl (by kernel_rfl) rfl fC (λW=>by go_simp) (kC (by kernel_rfl)) ?_;refine iD 13 ev rfl (by kernel_rfl) rfl fC (λW=>by go_simp) (kC (by kernel_rfl)) ?_;refine iD 14 (.int .i64 (rest:Int)) rfl (by kernel_rfl) rfl fC (λW=>by go_simp) (kC (by kernel_rfl)) ?_;refine gH (by kernel_rfl) ?_ _;obtain⟨o1,o2,o3,o4,o5,o6,o7,o8⟩:=bG.out;obtain⟨ea,ec,rfl⟩:=(Reads.fJ (E:=qc) aj.out).shape;obtain⟨N,hN⟩:=fq (es.length);obtain⟨BE,bK⟩:=fq (w2.drew.heap.size);have hown:=aj.out;rw[bK]at hown;have HI0:=eZ (show BI w0 w w3 rb c q q1 q1 bH R R2 bx BE #[.int .i64 (kd:Int),.int .i64 (F:Int),.int .i64 (T:Int),.int .i64 fG] (.slice ea es.length ec) es T 0 from⟨HS2.out.below HB3.out,bJ.out.trans (FP.below HB3.out),(HB3.out.block bx (il aW.out)).trans aW.out,hown,o1,o5,o6,o7,o8,o4,by omega,rfl⟩);rw[hN]at HI0⊢;have HN:=eZ hN;have az:=eZ (show q1.s.t.length<=q.s.t.length+1 from o3);clear hown bK hN o1 o2 o3 o4 o5 o6 o7 o8 aj HB3 HS2 bJ aW aD bG;go_wp2_with fail
 go_loopw [32] (λiv wr=>∃(k:Nat)(q':Pr.QS)(lv':Value)(R':Nat->Prop),iv=.int .i64 k/\k<=N/\Hid (BI w0 w wr rb c q q1 q' lv' R R' bx BE #[.int .i64 (kd:Int),.int .i64 (F:Int),.int .i64 (T:Int),.int .i64 fG] (.slice ea N ec) es T k)) (λiv _=>N-(intOf iv).toNat)
 case atStart=>exact⟨0,q1,bH,R2,rfl,ic _,HI0⟩
 case round=>
  obtain⟨k,q',lv',R',rfl,hk,HI⟩:=hrel;have hI:=HI.out;obtain⟨ae,h1,h2,hdp,hn,hd,hrt,hel,hes,hre,hen,hsk⟩:=HA.out;have hls:=HI.out.st.tok.2.2;have hsz:=hI.size;have ho3:=az.out;have ag:=HN.out;by_cases hlt:k<N
  ·obtain⟨e,he⟩:=jB es k (by omega);obtain⟨e1,e2,e3,e4⟩:=hes e (iK he);obtain⟨be,hbe⟩:=fq (wr.heap.size);obtain⟨W1,hW1⟩:=fq (wr.alloc (.cells #[.bool e.dash,.int .i64 e.fG,.int .i64 (e.from':Int),.int .i64 (e.bu:Int)] 97));have aX:Below wr.heap.size wr W1:=hW1▸fo wr _;have ah:W1.heap[be]?=some (.cells #[.bool e.dash,.int .i64 e.fG,.int .i64 (e.from':Int),.int .i64 (e.bu:Int)] 97 (0,0)):=by rw[<-hW1,<-hbe];exact j5 _ _
   have hI1:=hI.below aX;have aA:=WN w0 W1 rb c q' lv' R' e hI1.st hI1.ok hI1.bot e1 e3 (by omega) e2 (by omega) (by have:=hI1.len;omega) (by omega);have hbad:=(Av c.l c.depth e hI1.bot hI1.len).2.2;obtain⟨PL,aY⟩:=fq (Pr.place c.l c.depth q' e);have hnext:=λw' aV bL h0 (hS:fV w0 w' rb c (Pr.place c.l c.depth q' e).2 aV bL) hF=>hI1.next (w':=w') (lv':=aV) (R2:=bL) he h0 hS hF
   have hpb:=λh=>Jo (l:=c.l) (depth:=c.depth) (T:=T) (q':=q') (e:=e) (es:=es.drop (k+1)) h
   have hdr:es.drop k=e::es.drop (k+1):=by rw[vZ (by omega)];rw[(gD.1 he).2]
   have hpl:=hI1.pl;rw[hdr]at hpl;rw[aY]at aA hbad hnext hpb;have hrd:Reads qc wr (.slice ea es.length ec) es:=by
    have:=Reads.fJ (E:=qc) hI.iP;rw[<-ag]at this;exact this
   obtain⟨eb,bV,bS,c0,c1,c2,c3⟩:=Tq hrd k e he;subst bS;obtain⟨ed,bT,EF,ET⟩:=e;dsimp only at e1 e2 e3 e4 ah c0 c1 c2 c3 hW1 aA hpb;obtain⟨PC,PQ⟩:=PL;dsimp only at aA hbad hnext hpb;have b0:W1.cell? ⟨be,0,none⟩=some (.bool ed):=gG ah 0;have b1:W1.cell? ⟨be,1,none⟩=some (.int .i64 bT):=gG ah 1;have b2:W1.cell? ⟨be,2,none⟩=some (.int .i64 (EF:Int)):=gG ah 2;have b3:W1.cell? ⟨be,3,none⟩=some (.int .i64 (ET:Int)):=gG ah 3;have gk:(k:Int)<(N:Int):=by omega
   have bW:N<=100000:=by omega
   obtain⟨aT,HW1,aU⟩:=jF aA hW1 hbe;by_cases hpc:PC=0
   ·subst hpc;have bM:=eZ hnext;clear hI ae h1 h2 hdp hn hd hrt hel hes hre hen hsk hls hsz ho3 ag he e1 e2 e3 e4 hbe hW1 aX ah hI1 aA hbad aY hnext hpb hdr hpl hrd HI HA ai HI0 az HS;go_upto_region 6 with fail
    rw[HW1.out,aU.out];clear HW1 aU c0 c1 c2 c3;go_wp2_with fail
    refine aT.out.mono ?_;rintro e' w4 ⟨rfl,aB,R4,af,ak⟩;have bU:=eZ (bM.out w4 aB R4 (by first|rfl|trivial) af ak);clear af ak aT bM b0 b1 b2 b3;rw[show uQ 0=-1 from rfl];go_wp2_with fail
    go_roundw
    case rel=>exact⟨k+1,PQ,aB,R4,by go_num,by omega,bU⟩
    case measure=>simp[intOf];omega
   obtain rfl:PQ=q':=hbad hpc;have hQ:=ai.out;rw[<-hpl,hpb hpc]at hQ;rw[eX (by show¬(false=true);decide)]at hQ;dsimp only at hQ;obtain⟨hh,tl,hst⟩:∃hh tl,PQ.st=hh::tl:=by
    obtain⟨pre,D,e5,_⟩:=hI1.bot;cases pre with
    |nil=>exact⟨_,_,e5⟩
    |cons x y=>exact⟨_,_,e5⟩
   rw[show Pr.mq PQ.st=Pr.free hh by rw[hst];rfl]at hQ;have aF:=eZ (show tl.length<=1000000 by have h9:=hI1.len;rw[hst,jh]at h9;omega);have aG:=eZ (show Pr.free hh<PQ.s.t.length from Pr.Ef (hI1.ok.lv hh (by rw[hst];simp)));have aH:=eZ (show PQ.s.t.length<=900000000000 by omega);have aI:=eZ (show PQ.s.d.length<=1000000000000 by have h9:=hI1.told;rw[h9];omega);have aJ:=eZ (show EF<=T by omega);obtain⟨aK,HI1,aL,bN⟩:=oN h2 hI1 hst ah;have hcode:uQ PC=(PC:Int):=by unfold uQ;rw[eX hpc]
   have bX:((PC:Int)==-1)=false:=by simp
   have aM:=eZ hQ;clear hI ae h1 h2 hdp hn hd hrt hel hes hre hen hsk hls hsz ho3 ag he e1 e2 e3 e4 hbe hW1 aX ah hI1 aA hbad aY hnext hpb hdr hpl hrd HI HA ai HI0 az HS hQ hst hpc;go_upto_region 6 with fail
   rw[HW1.out,aU.out];clear HW1 aU c0 c1 c2 c3;go_wp2_with fail
   refine aT.out.mono ?_;rintro e' w4 ⟨rfl,aB,R4,af,ak⟩;rw[hcode];have bO:=HI1.out.st.boxed ak HI1.out.box (by decide) (by decide) (by decide) (by decide) (by decide);have bP:=HI1.out.st.boxed ak bN.out (by decide) (by decide) (by decide) (by decide) (by decide);have x2:w4.cell? ⟨bx,2,none⟩=some (.int .i64 (T:Int)):=gG bO 2;have y2:w4.cell? ⟨be,2,none⟩=some (.int .i64 (EF:Int)):=gG bP 2;obtain⟨gl,cap,hlv,hfz,hcl,c8,-⟩:=af.top aL.out;have aC:=eZ (vO w4.drew rb gl tl.length cap (fE c8) aF.out);have aZ:=eZ (λW (hW:Below w4.heap.size w4 W)=>Nv W gl (tl.length*5) hh (λj u hu=>fu hW (hcl j u hu)));have bf:=eZ (λW (hW:Below w4.heap.size w4 W)=>xW w0 W rb c PQ aB R4 (Pr.free hh) PC EF T (af.below hW) aG.out aJ.out aK.out aH.out aI.out)
   have HQ:=eZ (λw7 R7 (aa:Nat)(h1:fV w0 w7 rb c {PQ with s:=Pr.fault c.l PQ.s (Pr.free hh) PC EF T} aB R7)(h2:FP (w4.drewN aa) w7 rb R4 R7)=>show Q (.returned (.tuple #[])) w7 by
    rw[<-aM.out]
    exact⟨rfl,aB,R7,h1,HI1.out.fp.trans (ak.trans ((FP.below (ji (fI _ w4) aa)).trans h2))⟩)
   clear af ak bO bP hlv hfz hcl c8 aG aJ aK aH aI aF aL HI1 bN aT aM b0 b1 b2 b3;go_upto_region 8 with fail
   refine gK (λwx=>wx.cell? ⟨be,2,none⟩=some (.int .i64 (EF:Int))/\wx.cell? ⟨bx,2,none⟩=some (.int .i64 (T:Int))) 9 (by kernel_rfl) ?_;have hH:(λwx:World=>wx.cell? ⟨be,2,none⟩=some (.int .i64 (EF:Int))/\wx.cell? ⟨bx,2,none⟩=some (.int .i64 (T:Int))) w4.drew:=⟨fE y2,fE x2⟩
   refine ik 0 (.pointer (some ⟨rb,0,none⟩)) rfl (by kernel_rfl) rfl fC (λW hW=>by go_simp) hH ?_;refine iD 1 (.pointer (some ⟨rb,0,none⟩)) rfl (by kernel_rfl) rfl fC (λW=>by go_simp) (λ_=>hH) ?_;refine ik 4 (.int .i64 (PC:Int)) rfl (by kernel_rfl) rfl fC (λW hW=>by go_simp) hH ?_;refine iD 5 (.pointer (some ⟨be,2,none⟩)) rfl (by kernel_rfl) rfl fC (λW=>by go_simp) (λ_=>hH) ?_;refine ik 6 (.int .i64 (EF:Int)) rfl (by kernel_rfl) rfl fC (λW hW=>?_) hH ?_
   ·obtain⟨z0,z1⟩:=hW;go_simp
   refine iD 7 (.pointer (some ⟨bx,2,none⟩)) rfl (by kernel_rfl) rfl fC (λW=>by go_simp) (λ_=>hH) ?_;refine ik 8 (.int .i64 (T:Int)) rfl (by kernel_rfl) rfl fC (λW hW=>?_) hH ?_
   ·obtain⟨z0,z1⟩:=hW;go_simp
   refine mO 2 (by kernel_rfl) rfl λK hK=>?_
   go_simp;refine aC.out.mono ?_;rintro e w5 ⟨rfl,aa,rfl⟩;refine hK.out _ _ (λ_=>⟨hH.1,hH.2⟩) (λhH2=>?_);clear hK K;replace hH:=hH2 (by kernel_rfl);clear hH2;try simp only[Act.put,fK,fP,fO]
   refine mO 3 (by kernel_rfl) rfl λK hK=>?_
   go_simp;refine(aZ.out _ (ji (fI _ _) _)).mono ?_;rintro e w6 ⟨rfl,rfl⟩;refine hK.out _ _ (λ_=>⟨hH.1,hH.2⟩) (λhH2=>?_);clear hK K;replace hH:=hH2 (by kernel_rfl);clear hH2;try simp only[Act.put,fK,fP,fO]
   refine mO 9 (by kernel_rfl) rfl λK hK=>?_
   go_simp;refine(bf.out _ (ji (fI _ _) _)).mono ?_;rintro e w7 ⟨rfl,R7,aN,aO⟩;have HD:=eZ (HQ.out w7 R7 _ aN aO);clear aN aO;refine hK.out _ _ (kC (by kernel_rfl)) (λ_=>?_);clear hK K;try simp only[Act.put,fK,fP,fO]
   refine gH (by kernel_rfl) ?_ _;go_wp2_with fail
   try go_end0
   exact HD.out
  obtain rfl:k=N:=by omega
  have hpl:=hI.pl;have hdr:es.drop k=[]:=mI (by omega);rw[hdr,show Pr.places c.l c.depth T q' []=(true,q')from rfl]at hpl;have hQ:=ai.out;rw[<-hpl]at hQ;rw[eY (show(true,q').1=true from rfl)]at hQ;dsimp only at hQ;obtain⟨hh,tl,hst⟩:∃hh tl,q'.st=hh::tl:=by
   obtain⟨pre,D,e5,_⟩:=hI.bot;cases pre with
   |nil=>exact⟨_,_,e5⟩
   |cons x y=>exact⟨_,_,e5⟩
  have hmd:tl.length<=c.depth:=by have h9:=hI.len;rw[hst,jh]at h9;omega
  have ax:=λW (hW:Below wr.heap.size wr W)=>Bl w0 W rb c q' lv' R' hh tl rest (hI.st.below hW) hst hI.ok ae (by rw[hI.en];exact hre.2) (by rw[hI.en];exact hen) hmd hdp (by omega) (by rw[hI.told];omega) hrt (by rw[hI.row,hI.en];exact hsk _)
  have gi:¬(k:Int)<(k:Int):=by omega
  have z3:wr.cell? ⟨bx,3,none⟩=some (.int .i64 fG):=gG hI.box 3;have z2:wr.cell? ⟨bx,2,none⟩=some (.int .i64 (T:Int)):=gG hI.box 2;obtain⟨aP,bg⟩:=fT ax hI.fp;by_cases av:es=[]
  ·have hk0:k=0:=by rw[<-ag,av];rfl
   have gN:((k:Int)==0)=true:=by simp[hk0]
   obtain⟨gl,cap,hlv,hfz,hcl,c8,-⟩:=hI.st.top hst;have aC:=eZ (vO wr.drew rb gl tl.length cap (fE c8) (by omega));obtain⟨tk,htk⟩:=fq ((!hh.full&&decide (hh.fG<fG)));have bQ:=eZ (λW (hW:Below wr.heap.size wr W)=>show Calls prog 68 #[.pointer (some ⟨gl,tl.length*5,none⟩),.int .i64 fG] W λe w'=>e=.returned (.bool tk)/\W=w' from by rw[<-htk];exact WJ W gl (tl.length*5) hh fG (λj u hu=>fu hW (hcl j u hu)));have aQ:Pr.takes fG q'.st=tk:=by rw[hst];exact htk
   rw[aQ]at hQ;cases tk with
   |true=>
    rw[eX (by rintro⟨_,h⟩;exact absurd h (by decide))]at hQ;have HQ:=eZ hQ;clear hI ae h1 h2 hdp hn hd hrt hel hes hre hen hsk hls hsz ho3 ag HI HA ai HI0 az HS hQ hst hmd ax hpl hdr hlt av hk0 hlv hfz hcl c8 htk aQ;go_upto_region 10 with fail
    refine gK (λwx=>wx.cell? ⟨bx,3,none⟩=some (.int .i64 fG)) 8 (by kernel_rfl) ?_;have hH:(λwx:World=>wx.cell? ⟨bx,3,none⟩=some (.int .i64 fG)) wr.drew:=fE z3;refine iD 0 (.slice ea k ec) rfl (by kernel_rfl) rfl fC (λW=>by go_simp) (λ_=>hH) ?_;refine iD 1 (.int .i64 (k:Int)) rfl (by kernel_rfl) rfl fC (λW=>by go_simp) (λ_=>hH) ?_;refine iD 2 (.bool true) rfl (by kernel_rfl) rfl fC (λW=>by go_simp) (λ_=>hH) ?_;refine ik 3 (.bool true) rfl (by kernel_rfl) rfl fC (λW hW=>by go_simp) hH ?_;refine iD 4 (.pointer (some ⟨rb,0,none⟩)) rfl (by kernel_rfl) rfl fC (λW=>by go_simp) (λ_=>hH) ?_;refine iD 6 (.pointer (some ⟨bx,3,none⟩)) rfl (by kernel_rfl) rfl fC (λW=>by go_simp) (λ_=>hH) ?_;refine ik 7 (.int .i64 fG) rfl (by kernel_rfl) rfl fC (λW hW=>by go_simp) hH ?_;refine mO 5 (by kernel_rfl) rfl λK hK=>?_
    go_simp;refine aC.out.mono ?_;rintro e w5 ⟨rfl,aa,rfl⟩;refine hK.out _ _ (λ_=>hH) (λhH2=>?_);clear hK K;replace hH:=hH2 (by kernel_rfl);clear hH2;try simp only[Act.put,fK,fP,fO]
    refine mO 8 (by kernel_rfl) rfl λK hK=>?_
    go_simp;refine(bQ.out _ (ji (fI _ wr) (1+aa))).mono ?_;rintro e w6 ⟨rfl,rfl⟩;refine hK.out _ _ (kC (by kernel_rfl)) (λ_=>?_);clear hK K;try simp only[Act.put,fK,fP,fO]
    refine iD 9 (.bool false) rfl (by kernel_rfl) rfl fC (λW=>by go_simp) (kC (by kernel_rfl)) ?_;refine iD 10 (.bool false) rfl (by kernel_rfl) rfl fC (λW=>by go_simp) (kC (by kernel_rfl)) ?_;refine gH (by kernel_rfl) ?_ _;go_wp2_with fail
    refine(aP.out _ (ji (fI _ wr) (1+aa))).mono ?_;rintro e w5 ⟨rfl,R5,hS5,aR⟩;have HD:=eZ (show Q (.returned (.tuple #[])) w5 by rw[<-HQ.out];exact⟨rfl,_,R5,hS5,bg.out.trans ((FP.below (ji (fI _ wr) (1+aa))).trans aR)⟩);clear hS5 aR;go_wp2_with fail
    try go_end0
    exact HD.out
   |false=>
    rw[eY ⟨av,rfl⟩]at hQ;rw[show Pr.mq q'.st=Pr.free hh by rw[hst];rfl]at hQ;have aF:=eZ (show tl.length<=1000000 by omega);have aG:=eZ (show Pr.free hh<q'.s.t.length from Pr.Ef (hI.ok.lv hh (by rw[hst];simp)));have aH:=eZ (show q'.s.t.length<=900000000000 by omega);have aI:=eZ (show q'.s.d.length<=1000000000000 by rw[hI.told];omega);have aJ:=eZ (show rest<=T from hre.1);obtain⟨aK,aL,bR,aM⟩:=oN h2 hst hI.st hQ;clear hI ae h1 h2 hdp hn hd hrt hel hes hre hen hsk hls hsz ho3 ag HI HA ai HI0 az HS hQ hst hmd ax hpl hdr hlt av hk0 hlv hfz hcl c8 htk aQ aP;go_upto_region 10 with fail
    refine gK (λwx=>wx.cell? ⟨bx,3,none⟩=some (.int .i64 fG)) 8 (by kernel_rfl) ?_;have hH:(λwx:World=>wx.cell? ⟨bx,3,none⟩=some (.int .i64 fG)) wr.drew:=fE z3;refine iD 0 (.slice ea k ec) rfl (by kernel_rfl) rfl fC (λW=>by go_simp) (λ_=>hH) ?_;refine iD 1 (.int .i64 (k:Int)) rfl (by kernel_rfl) rfl fC (λW=>by go_simp) (λ_=>hH) ?_;refine iD 2 (.bool true) rfl (by kernel_rfl) rfl fC (λW=>by go_simp) (λ_=>hH) ?_;refine ik 3 (.bool true) rfl (by kernel_rfl) rfl fC (λW hW=>by go_simp) hH ?_;refine iD 4 (.pointer (some ⟨rb,0,none⟩)) rfl (by kernel_rfl) rfl fC (λW=>by go_simp) (λ_=>hH) ?_;refine iD 6 (.pointer (some ⟨bx,3,none⟩)) rfl (by kernel_rfl) rfl fC (λW=>by go_simp) (λ_=>hH) ?_;refine ik 7 (.int .i64 fG) rfl (by kernel_rfl) rfl fC (λW hW=>by go_simp) hH ?_;refine mO 5 (by kernel_rfl) rfl λK hK=>?_
    go_simp;refine aC.out.mono ?_;rintro e w5 ⟨rfl,aa,rfl⟩;refine hK.out _ _ (λ_=>hH) (λhH2=>?_);clear hK K;replace hH:=hH2 (by kernel_rfl);clear hH2;try simp only[Act.put,fK,fP,fO]
    refine mO 8 (by kernel_rfl) rfl λK hK=>?_
    go_simp;refine(bQ.out _ (ji (fI _ wr) (1+aa))).mono ?_;rintro e w6 ⟨rfl,rfl⟩;refine hK.out _ _ (kC (by kernel_rfl)) (λ_=>?_);clear hK K;try simp only[Act.put,fK,fP,fO]
    refine iD 9 (.bool true) rfl (by kernel_rfl) rfl fC (λW=>by go_simp) (kC (by kernel_rfl)) ?_;refine iD 10 (.bool true) rfl (by kernel_rfl) rfl fC (λW=>by go_simp) (kC (by kernel_rfl)) ?_;refine gH (by kernel_rfl) ?_ _;go_upto_region 11 with fail
    have hb4:Below wr.heap.size wr (wr.drewN (1+aa)):=ji (fI _ wr) (1+aa);obtain⟨w4,hw4⟩:=fq (wr.drewN (1+aa));rw[hw4]at hb4⊢;have af:=bR.out.below hb4;have x2:=fu hb4 z2;obtain⟨gl,cap,hlv,hfz,hcl,c8,-⟩:=af.top aL.out;have aC:=eZ (vO w4.drew rb gl tl.length cap (fE c8) aF.out);have aZ:=eZ (λW (hW:Below w4.heap.size w4 W)=>Nv W gl (tl.length*5) hh (λj u hu=>fu hW (hcl j u hu)));have bf:=eZ (λW (hW:Below w4.heap.size w4 W)=>xW w0 W rb c q' lv' R' (Pr.free hh) 7 rest T (af.below hW) aG.out aJ.out aK.out aH.out aI.out)
    have HQ:=eZ (λw7 R7 (aa:Nat)(h1:fV w0 w7 rb c {q' with s:=Pr.fault c.l q'.s (Pr.free hh) 7 rest T} lv' R7)(h2:FP (w4.drewN aa) w7 rb R' R7)=>show Q (.returned (.tuple #[])) w7 by
     rw[<-aM.out]
     exact⟨rfl,lv',R7,h1,bg.out.trans ((FP.below hb4).trans ((FP.below (ji (fI _ w4) aa)).trans h2))⟩)
    clear af hlv hfz hcl c8 aG aJ aK aH aI aF aL bR aM z2 z3 hw4 hH;refine gK (λwx=>wx.cell? ⟨bx,2,none⟩=some (.int .i64 (T:Int))) 7 (by kernel_rfl) ?_;have hH:(λwx:World=>wx.cell? ⟨bx,2,none⟩=some (.int .i64 (T:Int))) w4.drew:=fE x2;refine ik 0 (.pointer (some ⟨rb,0,none⟩)) rfl (by kernel_rfl) rfl fC (λW hW=>by go_simp) hH ?_;refine iD 1 (.pointer (some ⟨rb,0,none⟩)) rfl (by kernel_rfl) rfl fC (λW=>by go_simp) (λ_=>hH) ?_;refine ik 4 (.int .i64 (rest:Int)) rfl (by kernel_rfl) rfl fC (λW hW=>by go_simp) hH ?_;refine iD 5 (.pointer (some ⟨bx,2,none⟩)) rfl (by kernel_rfl) rfl fC (λW=>by go_simp) (λ_=>hH) ?_;refine ik 6 (.int .i64 (T:Int)) rfl (by kernel_rfl) rfl fC (λW hW=>by go_simp) hH ?_;refine mO 2 (by kernel_rfl) rfl λK hK=>?_
    go_simp;refine aC.out.mono ?_;rintro e w5 ⟨rfl,aa,rfl⟩;refine hK.out _ _ (λ_=>hH) (λhH2=>?_);clear hK K;replace hH:=hH2 (by kernel_rfl);clear hH2;try simp only[Act.put,fK,fP,fO]
    refine mO 3 (by kernel_rfl) rfl λK hK=>?_
    go_simp;refine(aZ.out _ (ji (fI _ _) _)).mono ?_;rintro e w6 ⟨rfl,rfl⟩;refine hK.out _ _ (λ_=>hH) (λhH2=>?_);clear hK K;replace hH:=hH2 (by kernel_rfl);clear hH2;try simp only[Act.put,fK,fP,fO]
    refine mO 7 (by kernel_rfl) rfl λK hK=>?_
    go_simp;refine(bf.out _ (ji (fI _ _) _)).mono ?_;rintro e w7 ⟨rfl,R7,aN,aO⟩;have HD:=eZ (HQ.out w7 R7 _ aN aO);clear aN aO;refine hK.out _ _ (kC (by kernel_rfl)) (λ_=>?_);clear hK K;try simp only[Act.put,fK,fP,fO]
    refine gH (by kernel_rfl) ?_ _;go_wp2_with fail
    try go_end0
    exact HD.out
  rw[eX (λh=>av h.1)]at hQ;have hk0:0<k:=by rw[<-ag];exact Ro.2 av
  have gN:((k:Int)==0)=false:=by simp;omega
  have HQ:=eZ hQ;clear hI ae h1 h2 hdp hn hd hrt hel hes hre hen hsk hls hsz ho3 ag HI HA ai HI0 az HS hQ hst hmd ax hpl hdr hlt av hk0;go_upto_region 10 with fail
  go_big_quiet (fail)
  go_wp2_with fail
  refine(aP.out _ (ji (fI _ wr) nq)).mono ?_;rintro e w5 ⟨rfl,R5,hS5,aR⟩;have HD:=eZ (show Q (.returned (.tuple #[])) w5 by rw[<-HQ.out];exact⟨rfl,_,R5,hS5,bg.out.trans ((FP.below (ji (fI _ wr) nq)).trans aR)⟩);clear hS5 aR;go_wp2_with fail
  try go_end0
  exact HD.out
end
section
open Go.RowKit
open Sq
open Ar
theorem VQ(w:World)(rb kd:Nat):
 Calls prog 22 #[RP rb,.int .i64 (kd:Int)] w λe w'=>(e=.returned (if kd=4 then .func (.func 39) #[RP rb] #[]else if kd=5 then .func (.func 40) #[RP rb] #[]else .func (.func 41) #[RP rb] #[]))/\w=w':=by
 by_cases h4:kd=4
 ·subst h4;rw[eY rfl]
  go_enter func22,ntmps22
  go_wp2_with fail
  go_ret;exact⟨rfl,rfl⟩
 rw[eX h4];have g4:((kd:Int)==4)=false:=by simp;omega
 by_cases h5:kd=5
 ·subst h5;rw[eY rfl];clear g4
  go_enter func22,ntmps22
  go_wp2_with fail
  go_ret;exact⟨rfl,rfl⟩
 rw[eX h5];have g5:((kd:Int)==5)=false:=by simp;omega
 clear h4 h5
 go_enter func22,ntmps22
 go_wp2_with fail
 go_ret;exact⟨rfl,rfl⟩
end
section
open Go.RowKit
open Sq
open Ar
theorem Kz(s:ByteArray):∀(f p:Nat),Sg.mW s f p=Ps.mW f p ((Sc.fw s).drop p)
 |0,p=>rfl
 |f+1,p=>by
  have hlen:(Sc.fw s).length=s.size:=by simp[Sc.fw]
  rw[Sg.mW,Ps.mW];by_cases hp:p<s.size
  ·have hne:(Sc.fw s).drop p≠[]:=λh=>by
    have:=congrArg List.length h;rw[iT,hlen]at this;simp at this;omega
   rw[eY hp,eX hne,Sc.NQ,<-Sc.wH,mQ];rw[Kz s f (p+(Sg.nx s p).2)];by_cases hn:(Sg.nx s p).1<0
   ·rw[eY hn,eY (lI hn)]
   rw[eX hn,eX (by simpa using hn)]
  have hnil:(Sc.fw s).drop p=[]:=mI (by omega);rw[eX hp,eY hnil]
theorem OE(s:ByteArray):Sg.bad s=Ps.mW (Sc.fw s).length 0 (Sc.fw s):=by
 have hlen:(Sc.fw s).length=s.size:=by simp[Sc.fw]
 rw[hlen];exact Kz s s.size 0
theorem vX:∀bs:List Nat,places bs=encI.all (bs.map (fun(p:Nat)=>(p:Int)))
 |[]=>rfl
 |x::r=>by
  show Value.int .i64 (x:Int)::places r=Value.int .i64 (x:Int)::encI.all (r.map _);rw[vX r]
def sV(s:ByteArray):List Fl.Dg:=(Sg.bad s).map (λp=>(⟨1,p,p+1⟩:Fl.Dg))
theorem Jp(w0 w:World)(rb:Nat)(c:Ctx)(q:Pr.QS)(lv:Value)(R:Nat->Prop)(hS:fV w0 w rb c q lv R)(hT:oO w0)(hb:c.b.size<=1000000)(hd:q.s.d.length<=900000000000):
 Calls prog 23 #[RP rb] w (ng w0 w rb c lv R (.tuple #[]) {q with s:=⟨q.s.t,q.s.d++sV c.b⟩}):=by
 obtain⟨Q,hQ⟩:=fq (ng w0 w rb c lv R (.tuple #[]) {q with s:=⟨q.s.t,q.s.d++sV c.b⟩});rw[hQ];have aa:=Qz c.b c.bv w (hS.ctx.text.below hS.lu) (hT.below hS.lu) hb;have h0:w.cell? ⟨rb,0,none⟩=some c.bv:=by
  obtain⟨nv,dv,L,hM,_⟩:=hS;exact bx0 hM.box
 obtain⟨bs,hbs⟩:=fq (Sg.bad c.b);have hbl:bs.length<=1000000:=by rw[<-hbs];exact jU (Sg.z8 _ _ _) hb
 have hin:∀p∈bs,p<=1000000:=λp hp=>by
  rw[<-hbs,OE]at hp;have:=Ps.IB _ _ _ p hp;have hlen:(Sc.fw c.b).length=c.b.size:=by simp[Sc.fw]
  omega
 have hbd:sV c.b=bs.map (λp=>(⟨1,p,p+1⟩:Fl.Dg)):=by unfold sV;rw[hbs]
 rw[hbd]at hQ;rw[hbs]at aa;obtain⟨bv,hbv⟩:=fq (c.bv);rw[hbv]at aa h0;obtain⟨n,hn⟩:=fq (bs.length);obtain⟨ae,HS,HQ,aj,HN⟩:=sP aa hS hQ hin hn;rw[hn]at hbl;have HD:=eZ hd;clear aa hS hQ hin hT hb hbs hbd hbv hd hn
 go_enter func23,ntmps23
 go_wp2_with fail
 refine ae.out.mono ?_;rintro e w1 ⟨v,rfl,hown,hb1⟩;obtain⟨is,his⟩:∃is:List Int,bs.map (fun(p:Nat)=>(p:Int))=is:=⟨_,rfl⟩
 have hpl:places bs=encI.all is:=by
  rw[<-his];exact vX bs
 have hil:is.length=bs.length:=by rw[<-his,jD]
 rw[hpl,<-hil]at hown;have hown:w1.ownsRow w.heap.size 3 encI.k v is.length (encI.all is):=hown;obtain⟨a,cap,rfl⟩:=(Reads.fJ (E:=encI) hown).shape;have hlt:=HS.out.lt
 have af:=eZ (λwr R' (hF:FP w1 wr rb R R')=>Reads.fJ (E:=encI) (fU (w':=wr) hown (λk hk=>by
  have h1:=hown.lt k hk
  exact hF.block k h1.2 (by omega) (λhr=>by have:=(HS.out.rows hr).2.1;omega))))
 have ak:=eZ (show∀k x,bs[k]?=some x->is[k]?=some ((x:Nat):Int)from λk x hx=>by rw[<-his,lS,hx];rfl);have ay:=eZ (show is.length=n by rw[hil,HN.out])
 have av:=eZ (show fV w0 w1 rb c {q with s:=⟨q.s.t,q.s.d++(bs.take 0).map (λp=>(⟨1,p,p+1⟩:Fl.Dg))⟩} lv R/\FP w1 w1 rb R R from⟨by
  have h1:=HS.out.below hb1;rw[vG,Ho,mP]
  exact h1,FP.refl _ _ _⟩)
 have HB1:=eZ hb1;rw[hil,HN.out];clear hown hb1 his hpl hil hlt h0 ae;go_wp2_with fail
 go_loopw [10] (λiv wr=>∃(k:Nat)(R':Nat->Prop),iv=.int .i64 k/\k<=n/\Hid (fV w0 wr rb c {q with s:=⟨q.s.t,q.s.d++(bs.take k).map (λp=>(⟨1,p,p+1⟩:Fl.Dg))⟩} lv R'/\FP w1 wr rb R R')) (λiv _=>n-(intOf iv).toNat)
 case atStart=>exact⟨0,R,rfl,ic _,av⟩
 case round=>
  obtain⟨k,R',rfl,hk,HP⟩:=hrel;by_cases hlt:k<n
  ·obtain⟨x,hx⟩:=jB bs k (by rw[HN.out];exact hlt);have hxs:=aj.out x (iK hx);have hrow:=af.out wr R' HP.out.2;obtain⟨b,off,e,ck⟩:=D8 hrow k _ (ak.out k x hx);subst e
   have ag:=Fb w0 wr rb c _ lv R' 1 x (x+1) HP.out.1 (by
    show(q.s.d++_).length<=_;have:=HD.out
    rw[iJ,jD,kD];omega)
   have hst:q.s.d++(bs.take (k+1)).map (λp=>(⟨1,p,p+1⟩:Fl.Dg))=(q.s.d++(bs.take k).map (λp=>(⟨1,p,p+1⟩:Fl.Dg)))++[⟨1,x,x+1⟩]:=by
    rw[Hu,hx,wy,nQ];rfl
   obtain⟨ah,ai,HF⟩:=jF ag hst HP.out.2;have gi:(k:Int)<(n:Int):=by omega
   clear hrow hx ag hst HP;go_wp2_with fail
   refine ah.out.mono ?_;rintro e w2 ⟨rfl,R2,hS2,hF2⟩;have ax:=eZ (show fV w0 w2 rb c {q with s:=⟨q.s.t,q.s.d++(bs.take (k+1)).map (λp=>(⟨1,p,p+1⟩:Fl.Dg))⟩} lv R2/\FP w1 w2 rb R R2 from⟨by rw[ai.out];exact hS2,HF.out.trans hF2⟩);clear hS2 hF2 ah ai HF ck;go_wp2_with fail
   go_roundw
   case rel=>exact⟨k+1,R2,by go_num,by omega,ax⟩
   case measure=>simp[intOf];omega
  obtain rfl:k=n:=by omega
  have gi:¬(k:Int)<(k:Int):=by omega
  have htk:bs.take k=bs:=xK (by rw[HN.out];exact fB _)
  have HDn:=eZ (show Q (.returned (.tuple #[])) wr by
   rw[<-HQ.out];refine⟨rfl,R',?_,(FP.below HB1.out).trans HP.out.2⟩;have h1:=HP.out.1;rw[htk]at h1
   exact h1)
  clear HP htk;go_wp2_with fail
  try go_end0
  exact HDn.out
end
section
open Go.RowKit
open Sq
open Ar
def oq(l:List Tk)(F i:Nat):Option Fl.Dg:=if Fl.raw l (F+i)=3 then some ⟨2,Fl.mM l (F+i),Fl.too l (F+i)⟩else none
theorem Ej(l:List Tk)(r:Rw.R):Pr.tabs l r=if r.kind=5 then(List.range (Ps.lo l r.from' r.bu-r.from')).filterMap (oq l r.from')else[]:=rfl
theorem Mw(l:List Tk)(F j:Nat):(List.range (j+1)).filterMap (oq l F)=(List.range j).filterMap (oq l F)++(oq l F j).toList:=by
 rw[List.range_succ,List.filterMap_append];rw[Vl,List.filterMap_nil];cases oq l F j<;>rfl
theorem QM(l:List Tk)(r:Rw.R)(h:r.from'<=r.bu):(Pr.tabs l r).length<=r.bu:=by
 rw[Ej];split
 ·have h1:=Vp (oq l r.from') (List.range (Ps.lo l r.from' r.bu-r.from'));rw[Vq]at h1;have h2:=Ps.lo_le l h;omega
 exact ic _
theorem Gp(l:List Tk)(N:Nat):∀rs:List Rw.R,(∀r∈rs,r.from'<=r.bu/\r.bu<=N)->(rs.flatMap (Pr.tabs l)).length<=rs.length*N
 |[],_=>ic _
 |r::rs,h=>by
  rw[Da,iJ,jh,xL,Vy];have h1:=QM l r (h r (by simp)).1;have h2:=(h r (by simp)).2;have h3:=Gp l N rs (λx hx=>h x (by simp[hx]));omega
theorem Mx(w0 w:World)(rb:Nat)(c:Ctx)(q:Pr.QS)(lv:Value)(R:Nat->Prop)(hS:fV w0 w rb c q lv R)(hr:∀r∈c.rs,r.from'<=r.bu/\r.bu<=c.l.length)(hd:q.s.d.length<=800000000000):
 Calls prog 24 #[RP rb] w (ng w0 w rb c lv R (.tuple #[]) {q with s:=⟨q.s.t,q.s.d++c.rs.flatMap (Pr.tabs c.l)⟩}):=by
 have hcx:=hS.ctx;obtain⟨Q,hQ⟩:=fq (ng w0 w rb c lv R (.tuple #[]) {q with s:=⟨q.s.t,q.s.d++c.rs.flatMap (Pr.tabs c.l)⟩});rw[hQ];obtain⟨ra,rc,aA⟩:=hcx.rows.shape;obtain⟨ta,tc,aH⟩:=hcx.toks.shape;have h2:w.cell? ⟨rb,2,none⟩=some c.rv:=by
  obtain⟨nv,dv,L,hM,_⟩:=hS;exact Yx hM.box
 rw[aA]at h2;obtain⟨RL,av⟩:=fq (c.rs.length);have hRs:RL<=32768:=by rw[<-av];exact hcx.Zc
 have aP:=hcx.size;have hfl:∀k,((c.rs.take k).flatMap (Pr.tabs c.l)).length<=32768*32768:=λk=>by
  have h1:=Gp c.l 32768 (c.rs.take k) (λr hr'=>by have:=hr r (KN hr');omega);have h3:(c.rs.take k).length<=32768:=by rw[kD];omega
  have:=Hy 32768 h3;omega
 rw[av]at h2
 have aQ:=eZ (show fV w0 w rb c {q with s:=⟨q.s.t,q.s.d++(c.rs.take 0).flatMap (Pr.tabs c.l)⟩} lv R/\FP w w rb R R from⟨by
  rw[vG,Rm,mP];exact hS,FP.refl _ _ _⟩)
 obtain⟨HQ,aR,aI,aJ,HR,aS⟩:=kJ hQ aA aH av hr hfl;obtain⟨HD,aB⟩:=fT hd hcx;clear hcx hQ aA aH av aP hfl hS hr hd
 go_enter func24,ntmps24
 go_wp2_with fail
 go_loopw [11] (λiv wr=>∃(k:Nat)(R':Nat->Prop),iv=.int .i64 k/\k<=RL/\Hid (fV w0 wr rb c {q with s:=⟨q.s.t,q.s.d++(c.rs.take k).flatMap (Pr.tabs c.l)⟩} lv R'/\FP w wr rb R R')) (λiv _=>RL-(intOf iv).toNat)
 case atStart=>exact⟨0,R,rfl,ic _,aQ⟩
 case round=>
  obtain⟨k,R',rfl,hk,HP⟩:=hrel;by_cases hlt:k<RL
  ·obtain⟨r,ah⟩:=jB c.rs k (by rw[aJ.out];exact hlt);have hrr:=HR.out r (iK ah);have hP:=HP.out;have hrw:=aB.out.rows.below hP.1.lu;rw[aR.out]at hrw;obtain⟨b,off,e,k0,k1,k2,k3⟩:=Ah hrw k r ah;subst e;have hnext:(c.rs.take (k+1)).flatMap (Pr.tabs c.l)=(c.rs.take k).flatMap (Pr.tabs c.l)++Pr.tabs c.l r:=by
    rw[Hu,ah,Xx];congr 1;show List.flatMap _ [r]=_;rw[Da,Rm,mP]
   obtain⟨aC,aT⟩:=fT hnext ah;obtain⟨bx,hbx⟩:=fq (wr.heap.size);obtain⟨rk,rF,rT,rc'⟩:=r;dsimp only at k0 k1 k2 k3 hrr;obtain⟨W1,hW1⟩:=fq (wr.alloc (.cells #[.int .i64 (rk:Int),.int .i64 (rF:Int),.int .i64 (rT:Int),.int .i64 rc'] 61));have ax:Below wr.heap.size wr W1:=hW1▸fo wr _;have kb:W1.heap[bx]?=some (.cells #[.int .i64 (rk:Int),.int .i64 (rF:Int),.int .i64 (rT:Int),.int .i64 rc'] 61 (0,0)):=by rw[<-hW1,<-hbx];exact j5 _ _
   have y0:W1.cell? ⟨bx,0,none⟩=some (.int .i64 (rk:Int)):=gG kb 0;have y1:W1.cell? ⟨bx,1,none⟩=some (.int .i64 (rF:Int)):=gG kb 1;have y2:W1.cell? ⟨bx,2,none⟩=some (.int .i64 (rT:Int)):=gG kb 2;have gk:(k:Int)<(RL:Int):=by omega
   have aa:=eZ (And.intro (hP.1.below ax) (hP.2.trans (FP.below ax)));obtain⟨HW1,ay⟩:=fT hW1 hbx;by_cases h5:rk=5
   ·have g5:((rk:Int)==5)=true:=by simp[h5]
    have hlo1:=Ps.kQ c.l rF rT;have hlo2:=Ps.lo_le c.l hrr.1;obtain⟨LO,hLO⟩:=fq (Ps.lo c.l rF rT);rw[hLO]at hlo1 hlo2;have htk:=aB.out.toks;rw[aI.out]at htk;obtain⟨vc,hsl,ai⟩:=Dq (P:=prog) Q9 htk hlo1 (by omega);have hls:=aB.out.size;have aj:=λW (h1:W.cell? ⟨rb,1,none⟩=some c.tv)(h2:Reads iU W c.tv c.l)=>xe rb c.tv c.l rF rT W h1 h2 hrr.1 hrr.2 (by omega)
    rw[hLO]at aj;obtain⟨ts,hts⟩:=fq ((c.l.drop rF).take (LO-rF));obtain⟨M,hM⟩:=fq (LO-rF);have htl:ts.length=M:=by rw[<-hts,kD,iT];omega
    have hget:∀j x,ts[j]?=some x->c.l[rF+j]?=some x:=λj x hx=>by
     have hj:=(gD.1 hx).1;rw[<-hts,rD (by omega),sJ]at hx;exact hx
    rw[hts]at ai;obtain⟨ua,uc,huv⟩:=ai.shape;rw[huv]at ai hsl;have ak:Pr.tabs c.l ⟨rk,rF,rT,rc'⟩=(List.range M).filterMap (oq c.l rF):=by
     rw[Ej,eY h5];show List.filterMap _ (List.range (Ps.lo c.l rF rT-rF))=_;rw[hLO,hM]
    have n1:=aa.out.1.tok.1;have nr:=aa.out.1.tok.2.1;rw[aI.out]at n1 nr aj;obtain⟨NL,aD⟩:=fq (c.l.length);have bf:NL<=32768:=by rw[<-aD];exact hls
    rw[aD]at n1 nr hsl aj;rw[htl]at hsl;obtain⟨aU,aV,aW,aK,aX,aF⟩:=kJ nr aj ai hget htl ak
    have HI0:=eZ (show fV w0 W1.drew rb c {q with s:=⟨q.s.t,(q.s.d++(c.rs.take k).flatMap (Pr.tabs c.l))++(List.range 0).filterMap (oq c.l rF)⟩} lv R'/\FP w W1.drew rb R R' from⟨by
     have h1:=aa.out.1.below (fI _ W1).drew;rw[List.range_zero,List.filterMap_nil,mP]
     exact h1,aa.out.2.trans (FP.below (fI _ W1).drew)⟩)
    have hMs:M<=32768:=by omega
    clear hlo1 hlo2 hLO htk ai hls aj hts hM htl hget huv ak nr aD hP hrw hrr hbx hW1 ax kb HP aa hnext ah h5;go_upto_region 4 with fail
    rw[HW1.out,ay.out];clear HW1 ay k0 k1 k2 k3;refine gK (λwx=>wx.cell? ⟨rb,1,none⟩=some (.slice ta NL tc)/\wx.cell? ⟨bx,1,none⟩=some (.int .i64 (rF:Int))/\wx.cell? ⟨bx,2,none⟩=some (.int .i64 (rT:Int))/\Reads iU wx (.slice ta NL tc) c.l) 12 (by kernel_rfl) ?_;have hH:(λwx:World=>wx.cell? ⟨rb,1,none⟩=some (.slice ta NL tc)/\wx.cell? ⟨bx,1,none⟩=some (.int .i64 (rF:Int))/\wx.cell? ⟨bx,2,none⟩=some (.int .i64 (rT:Int))/\Reads iU wx (.slice ta NL tc) c.l) W1.drew:=⟨fE n1,fE y1,fE y2,aU.out.below (fI _ W1).drew⟩
    refine iD 0 (.pointer (some ⟨rb,0,none⟩)) rfl (by kernel_rfl) rfl fC (λW=>by go_simp) (λ_=>hH) ?_;refine iD 1 (.pointer (some ⟨rb,0,none⟩)) rfl (by kernel_rfl) rfl fC (λW=>by go_simp) (λ_=>hH) ?_;refine iD 2 (.pointer (some ⟨rb,1,none⟩)) rfl (by kernel_rfl) rfl fC (λW=>by go_simp) (λ_=>hH) ?_;refine ik 3 (.slice ta NL tc) rfl (by kernel_rfl) rfl fC (λW hW=>?_) hH ?_
    ·obtain⟨z0,z1,z2,z3⟩:=hW;go_simp
    refine iD 4 (.pointer (some ⟨bx,1,none⟩)) rfl (by kernel_rfl) rfl fC (λW=>by go_simp) (λ_=>hH) ?_;refine ik 5 (.int .i64 (rF:Int)) rfl (by kernel_rfl) rfl fC (λW hW=>?_) hH ?_
    ·obtain⟨z0,z1,z2,z3⟩:=hW;go_simp
    refine iD 6 (.pointer (some ⟨rb,0,none⟩)) rfl (by kernel_rfl) rfl fC (λW=>by go_simp) (λ_=>hH) ?_;refine iD 7 (.pointer (some ⟨bx,1,none⟩)) rfl (by kernel_rfl) rfl fC (λW=>by go_simp) (λ_=>hH) ?_;refine Xn 11 8 (.int .i64 (rF:Int)) rfl (by kernel_rfl) rfl fC (λW hW=>?_) hH ?_
    ·obtain⟨z0,z1,z2,z3⟩:=hW;go_simp
    refine iD 9 (.pointer (some ⟨bx,2,none⟩)) rfl (by kernel_rfl) rfl fC (λW=>by go_simp) (λ_=>hH) ?_;refine Xn 11 10 (.int .i64 (rT:Int)) rfl (by kernel_rfl) rfl fC (λW hW=>?_) hH ?_
    ·obtain⟨z0,z1,z2,z3⟩:=hW;go_simp
    refine qp (i:=11) (oi:=⟨_,_,_,_,_,_⟩) (v:=.int .i64 (LO:Int)) rfl (by kernel_rfl) (by kernel_rfl) (by kernel_rfl) (by kernel_rfl) (by kernel_rfl) fC (Or.inl ⟨rfl,λW hW=>?_⟩) hH ?_
    ·refine lV.DY (f:=44) (args:=#[RP rb,.int .i64 (rF:Int),.int .i64 (rT:Int)]) ?_ ?_
     ·go_simp
     exact aV.out W hW.1 hW.2.2.2
    try simp only[Act.put,fK,fP,fO]
    refine iD 14 (.int .i64 0) rfl (by kernel_rfl) rfl fC (λW=>by go_simp) (λ_=>hH) ?_;refine mO 12 (by kernel_rfl) rfl λK hK=>?_
    go_simp;refine hK.out _ _ (kC (by kernel_rfl)) (λ_=>?_);clear hK K;try simp only[Act.put,fK,fP,fO]
    refine iD 13 (.int .i64 (M:Int)) rfl (by kernel_rfl) rfl fC (λW=>by go_simp) (kC (by kernel_rfl)) ?_;refine gH (by kernel_rfl) ?_ _;clear hsl n1;go_wp2_with fail
    rename World=>wq
    go_loopw [32] (λjv ws=>∃(j:Nat)(R2:Nat->Prop),jv=.int .i64 j/\j<=M/\Hid (fV w0 ws rb c {q with s:=⟨q.s.t,(q.s.d++(c.rs.take k).flatMap (Pr.tabs c.l))++(List.range j).filterMap (oq c.l rF)⟩} lv R2/\FP w ws rb R R2)) (λjv _=>M-(intOf jv).toNat)
    case atStart=>exact⟨0,R',rfl,ic _,HI0⟩
    case round=>
     obtain⟨j,R2,rfl,hj,HJ⟩:=hrel;by_cases hjl:j<M
     ·obtain⟨x,hx⟩:=jB ts j (by rw[aX.out];exact hjl);have hlx:=aK.out j x hx;have hraw:=Fl.rM hlx;have hrd:Reads iU wr (.slice ua ts.length uc) ts:=aW.out.below HJ.out.1.lu;obtain⟨tb,bg,e,c0,c1,c2⟩:=iZ hrd j x hx;subst e;have ae:Fl.mM c.l (rF+j)=x.2.1:=by unfold Fl.mM;rw[hlx]
      have af:Fl.too c.l (rF+j)=x.2.2:=by unfold Fl.too;rw[hlx]
      obtain⟨x1,x2,x3⟩:=x;dsimp only at c0 c1 c2 hraw ae af;have htn:=Mw c.l rF j;obtain⟨bz,hbz⟩:=fq (wr.heap.size);obtain⟨W2,hW2⟩:=fq (wr.alloc (.cells #[.int .i64 (x1:Int),.int .i64 (x2:Int),.int .i64 (x3:Int)] 45));have ag:Below wr.heap.size wr W2:=hW2▸fo wr _;have kz:W2.heap[bz]?=some (.cells #[.int .i64 (x1:Int),.int .i64 (x2:Int),.int .i64 (x3:Int)] 45 (0,0)):=by rw[<-hW2,<-hbz];exact j5 _ _
      have v0:W2.cell? ⟨bz,0,none⟩=some (.int .i64 (x1:Int)):=gG kz 0;have v1:W2.cell? ⟨bz,1,none⟩=some (.int .i64 (x2:Int)):=gG kz 1;have v2:W2.cell? ⟨bz,2,none⟩=some (.int .i64 (x3:Int)):=gG kz 2;have hJ2:=HJ.out.1.below ag;have hF2:=HJ.out.2.trans (FP.below ag);have gj:(j:Int)<(M:Int):=by omega
      obtain⟨HW2,az⟩:=fT hW2 hbz;by_cases h3:x1=3
      ·have g3:((x1:Int)==3)=true:=by simp[h3]
       have hto:oq c.l rF j=some ⟨2,x2,x3⟩:=by unfold oq;rw[hraw,eY h3,ae,af]
       rw[hto]at htn;have hfl:=aS.out k;have hdl:=HD.out;have hfm:=Vp (oq c.l rF) (List.range j);rw[Vq]at hfm
       have hTe:=Fb w0 W2 rb c _ lv R2 2 x2 x3 hJ2 (by
        show((q.s.d++_)++_).length<=_
        rw[iJ,iJ];omega)
       obtain⟨aL,aM,aN⟩:=jF hTe htn hF2;clear hx hlx hraw hrd ae af hbz hW2 ag kz hJ2 hF2 h3 hto hfl hdl hfm hTe htn HJ;go_upto_region 7 with fail
       rw[HW2.out,az.out];clear HW2 az c0 c1 c2;go_wp2_with fail
       refine aL.out.mono ?_;rintro e w5 ⟨rfl,R5,hS5,aO⟩
       have aG:=eZ (show fV w0 w5 rb c {q with s:=⟨q.s.t,(q.s.d++(c.rs.take k).flatMap (Pr.tabs c.l))++(List.range (j+1)).filterMap (oq c.l rF)⟩} lv R5/\FP w w5 rb R R5 from⟨by
        rw[aM.out,<-nQ];exact hS5,aN.out.trans aO⟩)
       clear hS5 aO aL aM aN;go_wp2_with fail
       go_roundw
       case rel=>exact⟨j+1,R5,by go_num,by omega,aG⟩
       case measure=>simp[intOf];omega
      have g3:((x1:Int)==3)=false:=by simp;omega
      have hto:oq c.l rF j=none:=by unfold oq;rw[hraw,eX h3]
      rw[hto]at htn
      have aG:=eZ (show fV w0 W2 rb c {q with s:=⟨q.s.t,(q.s.d++(c.rs.take k).flatMap (Pr.tabs c.l))++(List.range (j+1)).filterMap (oq c.l rF)⟩} lv R2/\FP w W2 rb R R2 from⟨by
       rw[htn];show fV w0 W2 rb c {q with s:=⟨q.s.t,(q.s.d++(c.rs.take k).flatMap (Pr.tabs c.l))++((List.range j).filterMap (oq c.l rF)++[])⟩} lv R2
       rw[mP];exact hJ2,hF2⟩)
      clear hx hlx hraw hrd ae af hbz hW2 ag kz hJ2 hF2 h3 hto htn HJ;go_upto_region 7 with fail
      rw[HW2.out,az.out];clear HW2 az c0 c1 c2;go_wp2_with fail
      go_roundw
      case rel=>exact⟨j+1,R2,by go_num,by omega,aG⟩
      case measure=>simp[intOf];omega
     obtain rfl:j=M:=by omega
     have gj:¬(j:Int)<(j:Int):=by omega
     have aY:=eZ (show fV w0 wr rb c {q with s:=⟨q.s.t,q.s.d++(c.rs.take (k+1)).flatMap (Pr.tabs c.l)⟩} lv R2/\FP w wr rb R R2 from⟨by
      rw[aC.out,aF.out,<-nQ];exact HJ.out.1,HJ.out.2⟩)
     clear HJ;go_wp2_with fail
     go_roundw
     case rel=>exact⟨k+1,R2,by go_num,by omega,aY⟩
     case measure=>simp[intOf];omega
   have g5:((rk:Int)==5)=false:=by simp;omega
   have aZ:=eZ (show fV w0 W1 rb c {q with s:=⟨q.s.t,q.s.d++(c.rs.take (k+1)).flatMap (Pr.tabs c.l)⟩} lv R'/\FP w W1 rb R R' from⟨by
    rw[aC.out,Ej,eX h5,mP]
    exact aa.out.1,aa.out.2⟩)
   clear hP hrw hrr hbx hW1 ax kb HP aa aC aT hnext ah h5;go_upto_region 3 with fail
   rw[HW1.out,ay.out];clear HW1 ay k0 k1 k2 k3;go_wp2_with fail
   go_roundw
   case rel=>exact⟨k+1,R',by go_num,by omega,aZ⟩
   case measure=>simp[intOf];omega
  obtain rfl:k=RL:=by omega
  have gi:¬(k:Int)<(k:Int):=by omega
  have HDn:=eZ (show Q (.returned (.tuple #[])) wr by
   rw[<-HQ.out];have h1:=HP.out.1;rw[xK (by rw[aJ.out];exact fB _)]at h1
   exact⟨rfl,R',h1,HP.out.2⟩)
  clear HP;go_wp2_with fail
  try go_end0
  exact HDn.out
end
end Go.Proofs.YtmkkdjpebbdikaaGreatDoor

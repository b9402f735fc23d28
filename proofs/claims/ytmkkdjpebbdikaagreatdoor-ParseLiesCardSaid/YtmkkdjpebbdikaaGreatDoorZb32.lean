import Derived.Test.YtmkkdjpebbdikaaGreatDoorZb30
import Derived.Test.YtmkkdjpebbdikaaGreatDoorZb31
set_option linter.all false
set_option maxHeartbeats 16000000
set_option maxRecDepth 100000
namespace Go.Proofs.YtmkkdjpebbdikaaGreatDoor
open Go.RowKit Go.Proofs.Tryz
section
open Go.RowKit
open Sq
open Ar
theorem fF.ajP{w0 w:World}{rb:Nat}{c:Ctx}{q:Pr.QS}{lv v:Value}{R:Nat->Prop}{B e s n:Nat}{xs:List Value}(hS:fF w0 w rb c q lv R)(h:w.ownsRow B e s v n xs)(h1:3≠e)(h2:38≠e)(h3:40≠e)(h4:91≠e)(h5:e≠58):
 ∀k,v.ownBlock=some k->k<w.heap.size/\k≠rb/\¬R k:=λk hk=>by
 obtain⟨nv,dv,L,hM,hL,hTr,rfl⟩:=hS;refine⟨(h.lt k hk).2,λe=>eU h hM.box h5 (e▸hk),λhg=>?_⟩;rcases hg with hg|hg|hg|⟨p,hp,hg⟩
 ·exact eX hM.nodes.row h h2 k hg hk
 ·exact eX hM.told h h3 k hg hk
 ·exact eX hM.levels h h4 k hg hk
 ·obtain⟨i,hi⟩:=jy hp;exact eX (hM.nodes.kids i p hi) h h1 k hg hk
structure BI(w0 w wr:World)(rb:Nat)(c:Ctx)(q q1 q':Pr.QS)(lv:Value)(R R':Nat->Prop)(bx BE:Nat)(CB:Array Value)(ev:Value)(es:List Rw.E)(T k:Nat):Prop where
 st:fF w0 wr rb c q' lv R'
 fp:FP w wr rb R R'
 box:wr.heap[bx]?=some (.cells CB 61 (0,0))
 iH:wr.ownsRow BE 97 4 ev es.length (uK.all es)
 ok:Pr.pP q'
 bot:yC q'.st
 len:q'.st.length<=c.depth+1
 row:q'.row=q.row
 en:q'.en=q.en
 told:q'.s.d=q.s.d
 size:q'.s.t.length<=q1.s.t.length+3*k
 pl:Pr.places c.l c.depth T q' (es.drop k)=Pr.places c.l c.depth T q1 es
theorem BI.below{w0 w wr wr':World}{rb:Nat}{c:Ctx}{q q1 q':Pr.QS}{lv:Value}{R R':Nat->Prop}{bx BE:Nat}{CB:Array Value}{ev:Value}{es:List Rw.E}{T k:Nat}(h:BI w0 w wr rb c q q1 q' lv R R' bx BE CB ev es T k)(hb:Below wr.heap.size wr wr'):BI w0 w wr' rb c q q1 q' lv R R' bx BE CB ev es T k:=
 ⟨h.st.below hb,h.fp.trans (FP.below hb),(hb.block bx (gK h.box)).trans h.box,eZ h.iH hb,h.ok,h.bot,h.len,h.row,h.en,h.told,h.size,h.pl⟩
theorem BI.next{w0 w wr w':World}{rb:Nat}{c:Ctx}{q q1 q':Pr.QS}{lv lv':Value}{R R' R2:Nat->Prop}{bx BE:Nat}{CB:Array Value}{ev:Value}{es:List Rw.E}{T k:Nat}{e:Rw.E}(h:BI w0 w wr rb c q q1 q' lv R R' bx BE CB ev es T k)(he:es[k]?=some e)(h0:(Pr.place c.l c.depth q' e).1=0)
 (hS:fF w0 w' rb c (Pr.place c.l c.depth q' e).2 lv' R2) (hF:FP wr w' rb R' R2):BI w0 w w' rb c q q1 (Pr.place c.l c.depth q' e).2 lv' R R2 bx BE CB ev es T (k+1):=by
 obtain⟨o1,o2,o3,o4,o5,o6⟩:=Pr.rz h.ok c.l c.depth e;obtain⟨p1,p2,-⟩:=EZ c.l c.depth e h.bot h.len;have hoff:=h.st.ajP h.iH dU dU dU dU dU;have hk:=(eY.1 he).1;have hdr:es.drop k=e::es.drop (k+1):=by rw[xz hk];rw[(eY.1 he).2]
 refine⟨hS,h.fp.trans hF,h.st.boxed hF h.box dU dU dU dU dU,fE h.iH (λg hg=>hF.block g (hoff g hg).1 (hoff g hg).2.1 (hoff g hg).2.2),o1,p1,p2,by rw[o5,h.row],by rw[o6,h.en],by rw[o4,h.told],by have:=h.size;omega,?_⟩;rw[<-h.pl,hdr,Pr.places];rw[dX h0]
theorem SI{l:List Tk}{depth T:Nat}{q':Pr.QS}{e:Rw.E}{es:List Rw.E}(h:(Pr.place l depth q' e).1≠0):Pr.places l depth T q' (e::es)=(false,{q' with s:=Pr.fault l q'.s (Pr.mV q'.st) (Pr.place l depth q' e).1 e.from' T}):=by
 rw[Pr.places];rw[dW h]
theorem WC(w0 w:World)(rb:Nat)(c:Ctx)(q:Pr.QS)(lv:Value)(R:Nat->Prop)(r:Rw.R)(hS:fF w0 w rb c q lv R)(hok:Pr.pP q)(ae:oV c.l)(aQ:∀x∈c.l,x.2.1<=1000000)(h1:r.from'<r.bu)(h2:r.bu<=c.l.length)(hdp:c.depth<=50)(hn:q.s.t.length<=500000000000)(hd:q.s.d.length<=500000000000)(hrt:∀r∈c.rs,r.bu<=c.l.length)
 (hb0:q.st=[]\/yC q.st) (hbl:q.st.length<=c.depth+1) (hel:(Rw.iH c.l r).1.length<=100000) (hes:∀e∈(Rw.iH c.l r).1,0<=e.eT/\Fl.cnt (Fl.raw c.l e.from')=true/\e.from'<e.bu/\e.bu<=r.bu) (hre:(Rw.iH c.l r).2<=r.bu/\(Rw.iH c.l r).2<=q.en) (hen:q.en<=c.l.length)
 (hsk:∀d,Pr.skip c.rs q.row (Fl.gP c.l q.en d 0 (Rw.iH c.l r).2 ⟨fU c.l.length,[]⟩).2.1<c.rs.length):
 Calls prog 40 #[RP rb,Vj r] w (tV w0 w rb c R (.tuple #[]) (Pr.body c.l c.rs c.depth q r)):=by
 have aJ:=λW (hW:Reads iQ W c.tv c.l) bv=>acP bv c.tv c.l r W hW hS.tok.2.2 aQ (pJ h1) h2
 obtain⟨ES,aR⟩:=eu (Rw.iH c.l r);obtain⟨Q,hQ⟩:=eu (tV w0 w rb c R (.tuple #[]) (Pr.body c.l c.rs c.depth q r));rw[hQ];unfold Pr.body at hQ;dsimp only at hQ;rw[aR]at hQ hel hes hre hsk aJ;obtain⟨es,rest⟩:=ES;try dsimp only at hQ hel hes hre hsk aJ
 obtain⟨kd,F,T,eT⟩:=r;try dsimp only at h1 h2 hQ hes hre
 obtain⟨wb,hwb⟩:=eu (w.alloc (.cells #[.int .i64 (kd:Int),.int .i64 (F:Int),.int .i64 (T:Int),.int .i64 eT] 61));obtain⟨bx,hbx⟩:=eu (w.heap.size);have hbw:Below w.heap.size w wb:=hwb▸dZ w _;have kb:wb.heap[bx]?=some (.cells #[.int .i64 (kd:Int),.int .i64 (F:Int),.int .i64 (T:Int),.int .i64 eT] 61 (0,0)):=Qb
 have hSb:=hS.below hbw;obtain⟨k1,k2,k3⟩:=hSb.tok;have HC:=dY (Aa rb c.tv c.l F T wb k1 k2 dS h2 k3);have hge:=Ps.kF c.l F T;obtain⟨x,hx⟩:=eu (Ps.lo c.l F T);rw[hx]at HC hge hQ;have hlo:x<=100000:=by rw[<-hx];have:=Ps.lo_le c.l (show F<=T by omega);omega
 have hO:=EU w0 wb rb c q lv R x hSb hok.pos dS hlo;obtain⟨o1,o2,o3,o4,-⟩:=Pr.mr hok x;have o5:=qd x hb0;have o6:=rH x c.depth hbl;have o7:(Pr.fA q x).row=q.row/\(Pr.fA q x).en=q.en:=by unfold Pr.fA;cases q.st<;>exact⟨rfl,rfl⟩
 obtain⟨q1,hq1⟩:=eu (Pr.fA q x);rw[hq1]at hO o1 o2 o3 o4 o5 o6 o7 hQ;have x1:wb.cell? ⟨bx,1,none⟩=some (.int .i64 (F:Int)):=fq kb 1;have x2:wb.cell? ⟨bx,2,none⟩=some (.int .i64 (T:Int)):=fq kb 2;have aS:FP w wb rb R R:=FP.below hbw;obtain⟨aT,tO,aU,aV,aW,HO⟩:=kG hwb hbx kb hSb aS hO;obtain⟨yN,xn⟩:=fw aJ hQ;have aX:=dY (And.intro o1 (And.intro o2 (And.intro o3 (And.intro o4 (And.intro o5 (And.intro o6 o7))))));have HA:=dY (And.intro ae (And.intro h1 (And.intro h2 (And.intro hdp (And.intro hn (And.intro hd (And.intro hrt (And.intro hel (And.intro hes (And.intro hre (And.intro hen hsk)))))))))));have HS:=dY hS;have hls:=k3;clear hwb hbx hbw kb hSb hS k1 k2 hx hge aS hQ hq1 hO o1 o2 o3 o4 o5 o6 o7 ae aQ h1 h2 hdp hn hd hrt hb0 hbl hel hes hre hen hsk aJ aR hok hls
 go_enter func40,ntmps40
 go_upto_region 1 with fail
 rw[aT.out,tO.out];clear aT tO;go_wp2_with fail
 refine HC.out.mono ?_;rintro e w1 ⟨rfl,rfl⟩;go_wp2_with fail
 refine HO.out.mono ?_;rintro e w2 ⟨rfl,aY,R2,hS2,hF2⟩;have ak:=aV.out.boxed hF2 aU.out dU dU dU dU dU;have hbv:∃bv,w2.cell? ⟨rb,0,none⟩=some bv:=by
  obtain⟨nv,dv,L,hM,_⟩:=hS2;exact⟨_,bx0 hM.box⟩
 obtain⟨bv,n0⟩:=hbv;obtain⟨TV,aZ⟩:=eu (c.tv);have n1:w2.cell? ⟨rb,1,none⟩=some TV:=by rw[<-aZ];exact hS2.tok.1
 have z0:w2.cell? ⟨bx,0,none⟩=some (.int .i64 (kd:Int)):=fq ak 0;have z1:w2.cell? ⟨bx,1,none⟩=some (.int .i64 (F:Int)):=fq ak 1;have z2:w2.cell? ⟨bx,2,none⟩=some (.int .i64 (T:Int)):=fq ak 2;have z3:w2.cell? ⟨bx,3,none⟩=some (.int .i64 eT):=fq ak 3;have ay:=dY (yN.out w2.drew (hS2.tok.2.1.below (fD _ w2).drew) bv);rw[aZ]at ay;obtain⟨HS2,bf,qj⟩:=je hS2 (aW.out.trans hF2) ak;clear ak hS2 hF2 aW aV aU HO HC yN x1 x2;go_upto_region 2 with fail
 refine fO (λwx=>wx.cell? ⟨rb,0,none⟩=some bv/\wx.cell? ⟨rb,1,none⟩=some TV/\wx.cell? ⟨bx,0,none⟩=some (.int .i64 (kd:Int))/\wx.cell? ⟨bx,1,none⟩=some (.int .i64 (F:Int))/\wx.cell? ⟨bx,2,none⟩=some (.int .i64 (T:Int))/\wx.cell? ⟨bx,3,none⟩=some (.int .i64 eT)) 9 dV ?_;have hH:(λwx:World=>wx.cell? ⟨rb,0,none⟩=some bv/\wx.cell? ⟨rb,1,none⟩=some TV/\wx.cell? ⟨bx,0,none⟩=some (.int .i64 (kd:Int))/\wx.cell? ⟨bx,1,none⟩=some (.int .i64 (F:Int))/\wx.cell? ⟨bx,2,none⟩=some (.int .i64 (T:Int))/\wx.cell? ⟨bx,3,none⟩=some (.int .i64 eT)) w2.drew:=⟨eP n0,eP n1,eP z0,eP z1,eP z2,eP z3⟩
 refine gZ 0 (.pointer (some ⟨rb,0,none⟩)) (λ_=>hH) ?_;refine gZ 1 (.pointer (some ⟨rb,0,none⟩)) (λ_=>hH) ?_;refine gZ 2 (.pointer (some ⟨rb,0,none⟩)) (λ_=>hH) ?_;refine rV 3 bv (λW hW=>?_) hH ?_
 ·obtain⟨z0,z1,z2,z3,z4,z5⟩:=hW;go_simp
 refine gZ 4 (.pointer (some ⟨rb,0,none⟩)) (λ_=>hH) ?_;refine gZ 5 (.pointer (some ⟨rb,0,none⟩)) (λ_=>hH) ?_;refine gZ 6 (.pointer (some ⟨rb,1,none⟩)) (λ_=>hH) ?_;refine rV 7 TV (λW hW=>?_) hH ?_
 ·obtain⟨z0,z1,z2,z3,z4,z5⟩:=hW;go_simp
 refine rV 8 (.agg #[.int .i64 (kd:Int),.int .i64 (F:Int),.int .i64 (T:Int),.int .i64 eT]) (λW hW=>?_) hH ?_
 ·obtain⟨z0,z1,z2,z3,z4,z5⟩:=hW;go_simp
 refine mY 9 λK hK=>?_
 go_simp;refine ay.out.mono ?_;rintro e w3 ⟨ev,rfl,hown3,hb3⟩;have ah:=dY hown3;have HB3:=dY (eD (fD _ w2).drew hb3);clear hown3 hb3 n0 n1 z0 z1 z2 z3;refine hK.out _ _ lh (λ_=>?_);clear hK K;try simp only[Act.put,fG,fB,fC]
 refine gZ 10 (.tuple #[ev,.int .i64 (rest:Int)]) lh ?_;refine gZ 11 ev lh ?_;refine gZ 12 (.int .i64 (rest:Int)) lh ?_;refine gZ 13 ev lh ?_;refine gZ 14 (.int .i64 (rest:Int)) lh ?_;refine fJ dV ?_ _;obtain⟨o1,o2,o3,o4,o5,o6,o7,o8⟩:=aX.out;obtain⟨ea,ec,rfl⟩:=(Reads.fo (E:=uK) ah.out).shape;obtain⟨N,hN⟩:=eu (es.length);obtain⟨BE,bg⟩:=eu (w2.drew.heap.size);have hown:=ah.out;rw[bg]at hown;have HI0:=dY (show BI w0 w w3 rb c q q1 q1 aY R R2 bx BE #[.int .i64 (kd:Int),.int .i64 (F:Int),.int .i64 (T:Int),.int .i64 eT] (.slice ea es.length ec) es T 0 from⟨HS2.out.below HB3.out,bf.out.trans (FP.below HB3.out),(HB3.out.block bx (gK qj.out)).trans qj.out,hown,o1,o5,o6,o7,o8,o4,dS,rfl⟩);rw[hN]at HI0⊢;have HN:=dY hN;have Cw:=dY (show q1.s.t.length<=q.s.t.length+1 from o3);clear hown bg hN o1 o2 o3 o4 o5 o6 o7 o8 ah HB3 HS2 bf qj ay aX;go_wp2_with fail
 go_loopw [32] (λiv wr=>∃(k:Nat)(q':Pr.QS)(lv':Value)(R':Nat->Prop),iv=.int .i64 k/\k<=N/\Hid (BI w0 w wr rb c q q1 q' lv' R R' bx BE #[.int .i64 (kd:Int),.int .i64 (F:Int),.int .i64 (T:Int),.int .i64 eT] (.slice ea N ec) es T k)) (λiv _=>N-(intOf iv).toNat)
 case atStart=>exact⟨0,q1,aY,R2,rfl,fP _,HI0⟩
 case round=>
  obtain⟨k,q',lv',R',rfl,hk,HI⟩:=hrel;have hI:=HI.out;obtain⟨ae,h1,h2,hdp,hn,hd,hrt,hel,hes,hre,hen,hsk⟩:=HA.out;have hls:=HI.out.st.tok.2.2;have hsz:=hI.size;have ho3:=Cw.out;have af:=HN.out;by_cases hlt:k<N
  ·obtain⟨e,he⟩:∃e,es[k]?=some e:=⟨_,fu dS⟩
   obtain⟨e1,e2,e3,e4⟩:=hes e (gW he);obtain⟨be,hbe⟩:=eu (wr.heap.size);obtain⟨W1,hW1⟩:=eu (wr.alloc (.cells #[.bool e.dash,.int .i64 e.eT,.int .i64 (e.from':Int),.int .i64 (e.bu:Int)] 97));have Gc:Below wr.heap.size wr W1:=hW1▸dZ wr _;have ag:W1.heap[be]?=some (.cells #[.bool e.dash,.int .i64 e.eT,.int .i64 (e.from':Int),.int .i64 (e.bu:Int)] 97 (0,0)):=by rw[<-hW1,<-hbe];exact lz _ _
   have hI1:=hI.below Gc;have av:=ajw w0 W1 rb c q' lv' R' e hI1.st hI1.ok hI1.bot e1 e3 dS e2 dS (by have:=hI1.len;omega) dS;have hbad:=(EZ c.l c.depth e hI1.bot hI1.len).2.2;obtain⟨PL,aN⟩:=eu (Pr.place c.l c.depth q' e);have hnext:=λw' aM bn h0 (hS:fF w0 w' rb c (Pr.place c.l c.depth q' e).2 aM bn) hF=>hI1.next (w':=w') (lv':=aM) (R2:=bn) he h0 hS hF
   have hpb:=λh=>SI (l:=c.l) (depth:=c.depth) (T:=T) (q':=q') (e:=e) (es:=es.drop (k+1)) h
   have hdr:es.drop k=e::es.drop (k+1):=by rw[xz dS];rw[(eY.1 he).2]
   have hpl:=hI1.pl;rw[hdr]at hpl;rw[aN]at av hbad hnext hpb;have hrd:Reads uK wr (.slice ea es.length ec) es:=by
    have:=Reads.fo (E:=uK) hI.iH;rw[<-af]at this;exact this
   obtain⟨eb,bG,bE,c0,c1,c2,c3⟩:=afB hrd k e he;subst bE;obtain⟨ed,bF,EF,ET⟩:=e;dsimp only at e1 e2 e3 e4 ag c0 c1 c2 c3 hW1 av hpb;obtain⟨PC,PQ⟩:=PL;dsimp only at av hbad hnext hpb;have b0:W1.cell? ⟨be,0,none⟩=some (.bool ed):=fq ag 0;have b1:W1.cell? ⟨be,1,none⟩=some (.int .i64 bF):=fq ag 1;have b2:W1.cell? ⟨be,2,none⟩=some (.int .i64 (EF:Int)):=fq ag 2;have b3:W1.cell? ⟨be,3,none⟩=some (.int .i64 (ET:Int)):=fq ag 3;have gk:(k:Int)<(N:Int):=dS
   have bH:N<=100000:=dS
   obtain⟨aK,HW1,aL⟩:=je av hW1 hbe;by_cases hpc:PC=0
   ·subst hpc;have bq:=dY hnext;clear hI ae h1 h2 hdp hn hd hrt hel hes hre hen hsk hls hsz ho3 af he e1 e2 e3 e4 hbe hW1 Gc ag hI1 av hbad aN hnext hpb hdr hpl hrd HI HA xn HI0 Cw HS;go_upto_region 6 with fail
    rw[HW1.out,aL.out];clear HW1 aL c0 c1 c2 c3;go_wp2_with fail
    refine aK.out.mono ?_;rintro e' w4 ⟨rfl,ax,R4,rU,vS⟩;have qQ:=dY (bq.out w4 ax R4 Jw rU vS);clear rU vS aK bq b0 b1 b2 b3;rw[show xQ 0=-1 from rfl];go_wp2_with fail
    go_roundw
    case rel=>exact⟨k+1,PQ,ax,R4,fH,dS,qQ⟩
    case measure=>simp[intOf];omega
   ·obtain rfl:PQ=q':=hbad hpc;have hQ:=xn.out;rw[<-hpl,hpb hpc]at hQ;rw[dW (by show¬(false=true);decide)]at hQ;dsimp only at hQ;obtain⟨hh,tl,hst⟩:∃hh tl,PQ.st=hh::tl:=by
     obtain⟨pre,D,e5,_⟩:=hI1.bot;cases pre with
     |nil=>exact⟨_,_,e5⟩
     |cons x y=>exact⟨_,_,e5⟩
    rw[show Pr.mV PQ.st=Pr.free hh by rw[hst];rfl]at hQ;have yo:=dY (show tl.length<=1000000 by have h9:=hI1.len;rw[hst,iR]at h9;omega);have az:=dY (show Pr.free hh<PQ.s.t.length from Pr.KN (hI1.ok.lv hh yS));have aA:=dY (show PQ.s.t.length<=900000000000 by omega);have aB:=dY (show PQ.s.d.length<=1000000000000 by have h9:=hI1.told;rw[h9];omega);have aC:=dY (show EF<=T by omega);obtain⟨aD,HI1,aF,bz⟩:=oK h2 hI1 hst ag;have hcode:xQ PC=(PC:Int):=by unfold xQ;rw[dW hpc]
    have bI:((PC:Int)==-1)=false:=eG
    have aG:=dY hQ;clear hI ae h1 h2 hdp hn hd hrt hel hes hre hen hsk hls hsz ho3 af he e1 e2 e3 e4 hbe hW1 Gc ag hI1 av hbad aN hnext hpb hdr hpl hrd HI HA xn HI0 Cw HS hQ hst hpc;go_upto_region 6 with fail
    rw[HW1.out,aL.out];clear HW1 aL c0 c1 c2 c3;go_wp2_with fail
    refine aK.out.mono ?_;rintro e' w4 ⟨rfl,ax,R4,rU,vS⟩;rw[hcode];have bA:=HI1.out.st.boxed vS HI1.out.box dU dU dU dU dU;have bB:=HI1.out.st.boxed vS bz.out dU dU dU dU dU;have x2:w4.cell? ⟨bx,2,none⟩=some (.int .i64 (T:Int)):=fq bA 2;have y2:w4.cell? ⟨be,2,none⟩=some (.int .i64 (EF:Int)):=fq bB 2;obtain⟨gl,cap,hlv,hfz,hcl,c8,-⟩:=rU.top aF.out;have rM:=dY (za w4.drew rb gl tl.length cap (eP c8) yo.out);have aO:=dY (λW (hW:Below w4.heap.size w4 W)=>Yl W gl (tl.length*5) hh (λj u hu=>eB hW (hcl j u hu)));have yM:=dY (λW (hW:Below w4.heap.size w4 W)=>Bj w0 W rb c PQ ax R4 (Pr.free hh) PC EF T (rU.below hW) az.out aC.out aD.out aA.out aB.out)
    have HQ:=dY (λw7 R7 (aa:Nat)(h1:fF w0 w7 rb c {PQ with s:=Pr.fault c.l PQ.s (Pr.free hh) PC EF T} ax R7)(h2:FP (w4.drewN aa) w7 rb R4 R7)=>show Q (.returned (.tuple #[])) w7 by
     rw[<-aG.out]
     exact⟨rfl,ax,R7,h1,HI1.out.fp.trans (vS.trans ((FP.below (mF (fD _ w4) aa)).trans h2))⟩)
    clear rU vS bA bB hlv hfz hcl c8 az aC aD aA aB yo aF HI1 bz aK aG b0 b1 b2 b3;go_upto_region 8 with fail
    refine fO (λwx=>wx.cell? ⟨be,2,none⟩=some (.int .i64 (EF:Int))/\wx.cell? ⟨bx,2,none⟩=some (.int .i64 (T:Int))) 9 dV ?_;have hH:(λwx:World=>wx.cell? ⟨be,2,none⟩=some (.int .i64 (EF:Int))/\wx.cell? ⟨bx,2,none⟩=some (.int .i64 (T:Int))) w4.drew:=⟨eP y2,eP x2⟩
    refine iE 0 (.pointer (some ⟨rb,0,none⟩)) hH ?_;refine gZ 1 (.pointer (some ⟨rb,0,none⟩)) (λ_=>hH) ?_;refine iE 4 (.int .i64 (PC:Int)) hH ?_;refine gZ 5 (.pointer (some ⟨be,2,none⟩)) (λ_=>hH) ?_;refine rV 6 (.int .i64 (EF:Int)) (λW hW=>?_) hH ?_
    ·obtain⟨z0,z1⟩:=hW;go_simp
    refine gZ 7 (.pointer (some ⟨bx,2,none⟩)) (λ_=>hH) ?_;refine rV 8 (.int .i64 (T:Int)) (λW hW=>?_) hH ?_
    ·obtain⟨z0,z1⟩:=hW;go_simp
    refine mY 2 λK hK=>?_
    go_simp;refine rM.out.mono ?_;rintro e w5 ⟨rfl,aa,rfl⟩;refine hK.out _ _ (λ_=>⟨hH.1,hH.2⟩) (λhH2=>?_);clear hK K;replace hH:=hH2 dV;clear hH2;try simp only[Act.put,fG,fB,fC]
    refine mY 3 λK hK=>?_
    go_simp;refine(aO.out _ (mF (fD _ _) _)).mono ?_;rintro e w6 ⟨rfl,rfl⟩;refine hK.out _ _ (λ_=>⟨hH.1,hH.2⟩) (λhH2=>?_);clear hK K;replace hH:=hH2 dV;clear hH2;try simp only[Act.put,fG,fB,fC]
    refine mY 9 λK hK=>?_
    exact Z8
  ·obtain rfl:k=N:=by omega
   have hpl:=hI.pl;have hdr:es.drop k=[]:=oG dS;rw[hdr,show Pr.places c.l c.depth T q' []=(true,q')from rfl]at hpl;have hQ:=xn.out;rw[<-hpl]at hQ;rw[dX (show(true,q').1=true from rfl)]at hQ;dsimp only at hQ;obtain⟨hh,tl,hst⟩:∃hh tl,q'.st=hh::tl:=by
    obtain⟨pre,D,e5,_⟩:=hI.bot;cases pre with
    |nil=>exact⟨_,_,e5⟩
    |cons x y=>exact⟨_,_,e5⟩
   have hmd:tl.length<=c.depth:=by have h9:=hI.len;rw[hst,iR]at h9;omega
   have aj:=λW (hW:Below wr.heap.size wr W)=>FO w0 W rb c q' lv' R' hh tl rest (hI.st.below hW) hst hI.ok ae (by rw[hI.en];exact hre.2) (by rw[hI.en];exact hen) hmd hdp dS (by rw[hI.told];omega) hrt (by rw[hI.row,hI.en];exact hsk _)
   have gi:¬(k:Int)<(k:Int):=dS
   have z3:wr.cell? ⟨bx,3,none⟩=some (.int .i64 eT):=fq hI.box 3;have z2:wr.cell? ⟨bx,2,none⟩=some (.int .i64 (T:Int)):=fq hI.box 2;obtain⟨aH,aP⟩:=fw aj hI.fp;by_cases ai:es=[]
   ·have hk0:k=0:=by rw[<-af,ai];rfl
    have gN:((k:Int)==0)=true:=by simp[hk0]
    obtain⟨gl,cap,hlv,hfz,hcl,c8,-⟩:=hI.st.top hst;have rM:=dY (za wr.drew rb gl tl.length cap (eP c8) dS);obtain⟨tk,htk⟩:=eu ((!hh.full&&decide (hh.eT<eT)));have bC:=dY (λW (hW:Below wr.heap.size wr W)=>show Calls prog 68 #[.pointer (some ⟨gl,tl.length*5,none⟩),.int .i64 eT] W λe w'=>e=.returned (.bool tk)/\W=w' from by rw[<-htk];exact aji W gl (tl.length*5) hh eT (λj u hu=>eB hW (hcl j u hu)));have aI:Pr.takes eT q'.st=tk:=by rw[hst];exact htk
    rw[aI]at hQ;cases tk with
    |true=>
     rw[dW (by rintro⟨_,h⟩;exact absurd h dU)]at hQ;have HQ:=dY hQ;clear hI ae h1 h2 hdp hn hd hrt hel hes hre hen hsk hls hsz ho3 af HI HA xn HI0 Cw HS hQ hst hmd aj hpl hdr hlt ai hk0 hlv hfz hcl c8 htk aI;go_upto_region 10 with fail
     refine fO (λwx=>wx.cell? ⟨bx,3,none⟩=some (.int .i64 eT)) 8 dV ?_;have hH:(λwx:World=>wx.cell? ⟨bx,3,none⟩=some (.int .i64 eT)) wr.drew:=eP z3;refine gZ 0 (.slice ea k ec) (λ_=>hH) ?_;refine gZ 1 (.int .i64 (k:Int)) (λ_=>hH) ?_;refine gZ 2 (.bool true) (λ_=>hH) ?_;refine iE 3 (.bool true) hH ?_;refine gZ 4 (.pointer (some ⟨rb,0,none⟩)) (λ_=>hH) ?_;refine gZ 6 (.pointer (some ⟨bx,3,none⟩)) (λ_=>hH) ?_;refine iE 7 (.int .i64 eT) hH ?_;refine mY 5 λK hK=>?_
     go_simp;refine rM.out.mono ?_;rintro e w5 ⟨rfl,aa,rfl⟩;refine hK.out _ _ (λ_=>hH) (λhH2=>?_);clear hK K;replace hH:=hH2 dV;clear hH2;try simp only[Act.put,fG,fB,fC]
     refine mY 8 λK hK=>?_
     go_simp;refine(bC.out _ (mF (fD _ wr) (1+aa))).mono ?_;rintro e w6 ⟨rfl,rfl⟩;refine hK.out _ _ lh (λ_=>?_);clear hK K;try simp only[Act.put,fG,fB,fC]
     refine gZ 9 (.bool false) lh ?_;refine gZ 10 (.bool false) lh ?_;refine fJ dV ?_ _;go_wp2_with fail
     refine(aH.out _ (mF (fD _ wr) (1+aa))).mono ?_;rintro e w5 ⟨rfl,R5,hS5,I6⟩;have HD:=dY (show Q (.returned (.tuple #[])) w5 by rw[<-HQ.out];exact⟨rfl,_,R5,hS5,aP.out.trans ((FP.below (mF (fD _ wr) (1+aa))).trans I6)⟩);clear hS5 I6;go_wp2_with fail
     exact sP
    |false=>
     rw[dX ⟨ai,rfl⟩]at hQ;rw[show Pr.mV q'.st=Pr.free hh by rw[hst];rfl]at hQ;have yo:=dY (show tl.length<=1000000 by omega);have az:=dY (show Pr.free hh<q'.s.t.length from Pr.KN (hI.ok.lv hh yS));have aA:=dY (show q'.s.t.length<=900000000000 by omega);have aB:=dY (show q'.s.d.length<=1000000000000 by rw[hI.told];omega);have aC:=dY (show rest<=T from hre.1);obtain⟨aD,aF,bD,aG⟩:=oK h2 hst hI.st hQ;clear hI ae h1 h2 hdp hn hd hrt hel hes hre hen hsk hls hsz ho3 af HI HA xn HI0 Cw HS hQ hst hmd aj hpl hdr hlt ai hk0 hlv hfz hcl c8 htk aI aH;go_upto_region 10 with fail
     refine fO (λwx=>wx.cell? ⟨bx,3,none⟩=some (.int .i64 eT)) 8 dV ?_;have hH:(λwx:World=>wx.cell? ⟨bx,3,none⟩=some (.int .i64 eT)) wr.drew:=eP z3;refine gZ 0 (.slice ea k ec) (λ_=>hH) ?_;refine gZ 1 (.int .i64 (k:Int)) (λ_=>hH) ?_;refine gZ 2 (.bool true) (λ_=>hH) ?_;refine iE 3 (.bool true) hH ?_;refine gZ 4 (.pointer (some ⟨rb,0,none⟩)) (λ_=>hH) ?_;refine gZ 6 (.pointer (some ⟨bx,3,none⟩)) (λ_=>hH) ?_;refine iE 7 (.int .i64 eT) hH ?_;refine mY 5 λK hK=>?_
     go_simp;refine rM.out.mono ?_;rintro e w5 ⟨rfl,aa,rfl⟩;refine hK.out _ _ (λ_=>hH) (λhH2=>?_);clear hK K;replace hH:=hH2 dV;clear hH2;try simp only[Act.put,fG,fB,fC]
     refine mY 8 λK hK=>?_
     go_simp;refine(bC.out _ (mF (fD _ wr) (1+aa))).mono ?_;rintro e w6 ⟨rfl,rfl⟩;refine hK.out _ _ lh (λ_=>?_);clear hK K;try simp only[Act.put,fG,fB,fC]
     refine gZ 9 (.bool true) lh ?_;refine gZ 10 (.bool true) lh ?_;refine fJ dV ?_ _;go_upto_region 11 with fail
     have hb4:Below wr.heap.size wr (wr.drewN (1+aa)):=mF (fD _ wr) (1+aa);obtain⟨w4,hw4⟩:=eu (wr.drewN (1+aa));rw[hw4]at hb4⊢;have rU:=bD.out.below hb4;have x2:=eB hb4 z2;obtain⟨gl,cap,hlv,hfz,hcl,c8,-⟩:=rU.top aF.out;have rM:=dY (za w4.drew rb gl tl.length cap (eP c8) yo.out);have aO:=dY (λW (hW:Below w4.heap.size w4 W)=>Yl W gl (tl.length*5) hh (λj u hu=>eB hW (hcl j u hu)));have yM:=dY (λW (hW:Below w4.heap.size w4 W)=>Bj w0 W rb c q' lv' R' (Pr.free hh) 7 rest T (rU.below hW) az.out aC.out aD.out aA.out aB.out)
     have HQ:=dY (λw7 R7 (aa:Nat)(h1:fF w0 w7 rb c {q' with s:=Pr.fault c.l q'.s (Pr.free hh) 7 rest T} lv' R7)(h2:FP (w4.drewN aa) w7 rb R' R7)=>show Q (.returned (.tuple #[])) w7 by
      rw[<-aG.out]
      exact⟨rfl,lv',R7,h1,aP.out.trans ((FP.below hb4).trans ((FP.below (mF (fD _ w4) aa)).trans h2))⟩)
     clear rU hlv hfz hcl c8 az aC aD aA aB yo aF bD aG z2 z3 hw4 hH;refine fO (λwx=>wx.cell? ⟨bx,2,none⟩=some (.int .i64 (T:Int))) 7 dV ?_;have hH:(λwx:World=>wx.cell? ⟨bx,2,none⟩=some (.int .i64 (T:Int))) w4.drew:=eP x2;refine iE 0 (.pointer (some ⟨rb,0,none⟩)) hH ?_;refine gZ 1 (.pointer (some ⟨rb,0,none⟩)) (λ_=>hH) ?_;refine iE 4 (.int .i64 (rest:Int)) hH ?_;refine gZ 5 (.pointer (some ⟨bx,2,none⟩)) (λ_=>hH) ?_;refine iE 6 (.int .i64 (T:Int)) hH ?_;refine mY 2 λK hK=>?_
     go_simp;refine rM.out.mono ?_;rintro e w5 ⟨rfl,aa,rfl⟩;refine hK.out _ _ (λ_=>hH) (λhH2=>?_);clear hK K;replace hH:=hH2 dV;clear hH2;try simp only[Act.put,fG,fB,fC]
     refine mY 3 λK hK=>?_
     go_simp;refine(aO.out _ (mF (fD _ _) _)).mono ?_;rintro e w6 ⟨rfl,rfl⟩;refine hK.out _ _ (λ_=>hH) (λhH2=>?_);clear hK K;replace hH:=hH2 dV;clear hH2;try simp only[Act.put,fG,fB,fC]
     refine mY 7 λK hK=>?_
     exact Z8
   ·rw[dW (λh=>ai h.1)]at hQ;have hk0:0<k:=by rw[<-af];exact aes.2 ai
    have gN:((k:Int)==0)=false:=eQ
    have HQ:=dY hQ;clear hI ae h1 h2 hdp hn hd hrt hel hes hre hen hsk hls hsz ho3 af HI HA xn HI0 Cw HS hQ hst hmd aj hpl hdr hlt ai hk0;go_upto_region 10 with fail
    go_big_quiet (fail)
    go_wp2_with fail
    refine(aH.out _ (mF (fD _ wr) nq)).mono ?_;rintro e w5 ⟨rfl,R5,hS5,I6⟩;have HD:=dY (show Q (.returned (.tuple #[])) w5 by rw[<-HQ.out];exact⟨rfl,_,R5,hS5,aP.out.trans ((FP.below (mF (fD _ wr) nq)).trans I6)⟩);clear hS5 I6;go_wp2_with fail
    exact sP
end
section
open Go.RowKit
open Sq
open Ar
theorem aio(w:World)(rb kd:Nat):
 Calls prog 22 #[RP rb,.int .i64 (kd:Int)] w λe w'=>(e=.returned (if kd=4 then .func (.func 39) #[RP rb] #[]else if kd=5 then .func (.func 40) #[RP rb] #[]else .func (.func 41) #[RP rb] #[]))/\w=w':=by
 by_cases h4:kd=4
 ·subst h4;rw[dX rfl]
  go_enter func22,ntmps22
  exact nH
 ·rw[dW h4];have g4:((kd:Int)==4)=false:=by simp;omega
  by_cases h5:kd=5
  ·subst h5;rw[dX rfl];clear g4
   go_enter func22,ntmps22
   exact nH
  ·rw[dW h5];have g5:((kd:Int)==5)=false:=by simp;omega
   clear h4 h5
   go_enter func22,ntmps22
   exact nH
end
section
open Go.RowKit
open Sq
open Ar
theorem US(s:ByteArray):∀(f p:Nat),Sg.lQ s f p=Ps.lQ f p ((Sc.eH s).drop p)
 |0,p=>rfl
 |f+1,p=>by
  have hlen:(Sc.eH s).length=s.size:=by simp[Sc.eH]
  rw[Sg.lQ,Ps.lQ];by_cases hp:p<s.size
  ·have hne:(Sc.eH s).drop p≠[]:=λh=>by
    have:=congrArg List.length h;rw[ky,hlen]at this;simp at this;omega
   rw[dX hp,dW hne,Sc.aaX,<-Sc.zG,nP];rw[US s f (p+(Sg.nx s p).2)];by_cases hn:(Sg.nx s p).1<0
   ·rw[dX hn,dX (kD hn)]
   ·rw[dW hn,dW (by simpa using hn)]
  ·have hnil:(Sc.eH s).drop p=[]:=oG dS;rw[dW hp,dX hnil]
theorem abA(s:ByteArray):Sg.bad s=Ps.lQ (Sc.eH s).length 0 (Sc.eH s):=by
 have hlen:(Sc.eH s).length=s.size:=by simp[Sc.eH]
 rw[hlen];exact US s s.size 0
theorem zi:∀bs:List Nat,places bs=encI.all (bs.map (fun(p:Nat)=>(p:Int)))
 |[]=>rfl
 |x::r=>by
  show Value.int .i64 (x:Int)::places r=Value.int .i64 (x:Int)::encI.all (r.map _);rw[zi r]
def vY(s:ByteArray):List Fl.Dg:=(Sg.bad s).map (λp=>(⟨1,p,p+1⟩:Fl.Dg))
theorem SN(w0 w:World)(rb:Nat)(c:Ctx)(q:Pr.QS)(lv:Value)(R:Nat->Prop)(hS:fF w0 w rb c q lv R)(hT:oZ w0)(hb:c.b.size<=1000000)(hd:q.s.d.length<=900000000000):
 Calls prog 23 #[RP rb] w (nW w0 w rb c lv R (.tuple #[]) {q with s:=⟨q.s.t,q.s.d++vY c.b⟩}):=by
 obtain⟨Q,hQ⟩:=eu (nW w0 w rb c lv R (.tuple #[]) {q with s:=⟨q.s.t,q.s.d++vY c.b⟩});rw[hQ];have aa:=acX c.b c.bv w (hS.ctx.text.below hS.kL) (hT.below hS.kL) hb;have h0:w.cell? ⟨rb,0,none⟩=some c.bv:=by
  obtain⟨nv,dv,L,hM,_⟩:=hS;exact bx0 hM.box
 obtain⟨bs,hbs⟩:=eu (Sg.bad c.b);have hbl:bs.length<=1000000:=by rw[<-hbs];exact iU (Sg.EA _ _ _) hb
 have hin:∀p∈bs,p<=1000000:=λp hp=>by
  rw[<-hbs,abA]at hp;have:=Ps.Rn _ _ _ p hp;have hlen:(Sc.eH c.b).length=c.b.size:=by simp[Sc.eH]
  omega
 have hbd:vY c.b=bs.map (λp=>(⟨1,p,p+1⟩:Fl.Dg)):=by unfold vY;rw[hbs]
 rw[hbd]at hQ;rw[hbs]at aa;obtain⟨bv,hbv⟩:=eu (c.bv);rw[hbv]at aa h0;obtain⟨n,hn⟩:=eu (bs.length);obtain⟨rR,HS,HQ,rM,HN⟩:=vV aa hS hQ hin hn;rw[hn]at hbl;have HD:=dY hd;clear aa hS hQ hin hT hb hbs hbd hbv hd hn
 go_enter func23,ntmps23
 go_wp2_with fail
 refine rR.out.mono ?_;rintro e w1 ⟨v,rfl,hown,hb1⟩;obtain⟨is,his⟩:∃is:List Int,bs.map (fun(p:Nat)=>(p:Int))=is:=⟨_,rfl⟩
 have hpl:places bs=encI.all is:=by
  rw[<-his];exact zi bs
 have hil:is.length=bs.length:=by rw[<-his,jl]
 rw[hpl,<-hil]at hown;have hown:w1.ownsRow w.heap.size 3 encI.k v is.length (encI.all is):=hown;obtain⟨a,cap,rfl⟩:=(Reads.fo (E:=encI) hown).shape;have hlt:=HS.out.lt
 have ae:=dY (λwr R' (hF:FP w1 wr rb R R')=>Reads.fo (E:=encI) (fE (w':=wr) hown (λk hk=>by
  have h1:=hown.lt k hk
  exact hF.block k h1.2 dS (λhr=>by have:=(HS.out.rows hr).2.1;omega))))
 have ai:=dY (show∀k x,bs[k]?=some x->is[k]?=some ((x:Nat):Int)from λk x hx=>by rw[<-his,kS,hx];rfl);have ak:=dY (show is.length=n by rw[hil,HN.out])
 have aj:=dY (show fF w0 w1 rb c {q with s:=⟨q.s.t,q.s.d++(bs.take 0).map (λp=>(⟨1,p,p+1⟩:Fl.Dg))⟩} lv R/\FP w1 w1 rb R R from⟨by
  have h1:=HS.out.below hb1;rw[vT,O0,nJ]
  exact h1,FP.refl _ _ _⟩)
 have HB1:=dY hb1;rw[hil,HN.out];clear hown hb1 his hpl hil hlt h0 rR;go_wp2_with fail
 go_loopw [10] (λiv wr=>∃(k:Nat)(R':Nat->Prop),iv=.int .i64 k/\k<=n/\Hid (fF w0 wr rb c {q with s:=⟨q.s.t,q.s.d++(bs.take k).map (λp=>(⟨1,p,p+1⟩:Fl.Dg))⟩} lv R'/\FP w1 wr rb R R')) (λiv _=>n-(intOf iv).toNat)
 case atStart=>exact⟨0,R,rfl,fP _,aj⟩
 case round=>
  obtain⟨k,R',rfl,hk,HP⟩:=hrel;by_cases hlt:k<n
  ·obtain⟨x,hx⟩:∃x,bs[k]?=some x:=⟨_,fu sO⟩
   have hxs:=rM.out x (gW hx);have hrow:=ae.out wr R' HP.out.2;obtain⟨b,off,e,ck⟩:=CQ hrow k _ (ai.out k x hx);subst e
   have af:=Mi w0 wr rb c _ lv R' 1 x (x+1) HP.out.1 (by
    show(q.s.d++_).length<=_;have:=HD.out
    rw[iK,jl,mX];omega)
   have hst:q.s.d++(bs.take (k+1)).map (λp=>(⟨1,p,p+1⟩:Fl.Dg))=(q.s.d++(bs.take k).map (λp=>(⟨1,p,p+1⟩:Fl.Dg)))++[⟨1,x,x+1⟩]:=by
    rw[Dq,hx,yF,pI];rfl
   obtain⟨ag,ah,HF⟩:=je af hst HP.out.2;have gi:(k:Int)<(n:Int):=dS
   clear hrow hx af hst HP;go_wp2_with fail
   refine ag.out.mono ?_;rintro e w2 ⟨rfl,R2,hS2,hF2⟩;have o9:=dY (show fF w0 w2 rb c {q with s:=⟨q.s.t,q.s.d++(bs.take (k+1)).map (λp=>(⟨1,p,p+1⟩:Fl.Dg))⟩} lv R2/\FP w1 w2 rb R R2 from⟨by rw[ah.out];exact hS2,HF.out.trans hF2⟩);clear hS2 hF2 ag ah HF ck;go_wp2_with fail
   go_roundw
   case rel=>exact⟨k+1,R2,fH,dS,o9⟩
   case measure=>simp[intOf];omega
  ·obtain rfl:k=n:=by omega
   have gi:¬(k:Int)<(k:Int):=dS
   have htk:bs.take k=bs:=zw wD
   have HDn:=dY (show Q (.returned (.tuple #[])) wr by
    rw[<-HQ.out];refine⟨rfl,R',?_,(FP.below HB1.out).trans HP.out.2⟩;have h1:=HP.out.1;rw[htk]at h1
    exact h1)
   clear HP htk;go_wp2_with fail
   try go_end0
   exact HDn.out
end
section
open Go.RowKit
open Sq
open Ar
def pV(l:List Tk)(F i:Nat):Option Fl.Dg:=if Fl.raw l (F+i)=3 then some ⟨2,Fl.kW l (F+i),Fl.too l (F+i)⟩else none
theorem KU(l:List Tk)(r:Rw.R):Pr.tabs l r=if r.kind=5 then(List.range (Ps.lo l r.from' r.bu-r.from')).filterMap (pV l r.from')else[]:=rfl
theorem WE(l:List Tk)(F j:Nat):(List.range (j+1)).filterMap (pV l F)=(List.range j).filterMap (pV l F)++(pV l F j).toList:=by
 rw[List.range_succ,List.filterMap_append];rw[ahH,List.filterMap_nil];cases pV l F j<;>rfl
theorem adl(l:List Tk)(r:Rw.R)(h:r.from'<=r.bu):(Pr.tabs l r).length<=r.bu:=by
 rw[KU];split
 ·have h1:=ahL (pV l r.from') (List.range (Ps.lo l r.from' r.bu-r.from'));rw[ahM]at h1;have h2:=Ps.lo_le l h;omega
 ·exact fP _
theorem Nt(l:List Tk)(N:Nat):∀rs:List Rw.R,(∀r∈rs,r.from'<=r.bu/\r.bu<=N)->(rs.flatMap (Pr.tabs l)).length<=rs.length*N
 |[],_=>fP _
 |r::rs,h=>by
  rw[IU,iK,iR,Dr,ahV];have h1:=adl l r (h r eG).1;have h2:=(h r eG).2;have h3:=Nt l N rs (λx hx=>h x qT);omega
theorem WG(w0 w:World)(rb:Nat)(c:Ctx)(q:Pr.QS)(lv:Value)(R:Nat->Prop)(hS:fF w0 w rb c q lv R)(hr:∀r∈c.rs,r.from'<=r.bu/\r.bu<=c.l.length)(hd:q.s.d.length<=800000000000):
 Calls prog 24 #[RP rb] w (nW w0 w rb c lv R (.tuple #[]) {q with s:=⟨q.s.t,q.s.d++c.rs.flatMap (Pr.tabs c.l)⟩}):=by
 have hcx:=hS.ctx;obtain⟨Q,hQ⟩:=eu (nW w0 w rb c lv R (.tuple #[]) {q with s:=⟨q.s.t,q.s.d++c.rs.flatMap (Pr.tabs c.l)⟩});rw[hQ];obtain⟨ra,rc,ax⟩:=hcx.rows.shape;obtain⟨ta,tc,aD⟩:=hcx.toks.shape;have h2:w.cell? ⟨rb,2,none⟩=some c.rv:=by
  obtain⟨nv,dv,L,hM,_⟩:=hS;exact bx2 hM.box
 rw[ax]at h2;obtain⟨RL,ak⟩:=eu (c.rs.length);have hRs:RL<=32768:=by rw[<-ak];exact hcx.rsz
 have aJ:=hcx.size;have hfl:∀k,((c.rs.take k).flatMap (Pr.tabs c.l)).length<=32768*32768:=λk=>by
  have h1:=Nt c.l 32768 (c.rs.take k) (λr hr'=>by have:=hr r (Gl hr');omega);have h3:(c.rs.take k).length<=32768:=nX
  have:=O4 32768 h3;omega
 rw[ak]at h2
 have Vn:=dY (show fF w0 w rb c {q with s:=⟨q.s.t,q.s.d++(c.rs.take 0).flatMap (Pr.tabs c.l)⟩} lv R/\FP w w rb R R from⟨by
  rw[vT,aen,nJ];exact hS,FP.refl _ _ _⟩)
 obtain⟨HQ,aK,aF,Pw,HR,aL⟩:=kG hQ ax aD ak hr hfl;obtain⟨HD,ay⟩:=fw hd hcx;clear hcx hQ ax aD ak aJ hfl hS hr hd
 go_enter func24,ntmps24
 go_wp2_with fail
 go_loopw [11] (λiv wr=>∃(k:Nat)(R':Nat->Prop),iv=.int .i64 k/\k<=RL/\Hid (fF w0 wr rb c {q with s:=⟨q.s.t,q.s.d++(c.rs.take k).flatMap (Pr.tabs c.l)⟩} lv R'/\FP w wr rb R R')) (λiv _=>RL-(intOf iv).toNat)
 case atStart=>exact⟨0,R,rfl,fP _,Vn⟩
 case round=>
  obtain⟨k,R',rfl,hk,HP⟩:=hrel;by_cases hlt:k<RL
  ·obtain⟨r,ag⟩:∃r,c.rs[k]?=some r:=⟨_,fu (by rw[Pw.out];exact hlt)⟩
   have hrr:=HR.out r (gW ag);have hP:=HP.out;have hrw:=ay.out.rows.below hP.1.kL;rw[aK.out]at hrw;obtain⟨b,off,e,k0,k1,k2,k3⟩:=EJ hrw k r ag;subst e;have hnext:(c.rs.take (k+1)).flatMap (Pr.tabs c.l)=(c.rs.take k).flatMap (Pr.tabs c.l)++Pr.tabs c.l r:=by
    rw[Dq,ag,ahI];congr 1;show List.flatMap _ [r]=_;rw[IU,aen,nJ]
   obtain⟨az,aM⟩:=fw hnext ag;obtain⟨bx,hbx⟩:=eu (wr.heap.size);obtain⟨rk,rF,rT,rc'⟩:=r;dsimp only at k0 k1 k2 k3 hrr;obtain⟨W1,hW1⟩:=eu (wr.alloc (.cells #[.int .i64 (rk:Int),.int .i64 (rF:Int),.int .i64 (rT:Int),.int .i64 rc'] 61));have Gc:Below wr.heap.size wr W1:=hW1▸dZ wr _;have kb:W1.heap[bx]?=some (.cells #[.int .i64 (rk:Int),.int .i64 (rF:Int),.int .i64 (rT:Int),.int .i64 rc'] 61 (0,0)):=by rw[<-hW1,<-hbx];exact lz _ _
   have y0:W1.cell? ⟨bx,0,none⟩=some (.int .i64 (rk:Int)):=fq kb 0;have y1:W1.cell? ⟨bx,1,none⟩=some (.int .i64 (rF:Int)):=fq kb 1;have y2:W1.cell? ⟨bx,2,none⟩=some (.int .i64 (rT:Int)):=fq kb 2;have gk:(k:Int)<(RL:Int):=dS
   have zq:=dY (And.intro (hP.1.below Gc) (hP.2.trans (FP.below Gc)));obtain⟨HW1,tO⟩:=fw hW1 hbx;by_cases h5:rk=5
   ·have g5:((rk:Int)==5)=true:=by simp[h5]
    have hlo1:=Ps.kF c.l rF rT;have hlo2:=Ps.lo_le c.l hrr.1;obtain⟨LO,hLO⟩:=eu (Ps.lo c.l rF rT);rw[hLO]at hlo1 hlo2;have htk:=ay.out.toks;rw[aF.out]at htk;obtain⟨vc,hsl,ah⟩:=Ka (P:=prog) tyT htk hlo1 dS;have hls:=ay.out.size;have ai:=λW (h1:W.cell? ⟨rb,1,none⟩=some c.tv)(h2:Reads iQ W c.tv c.l)=>Aa rb c.tv c.l rF rT W h1 h2 hrr.1 hrr.2 dS
    rw[hLO]at ai;obtain⟨ts,hts⟩:=eu ((c.l.drop rF).take (LO-rF));obtain⟨M,hM⟩:=eu (LO-rF);have htl:ts.length=M:=Yz
    have hget:∀j x,ts[j]?=some x->c.l[rF+j]?=some x:=λj x hx=>by
     have hj:=(eY.1 hx).1;rw[<-hts,tu dS,sW]at hx;exact hx
    rw[hts]at ah;obtain⟨ua,uc,huv⟩:=ah.shape;rw[huv]at ah hsl;have aj:Pr.tabs c.l ⟨rk,rF,rT,rc'⟩=(List.range M).filterMap (pV c.l rF):=by
     rw[KU,dX h5];show List.filterMap _ (List.range (Ps.lo c.l rF rT-rF))=_;rw[hLO,hM]
    have n1:=zq.out.1.tok.1;have nr:=zq.out.1.tok.2.1;rw[aF.out]at n1 nr ai;obtain⟨NL,aA⟩:=eu (c.l.length);have aS:NL<=32768:=by rw[<-aA];exact hls
    rw[aA]at n1 nr hsl ai;rw[htl]at hsl;obtain⟨aN,aO,aP,aG,aQ,aB⟩:=kG nr ai ah hget htl aj
    have HI0:=dY (show fF w0 W1.drew rb c {q with s:=⟨q.s.t,(q.s.d++(c.rs.take k).flatMap (Pr.tabs c.l))++(List.range 0).filterMap (pV c.l rF)⟩} lv R'/\FP w W1.drew rb R R' from⟨by
     have h1:=zq.out.1.below (fD _ W1).drew;rw[List.range_zero,List.filterMap_nil,nJ]
     exact h1,zq.out.2.trans (FP.below (fD _ W1).drew)⟩)
    have hMs:M<=32768:=dS
    clear hlo1 hlo2 hLO htk ah hls ai hts hM htl hget huv aj nr aA hP hrw hrr hbx hW1 Gc kb HP zq hnext ag h5;go_upto_region 4 with fail
    rw[HW1.out,tO.out];clear HW1 tO k0 k1 k2 k3;refine fO (λwx=>wx.cell? ⟨rb,1,none⟩=some (.slice ta NL tc)/\wx.cell? ⟨bx,1,none⟩=some (.int .i64 (rF:Int))/\wx.cell? ⟨bx,2,none⟩=some (.int .i64 (rT:Int))/\Reads iQ wx (.slice ta NL tc) c.l) 12 dV ?_;have hH:(λwx:World=>wx.cell? ⟨rb,1,none⟩=some (.slice ta NL tc)/\wx.cell? ⟨bx,1,none⟩=some (.int .i64 (rF:Int))/\wx.cell? ⟨bx,2,none⟩=some (.int .i64 (rT:Int))/\Reads iQ wx (.slice ta NL tc) c.l) W1.drew:=⟨eP n1,eP y1,eP y2,aN.out.below (fD _ W1).drew⟩
    refine gZ 0 (.pointer (some ⟨rb,0,none⟩)) (λ_=>hH) ?_;refine gZ 1 (.pointer (some ⟨rb,0,none⟩)) (λ_=>hH) ?_;refine gZ 2 (.pointer (some ⟨rb,1,none⟩)) (λ_=>hH) ?_;refine rV 3 (.slice ta NL tc) (λW hW=>?_) hH ?_
    ·obtain⟨z0,z1,z2,z3⟩:=hW;go_simp
    refine gZ 4 (.pointer (some ⟨bx,1,none⟩)) (λ_=>hH) ?_;refine rV 5 (.int .i64 (rF:Int)) (λW hW=>?_) hH ?_
    ·obtain⟨z0,z1,z2,z3⟩:=hW;go_simp
    refine gZ 6 (.pointer (some ⟨rb,0,none⟩)) (λ_=>hH) ?_;refine gZ 7 (.pointer (some ⟨bx,1,none⟩)) (λ_=>hH) ?_;refine tkc 11 8 (.int .i64 (rF:Int)) (λW hW=>?_) hH ?_
    ·obtain⟨z0,z1,z2,z3⟩:=hW;go_simp
    refine gZ 9 (.pointer (some ⟨bx,2,none⟩)) (λ_=>hH) ?_;refine tkc 11 10 (.int .i64 (rT:Int)) (λW hW=>?_) hH ?_
    ·obtain⟨z0,z1,z2,z3⟩:=hW;go_simp
    refine nN (i:=11) (oi:=⟨_,_,_,_,_,_⟩) (v:=.int .i64 (LO:Int)) rfl dV dV dV dV dV (λ_ _ _ h=>h) (Or.inl ⟨rfl,λW hW=>?_⟩) hH ?_
    ·refine lJ.CF (f:=44) (args:=#[RP rb,.int .i64 (rF:Int),.int .i64 (rT:Int)]) ?_ ?_
     ·go_simp
     ·exact aO.out W hW.1 hW.2.2.2
    try simp only[Act.put,fG,fB,fC]
    refine gZ 14 (.int .i64 0) (λ_=>hH) ?_;refine mY 12 λK hK=>?_
    go_simp;refine hK.out _ _ lh (λ_=>?_);clear hK K;try simp only[Act.put,fG,fB,fC]
    refine gZ 13 (.int .i64 (M:Int)) lh ?_;refine fJ dV ?_ _;clear hsl n1;go_wp2_with fail
    rename World=>wq
    go_loopw [32] (λjv ws=>∃(j:Nat)(R2:Nat->Prop),jv=.int .i64 j/\j<=M/\Hid (fF w0 ws rb c {q with s:=⟨q.s.t,(q.s.d++(c.rs.take k).flatMap (Pr.tabs c.l))++(List.range j).filterMap (pV c.l rF)⟩} lv R2/\FP w ws rb R R2)) (λjv _=>M-(intOf jv).toNat)
    case atStart=>exact⟨0,R',rfl,fP _,HI0⟩
    case round=>
     obtain⟨j,R2,rfl,hj,HJ⟩:=hrel;by_cases hjl:j<M
     ·obtain⟨x,hx⟩:∃x,ts[j]?=some x:=⟨_,fu (by rw[aQ.out];exact hjl)⟩
      have hlx:=aG.out j x hx;have hraw:=Fl.uU hlx;have hrd:Reads iQ wr (.slice ua ts.length uc) ts:=aP.out.below HJ.out.1.kL;obtain⟨tb,aT,e,c0,c1,c2⟩:=iY hrd j x hx;subst e;have aa:Fl.kW c.l (rF+j)=x.2.1:=by unfold Fl.kW;rw[hlx]
      have ae:Fl.too c.l (rF+j)=x.2.2:=by unfold Fl.too;rw[hlx]
      obtain⟨x1,x2,x3⟩:=x;dsimp only at c0 c1 c2 hraw aa ae;have htn:=WE c.l rF j;obtain⟨bz,hbz⟩:=eu (wr.heap.size);obtain⟨W2,hW2⟩:=eu (wr.alloc (.cells #[.int .i64 (x1:Int),.int .i64 (x2:Int),.int .i64 (x3:Int)] 45));have af:Below wr.heap.size wr W2:=hW2▸dZ wr _;have kz:W2.heap[bz]?=some (.cells #[.int .i64 (x1:Int),.int .i64 (x2:Int),.int .i64 (x3:Int)] 45 (0,0)):=by rw[<-hW2,<-hbz];exact lz _ _
      have v0:W2.cell? ⟨bz,0,none⟩=some (.int .i64 (x1:Int)):=fq kz 0;have v1:W2.cell? ⟨bz,1,none⟩=some (.int .i64 (x2:Int)):=fq kz 1;have v2:W2.cell? ⟨bz,2,none⟩=some (.int .i64 (x3:Int)):=fq kz 2;have hJ2:=HJ.out.1.below af;have hF2:=HJ.out.2.trans (FP.below af);have gj:(j:Int)<(M:Int):=dS
      obtain⟨HW2,av⟩:=fw hW2 hbz;by_cases h3:x1=3
      ·have g3:((x1:Int)==3)=true:=by simp[h3]
       have hto:pV c.l rF j=some ⟨2,x2,x3⟩:=by unfold pV;rw[hraw,dX h3,aa,ae]
       rw[hto]at htn;have hfl:=aL.out k;have hdl:=HD.out;have hfm:=ahL (pV c.l rF) (List.range j);rw[ahM]at hfm
       have hTe:=Mi w0 W2 rb c _ lv R2 2 x2 x3 hJ2 (by
        show((q.s.d++_)++_).length<=_
        rw[iK,iK];omega)
       obtain⟨aH,Pv,aI⟩:=je hTe htn hF2;clear hx hlx hraw hrd aa ae hbz hW2 af kz hJ2 hF2 h3 hto hfl hdl hfm hTe htn HJ;go_upto_region 7 with fail
       rw[HW2.out,av.out];clear HW2 av c0 c1 c2;go_wp2_with fail
       refine aH.out.mono ?_;rintro e w5 ⟨rfl,R5,hS5,I6⟩
       have aC:=dY (show fF w0 w5 rb c {q with s:=⟨q.s.t,(q.s.d++(c.rs.take k).flatMap (Pr.tabs c.l))++(List.range (j+1)).filterMap (pV c.l rF)⟩} lv R5/\FP w w5 rb R R5 from⟨by
        rw[Pv.out,<-pI];exact hS5,aI.out.trans I6⟩)
       clear hS5 I6 aH Pv aI;go_wp2_with fail
       go_roundw
       case rel=>exact⟨j+1,R5,fH,dS,aC⟩
       case measure=>simp[intOf];omega
      ·have g3:((x1:Int)==3)=false:=by simp;omega
       have hto:pV c.l rF j=none:=by unfold pV;rw[hraw,dW h3]
       rw[hto]at htn
       have aC:=dY (show fF w0 W2 rb c {q with s:=⟨q.s.t,(q.s.d++(c.rs.take k).flatMap (Pr.tabs c.l))++(List.range (j+1)).filterMap (pV c.l rF)⟩} lv R2/\FP w W2 rb R R2 from⟨by
        rw[htn];show fF w0 W2 rb c {q with s:=⟨q.s.t,(q.s.d++(c.rs.take k).flatMap (Pr.tabs c.l))++((List.range j).filterMap (pV c.l rF)++[])⟩} lv R2
        rw[nJ];exact hJ2,hF2⟩)
       clear hx hlx hraw hrd aa ae hbz hW2 af kz hJ2 hF2 h3 hto htn HJ;go_upto_region 7 with fail
       rw[HW2.out,av.out];clear HW2 av c0 c1 c2;go_wp2_with fail
       go_roundw
       case rel=>exact⟨j+1,R2,fH,dS,aC⟩
       case measure=>simp[intOf];omega
     ·obtain rfl:j=M:=by omega
      have gj:¬(j:Int)<(j:Int):=dS
      have aR:=dY (show fF w0 wr rb c {q with s:=⟨q.s.t,q.s.d++(c.rs.take (k+1)).flatMap (Pr.tabs c.l)⟩} lv R2/\FP w wr rb R R2 from⟨by
       rw[az.out,aB.out,<-pI];exact HJ.out.1,HJ.out.2⟩)
      clear HJ;go_wp2_with fail
      go_roundw
      case rel=>exact⟨k+1,R2,fH,dS,aR⟩
      case measure=>simp[intOf];omega
   ·have g5:((rk:Int)==5)=false:=by simp;omega
    have o9:=dY (show fF w0 W1 rb c {q with s:=⟨q.s.t,q.s.d++(c.rs.take (k+1)).flatMap (Pr.tabs c.l)⟩} lv R'/\FP w W1 rb R R' from⟨by
     rw[az.out,KU,dW h5,nJ]
     exact zq.out.1,zq.out.2⟩)
    clear hP hrw hrr hbx hW1 Gc kb HP zq az aM hnext ag h5;go_upto_region 3 with fail
    rw[HW1.out,tO.out];clear HW1 tO k0 k1 k2 k3;go_wp2_with fail
    exact aaz
  ·obtain rfl:k=RL:=by omega
   have gi:¬(k:Int)<(k:Int):=dS
   have HDn:=dY (show Q (.returned (.tuple #[])) wr by
    rw[<-HQ.out];have h1:=HP.out.1;rw[zw (by rw[Pw.out];exact eO _)]at h1
    exact⟨rfl,R',h1,HP.out.2⟩)
   clear HP;go_wp2_with fail
   try go_end0
   exact HDn.out
end
end Go.Proofs.YtmkkdjpebbdikaaGreatDoor

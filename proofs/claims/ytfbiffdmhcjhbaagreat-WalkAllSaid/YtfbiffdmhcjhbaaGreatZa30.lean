import Derived.Test.YtfbiffdmhcjhbaaGreatZa25
import Derived.Test.YtfbiffdmhcjhbaaGreatZa27
set_option linter.all false
set_option maxHeartbeats 16000000
set_option maxRecDepth 100000
set_option synthInstance.maxSize 4000
set_option synthInstance.maxHeartbeats 0
namespace Go.Proofs.YtfbiffdmhcjhbaaGreat
open Go.RowKit Tryz
section
open Go.RowKit
open Sq
open Ar
open Fl (Tk raw jh iM cnt back fQ gI)
theorem RB.keep{w w':World}{b:Nat}{k f t c:Int}(h:RB w b k f t c)(hT:TF w w'):RB w' b k f t c:=(hT b _ _ _ h (by decide) (by decide) (by decide) (by decide)).trans h
theorem RB.c0{w:World}{b:Nat}{k f t c:Int}(h:RB w b k f t c):w.cell? ⟨b,0,none⟩=some (.int .i64 k):=gQ h 0
theorem RB.c1{w:World}{b:Nat}{k f t c:Int}(h:RB w b k f t c):w.cell? ⟨b,1,none⟩=some (.int .i64 f):=gQ h 1
theorem RB.c2{w:World}{b:Nat}{k f t c:Int}(h:RB w b k f t c):w.cell? ⟨b,2,none⟩=some (.int .i64 t):=gQ h 2
theorem RB.c3{w:World}{b:Nat}{k f t c:Int}(h:RB w b k f t c):w.cell? ⟨b,3,none⟩=some (.int .i64 c):=gQ h 3
theorem PG.apart{w0 w:World}{c:Cx}{e:Nat}{p:Ps.PS}{sv:Value}{R:Nat->Prop}(h:PG w0 w c e p sv R):c.pb≠c.rb:=(h.gs.off h.box (by decide) (by decide)).2
theorem Q8(w0 w:World)(c:Cx)(e:Nat)(p:Ps.PS)(sv:Value)(R:Nat->Prop)(r:Rw.R)(e0:Nat)(B:Ps.Bs)(h:PG w0 w c e p sv R)(hrs:c.rs=Rw.fE c.l)(hI:Ps.Inv c.l B e0 p)(hr:Ps.l8 c.l r)(h4:r.kind=4)(hB:B.1<=r.from')(he:e0<=r.from')(aI:c.depth<=50)
 (hn:p.s.t.length<=400000000000) (hd:p.s.d.length<=400000000000):
 Calls prog 43 #[RG c.pb,.agg #[.int .i64 r.kind,.int .i64 r.from',.int .i64 r.au,.int .i64 r.fo]] w (iJ w0 w c (.tuple #[]) (Ps.mark c.l c.rs c.depth p r)):=by
 have hls:=h.toks.2.2.2;have hlt:=hr.lt;have hle:=hr.le;obtain⟨m1,m2⟩:=hr.mark h4;have hge:=Ps.jJ c.l r.from' r.au;have hbl:=fQ c.l r.au (Ps.lo c.l r.from' r.au);obtain⟨w1,hw1⟩:=eX (w.alloc (.cells #[.int .i64 r.kind,.int .i64 r.from',.int .i64 r.au,.int .i64 r.fo] 67));have hb1:Below w.heap.size w w1:=hw1▸(fu _ w).alloc (fC _) _;have hX1:RB w1 w.heap.size r.kind r.from' r.au r.fo:=hw1▸RB.new w _ _ _ _;have hP1:=h.below hb1;have hT1:=TF.below hb1;have ak:=kD w0 w1 c e p sv R r.from' r.au hP1 (by omega) hle;obtain⟨bx,hbx⟩:=eX (w.heap.size);rw[hbx]at hX1;have x1:=hX1.c1;have x2:=hX1.c2;have f4:=hP1.free 4;have k4:w1.cell? ⟨c.pb,4,none⟩=some sv:=hP1.cell 4 _ rfl;obtain⟨hP2,aP⟩:=hP1.l6 (p':={p with st:=[]}) (sv':=.slice none 0 0) rfl rfl rfl rfl (jq iA _ _);obtain⟨w2,hw2⟩:=eX (w1.setCell ⟨c.pb,4,none⟩ (.slice none 0 0));rw[hw2]at hP2 aP;have hX2:=hX1.keep aP;have av:=hT1.trans aP;obtain⟨P,hP⟩:=eX (Ps.mark c.l c.rs c.depth p r);have aQ:=eu hP;rw[hP];unfold Ps.mark at hP;dsimp only at hP;obtain⟨a,ha⟩:=eX (Ps.lo c.l r.from' r.au);rw[ha]at m1 m2 hge hbl hP ak;obtain⟨b,hb⟩:=eX (back c.l r.au a);rw[hb]at hbl ak;obtain⟨x,hx0⟩:=iT c.l a (by omega);have hraw:=Fl.kR hx0;rw[hraw]at m2 hP;have k0:w2.cell? ⟨c.pb,0,none⟩=some (RG c.rb):=hP2.cell 0 _ rfl;have t0:w2.cell? ⟨c.rb,0,none⟩=some c.tv:=hP2.gs.toks.1;have htk:=hP2.gs.toks.2.2.1;obtain⟨ta,tc,bB⟩:=htk.shape;rw[bB]at htk t0;obtain⟨tb,off,bP,y0,-,-⟩:=iG htk a x hx0;subst bP;have ga:a<c.l.length:=by omega
 obtain⟨N,hN⟩:=eX (c.l.length);obtain⟨K,hK⟩:=eX (x.1);rw[hK]at m2 y0 hP;have bC:(a:Int)<(N:Int):=by omega
 rw[hN]at t0;obtain⟨az,HW1,HW2⟩:=gW ak hw1 hw2;have hroot:=hI.root;obtain⟨Q,hQ⟩:=eX (iJ w0 w c (.tuple #[]) P);have aA:=eu (λW (h:∃e sv R,PG w0 W c e P sv R/\TF w W)=>show Q (.returned (.tuple #[])) W from by rw[<-hQ];exact⟨rfl,h⟩);rw[hQ];obtain⟨F,hF⟩:=eX (r.from');obtain⟨T,hT⟩:=eX (r.au);rw[hF]at hge ak az x1 he hB;rw[hT]at m1 hbl ak az x2 hle hP hb;have HT:=eu hT;clear ak hQ hw1 hw2 hX1 hP1 hT1 aP hb1 ha bB htk h h4 hF hT;by_cases h20:K=20
 ·rw[eT h20]at hP;have g20:((K:Int)==20)=true:=by simp;omega
  have hA:=AA w0 w2 c.rb c.tv e c.l p.s R 0 e0 2 a (a+1) e0 hP2.gs hroot.ck hroot.fits hroot.lf hroot.no (by omega) (by omega) (by omega) (by omega) (by omega) (by omega);obtain⟨s',a1,_,a3,_,_⟩:=Fe.iW (kind:=2) (f:=a) (t:=a+1) hroot (by omega) (by omega) (by omega) (by omega) (by omega);have hz:=Fe.iU p.s ((0:Nat):Int) 2 a (a+1);have a1':Fl.add p.s 0 2 a (a+1)=(s',(p.s.t.length:Int)):=a1;rw[a1]at hA hz;rw[a1']at hP;dsimp only at hA hP hz;obtain⟨hz1,hz2⟩:=hz;have a3':Ps.OK c.l B p.s.t.length (a+1) s':=a3.le (by omega) (by omega);have HA:=eu (show Calls prog 68 #[RG c.rb,.int .i64 0,.int .i64 2,.int .i64 a,.int .i64 ((a:Int)+1)] w2 (fU w0 w2 c.rb c.tv e c.l R (.int .i64 (p.s.t.length:Nat)) s')from by rw[show(a:Int)+1=((a+1:Nat):Int)by omega];exact hA);obtain⟨TL,hTL⟩:=eX (p.s.t.length);rw[hTL]at HA hP a3' hz1 hn;have hb:=fQ c.l T (Ps.lo c.l (a+1) T);have aY:=Ps.jJ c.l (a+1) T;obtain⟨X,hX⟩:=eX (Ps.lo c.l (a+1) T);rw[hX]at hb aY hP;obtain⟨Y,hY⟩:=eX (back c.l T X);rw[hY]at hb hP
  have bD:=eu (λW e' p' sv' R' (hW:PG w0 W c e' p' sv' R')=>show Calls prog 45 #[RG c.pb,.int .i64 ((a:Int)+1),.int .i64 (T:Int)] W λen w'=>en=.returned (.tuple #[.int .i64 (X:Nat),.int .i64 (Y:Nat)])/\W=w' from by
   have h1:=kD w0 W c e' p' sv' R' (a+1) T hW (by omega) (by omega);rw[hX,hY]at h1
   rw[show(a:Int)+1=((a+1:Nat):Int)by omega];exact h1)
  obtain⟨bE,aU,bF⟩:=gW hP2 av hX2;have gx:X<=200000:=by have h1:=iM (λj=>!cnt (raw c.l j)) (T-(a+1)) (a+1);have h2:X=jh (λj=>!cnt (raw c.l j)) (T-(a+1)) (a+1):=hX.symm;omega
  have aH:(a:Int)+1<=100000:=by omega
  have bS:TL<=400000000000:=hn;have hpre:∀W e' sv' R',PG w0 W c e' {p with s:=s',doc:=(TL:Int),root:=false,st:=[]} sv' R'->X<Y->Calls prog 69 #[RG c.pb,.int .i64 TL,.int .i64 X] W (iJ w0 W c (.bool (Ps.value c.l c.rs c.depth {p with s:=s',doc:=(TL:Int),root:=false,st:=[]} TL X).2) (Ps.value c.l c.rs c.depth {p with s:=s',doc:=(TL:Int),root:=false,st:=[]} TL X).1):=λW e' sv' R' hW hxy=>
   PX w0 W c e' _ sv' R' TL X (a+1) B hW hrs a3' aY (by omega) (by omega) (gG _) aI (by show s'.t.length<=_;omega) (by show s'.d.length<=_;rw[hz2];omega)
  have HV:=eu hpre;clear hpre hA a1 a1' a3 a3' hz1 hz2 hb aY hX hY hroot hI hr hP2 av hX2 hTL hn hd hrs
  go_enter func43,ntmps43
  go_upto_region 1 with fail
  rw[HW1.out];go_wp2_with fail
  refine az.out.mono ?_;rintro e1 v1 ⟨rfl,rfl⟩;go_upto_region 3 with fail
  rw[HW2.out];clear f4 k4 x1 x2;go_wp2_with fail
  refine HA.out.mono ?_;rintro e2 w3 ⟨rfl,R3,aJ,aK⟩;obtain⟨hP3,aD⟩:=bE.out.step aJ aK;have d2:w3.cell? ⟨c.pb,2,none⟩=some (.int .i64 p.doc):=hP3.cell 2 _ rfl;have f2:=hP3.free 2;obtain⟨aa,ae⟩:=hP3.toCell (p':={p with s:=s',doc:=(TL:Int),st:=[]}) (i:=2) (u:=.int .i64 (TL:Int)) rfl rfl rfl;obtain⟨w4,hw4⟩:=eX (w3.setCell ⟨c.pb,2,none⟩ (.int .i64 (TL:Int)));rw[hw4]at aa ae;have d3:w4.cell? ⟨c.pb,3,none⟩=some (.bool p.root):=aa.cell 3 _ rfl;have f3:=aa.free 3;obtain⟨ag,ax⟩:=aa.toCell (p':={p with s:=s',doc:=(TL:Int),root:=false,st:=[]}) (i:=3) (u:=.bool false) rfl rfl rfl;obtain⟨w5,aZ⟩:=eX (w4.setCell ⟨c.pb,3,none⟩ (.bool false));rw[aZ]at ag ax;obtain⟨aL,bQ⟩:=fD hw4 aZ;have aM:=(aD.trans ae).trans ax;have b5:=bF.out.keep aM;have bT:w5.cell? ⟨bx,2,none⟩=some (.int .i64 (T:Int)):=HT.out▸b5.c2;obtain⟨aR,aS⟩:=fD ag (aU.out.trans aM);have bf:=eu (bD.out w5 _ _ _ _ ag);have s2:w5.cell? ⟨c.pb,2,none⟩=some (.int .i64 (TL:Int)):=ag.cell 2 _ rfl;clear aJ aK hP3 aD aa ae ag ax hw4 aZ aM b5 bE aU bF bD HA;go_upto_region 5 with fail
  rw[aL.out];go_upto_region 6 with fail
  rw[bQ.out];clear d2 f2 d3 f3 k0 t0 y0;by_cases hxy:X<Y
  ·rw[eT hxy]at hP;have aF:(X:Int)<(Y:Int):=by omega
   have HV5:=eu (HV.out w5 _ _ _ aR.out hxy);obtain⟨V,hV⟩:=eX (Ps.value c.l c.rs c.depth {p with s:=s',doc:=(TL:Int),root:=false,st:=[]} TL X);rw[hV]at HV5 hP;have bG:=eu hP;clear hP hV HV aR aQ;go_wp2_with (first|(with_reducible refine bf.out.mono ?_;rintro e4 v4 ⟨rfl,rfl⟩)|fail)
   refine HV5.out.mono ?_;rintro e6 w6 ⟨rfl,e7,bU,R6,aT,bH⟩;have d3:=aT.cell 3 _ rfl;have f3:=aT.free 3;obtain⟨bg,bI⟩:=aT.toCell (p':={V.1 with root:=V.2}) (i:=3) (u:=.bool V.2) rfl rfl rfl;rw[bG.out]at bg;have HD:=eu (aA.out _ ⟨_,_,_,bg,(aS.out.trans bH).trans bI⟩);clear aT bH bg bI HV5 bf aA bG aS;go_wp2_with fail
   go_end0
   exact HD.out
  rw[eQ hxy]at hP;have aF:¬(X:Int)<(Y:Int):=by omega
  have HD:=eu (aA.out w5 ⟨_,_,_,by rw[<-hP];exact aR.out,aS.out⟩);clear hP HV aR aQ aA aS;go_wp2_with (first|(with_reducible refine bf.out.mono ?_;rintro e4 v4 ⟨rfl,rfl⟩)|fail)
  go_end0
  exact HD.out
 rw[eQ h20]at hP;have g20:((K:Int)==20)=false:=by simp;omega
 rw[hb]at hP;rcases hI with⟨g1,g2,g3⟩|⟨d,g1,g2,g3⟩
 ·rw[eQ (by omega)]at hP;obtain⟨s1,hs1⟩:=eX (p.s);have hgrow:Ps.OK c.l B 0 (a+1) p.s:=g3.le (by omega) (by omega);have gd:¬(0:Int)<=p.doc:=by omega
  have HQ:=eu (λW (h:∃e sv R,PG w0 W c e {p with s:=Ps.jo c.l p.s 0 (Ps.lo c.l (a+1) b) (back c.l b (Ps.lo c.l (a+1) b)) 8,doc:=-1,st:=[]} sv R/\TF w W)=>show Q (.returned (.tuple #[])) W from aA.out W (by rw[<-hP];exact h));have d2:w2.cell? ⟨c.pb,2,none⟩=some (.int .i64 p.doc):=hP2.cell 2 _ rfl;have f2:=hP2.free 2;obtain⟨aa,ae⟩:=hP2.toCell (p':={p with doc:=-1,st:=[]}) (i:=2) (u:=.int .i64 (-1)) rfl rfl rfl;obtain⟨w4,hw4⟩:=eX (w2.setCell ⟨c.pb,2,none⟩ (.int .i64 (-1)));rw[hw4]at aa ae;have ay:=hX2.keep ae;have ae:=av.trans ae;have aL:=eu hw4;have ah:s1.t.length<=400000000000:=by rw[<-hs1];exact hn
  have ai:s1.d.length<=400000000000:=by rw[<-hs1];exact hd
  change PG w0 w4 c e {s:=p.s,doc:=-1,root:=p.root,st:=[],read:=p.read} (.slice none 0 0) R at aa
  rw[hs1]at aa HQ hgrow;clear hw4 av hX2 hP2 hP aQ aA hn hd g2 g3
  go_enter func43,ntmps43
  go_upto_region 1 with fail
  rw[HW1.out];go_wp2_with fail
  refine az.out.mono ?_;rintro e1 v1 ⟨rfl,rfl⟩;go_upto_region 3 with fail
  rw[HW2.out];clear f4 k4 x1 x2;go_upto_region 12 with fail
  rw[aL.out];clear d2 f2 k0 t0 y0;have hI:True:=trivial;have bn:=ay.c1;have bq:=ay.c2;have d0:w4.cell? ⟨c.pb,0,none⟩=some (RG c.rb):=aa.cell 0 _ rfl;have af:=kD w0 w4 c e _ _ _ (a+1) b aa (by omega) (by omega);have hx:=Ps.jJ c.l (a+1) b;have hy:=fQ c.l b (Ps.lo c.l (a+1) b);obtain⟨X,hX⟩:=eX (Ps.lo c.l (a+1) b);rw[hX]at af hx hy HQ;obtain⟨Y,hY⟩:=eX (back c.l b X);rw[hY]at af hy HQ;have aj:=eu (show Calls prog 45 #[RG c.pb,.int .i64 ((a:Int)+1),.int .i64 (b:Int)] w4 λen w'=>en=.returned (.tuple #[.int .i64 (X:Nat),.int .i64 (Y:Nat)])/\w4=w' from by rw[show(a:Int)+1=((a+1:Nat):Int)by omega];exact af);have gx:X<=200000:=by have h1:=iM (λj=>!cnt (raw c.l j)) (b-(a+1)) (a+1);have h2:X=jh (λj=>!cnt (raw c.l j)) (b-(a+1)) (a+1):=hX.symm;omega
  have aH:(a:Int)+1<=100000:=by omega
  by_cases hxy:X<Y
  ·have aF:(X:Int)<(Y:Int):=by omega
   obtain⟨-,m2⟩:=Fe.jL (code:=8) hgrow (f:=X) (t:=Y) (by omega) hxy (by omega) (by omega) (by omega) (by omega) (by omega);obtain⟨v,hev⟩:=vW w0 w4 c.rb c.tv e c.l s1 _ 0 X Y 8 aa.gs (jD.of hgrow.ck (by omega)) (lh m2) hxy (by omega) (by omega);have HE:=eu hev;have aN:=eu (λW (h:∃e sv R,PG w0 W c e {p with s:=Fl.err c.l s1 0 X Y 8,doc:=-1,st:=[]} sv R/\TF w W)=>show Q (.returned (.tuple #[])) W from HQ.out W (by rw[show Ps.jo c.l s1 0 X Y 8=Fl.err c.l s1 0 X Y 8 from eT hxy];exact h));obtain⟨aB,aC⟩:=fD aa ae;clear hev m2 aa ae af hX hY hx hy HQ hgrow ay hxy hroot hI hr hs1 ah ai;go_wp2_with fail
   refine aj.out.mono ?_;rintro e4 v4 ⟨rfl,rfl⟩;go_wp2_with fail
   refine HE.out.mono ?_;rintro e5 w5 ⟨rfl,R5,hS5,aO⟩;obtain⟨ag,ax⟩:=aB.out.step hS5 aO;have HD:=eu (aN.out _ ⟨_,_,_,ag,aC.out.trans ax⟩);clear hS5 aO ag ax aB aC HE aN aj;go_wp2_with fail
   go_end0
   exact HD.out
  have aF:¬(X:Int)<(Y:Int):=by omega
  have HD:=eu (HQ.out w4 ⟨_,_,_,by rw[show Ps.jo c.l s1 0 X Y 8=s1 from eQ hxy];exact aa,ae⟩);clear aa ae af hX hY hx hy HQ hgrow ay hxy hroot hI hr hs1 ah ai;clear hx0 hraw hK m2 g20 h20 hbl hge hB he m1 hle bC ga hN hls hlt hrs aI gd bn bq;try clear g1
  have bz:=eu (show¬X<Y by omega);go_wp2_with fail
  refine aj.out.mono ?_;rintro e4 v4 ⟨rfl,rfl⟩;clear aF gx aH hb;try clear ah ai
  go_wp2_with fail
  all_goals first
   |exact absurd (by assumption:X<Y) bz.out
   |(go_end0;exact HD.out)
 rw[eT (by omega)]at hP;obtain⟨k1,k2⟩:=Ps.jT.all g2 g3;have hgrow:Ps.OK c.l B 0 (a+1) ⟨gJ p.s.t p.doc ((a+1:Nat):Int),p.s.d⟩:=by
  rw[g1];have k3:=Fe.nX (t:=a+1) k2 (by omega) (by omega) (by omega);have k4:=(Fe.nX (t:=a+1) (Fe.Ok.start (l:=c.l) (p0:=B.1) k2.ck k2.fits k2.lf k2.no) (by omega) (by omega) (by omega)).keep;exact Ps.Ay k3 (k1.keep k4)
 have hz1:=Fe.oO p.s.t p.doc ((a+1:Nat):Int);obtain⟨-,y,hy0,-⟩:=k1;have bJ:ku p.s.t p.doc ((a+1:Nat):Int)=true:=by rw[g1];exact Bo hroot.ck (fT.1 hy0).1 (by omega)
 obtain⟨nv,n1,hgr⟩:=(hP2.below (fu _ w2).drew).gs.grow p.doc ((a+1:Nat):Int) (jD.of hroot.ck (by show p.s.t.length<=_;omega)) bJ;obtain⟨s1,hs1⟩:∃s1:Fl.St,(⟨gJ p.s.t p.doc ((a+1:Nat):Int),p.s.d⟩:Fl.St)=s1:=⟨_,rfl⟩
 have ah:s1.t.length<=400000000000:=by rw[<-hs1];show(gJ _ _ _).length<=_;rw[hz1];exact hn
 have ai:s1.d.length<=400000000000:=by rw[<-hs1];exact hd
 rw[hs1]at hgrow hgr hP;have bK:=eu (show Calls prog 70 #[.agg #[nv],.int .i64 p.doc,.int .i64 ((a:Int)+1)] w2.drew (λen w'=>∃ua un uc,en=.returned (.agg #[.slice ua un uc])/\w'.cell? ⟨c.rb,1,none⟩=some nv/\w'.frozen? ⟨c.rb,1,none⟩=false/\∃R',GS w0 (w'.setCell ⟨c.rb,1,none⟩ (.slice ua un uc)) c.rb c.tv e c.l s1 R'/\FP w2.drew (w'.setCell ⟨c.rb,1,none⟩ (.slice ua un uc)) c.rb R R')from by rw[show(a:Int)+1=((a+1:Nat):Int)by omega];exact hgr);have HQ:=eu (λW (h:∃e sv R,PG w0 W c e {p with s:=Ps.jo c.l s1 0 (Ps.lo c.l (a+1) b) (back c.l b (Ps.lo c.l (a+1) b)) 8,doc:=-1,st:=[]} sv R/\TF w W)=>show Q (.returned (.tuple #[])) W from aA.out W (by rw[<-hP];exact h));have aG:=hP2.below (fu _ w2).drew;have aV:=eu (av.trans (TF.below (fu _ w2).drew));have aW:=eu (hX2.keep (TF.below (fu _ w2).drew));have bL:w2.drew.cell? ⟨c.pb,0,none⟩=some (RG c.rb):=aG.cell 0 _ rfl;have e2':w2.drew.cell? ⟨c.pb,2,none⟩=some (.int .i64 p.doc):=aG.cell 2 _ rfl;have d2:w2.cell? ⟨c.pb,2,none⟩=some (.int .i64 p.doc):=hP2.cell 2 _ rfl;obtain⟨bM,aX,bN⟩:=gW hP2.apart aG hgrow;have gd:(0:Int)<=p.doc:=by omega
 have aH:(a:Int)+1<=100000:=by omega
 have gw:IntKind.i64.wrap ((a:Int)+1)=(a:Int)+1:=jC _ (by omega);clear aG hP2 hX2 av hgr hgrow bJ hz1 hy0 hP aQ aA hn hd g2 g3 g1 k2 hs1 hb hr
 go_enter func43,ntmps43
 go_upto_region 1 with fail
 rw[HW1.out];go_wp2_with fail
 refine az.out.mono ?_;rintro e1 v1 ⟨rfl,rfl⟩;go_upto_region 3 with fail
 rw[HW2.out];clear f4 k4 x1 x2;go_upto_region 10 with fail
 refine fB (λwx=>wx.cell? ⟨c.pb,0,none⟩=some (RG c.rb)/\wx.cell? ⟨c.rb,1,none⟩=some nv/\wx.cell? ⟨c.pb,2,none⟩=some (.int .i64 p.doc)) 20 (by kernel_rfl) ?_;have hH:(λwx:World=>wx.cell? ⟨c.pb,0,none⟩=some (RG c.rb)/\wx.cell? ⟨c.rb,1,none⟩=some nv/\wx.cell? ⟨c.pb,2,none⟩=some (.int .i64 p.doc)) w2.drew:=⟨bL,n1,e2'⟩
 refine fw 0 (RG c.pb) rfl (by kernel_rfl) rfl eY (λW hW=>by go_simp) hH ?_;refine fw 1 (.pointer (some ⟨c.pb,0,none⟩)) rfl (by kernel_rfl) rfl eY (λW hW=>by go_simp) hH ?_;refine fw 2 (.pointer (some ⟨c.pb,0,none⟩)) rfl (by kernel_rfl) rfl eY (λW hW=>by go_simp) hH ?_;refine fw 3 (RG c.rb) rfl (by kernel_rfl) rfl eY (λW hW=>?_) hH ?_
 ·obtain⟨z0,z1,z2⟩:=hW;go_simp
 refine fw 4 (RG c.pb) rfl (by kernel_rfl) rfl eY (λW hW=>by go_simp) hH ?_;refine fw 5 (.pointer (some ⟨c.pb,0,none⟩)) rfl (by kernel_rfl) rfl eY (λW hW=>by go_simp) hH ?_;refine fw 6 (.pointer (some ⟨c.pb,0,none⟩)) rfl (by kernel_rfl) rfl eY (λW hW=>by go_simp) hH ?_;refine fw 7 (RG c.rb) rfl (by kernel_rfl) rfl eY (λW hW=>?_) hH ?_
 ·obtain⟨z0,z1,z2⟩:=hW;go_simp
 refine fw 8 (.pointer (some ⟨c.rb,0,none⟩)) rfl (by kernel_rfl) rfl eY (λW hW=>by go_simp) hH ?_;refine fw 9 (.pointer (some ⟨c.rb,1,none⟩)) rfl (by kernel_rfl) rfl eY (λW hW=>by go_simp) hH ?_;refine fw 10 (.agg #[nv]) rfl (by kernel_rfl) rfl eY (λW hW=>?_) hH ?_
 ·obtain⟨z0,z1,z2⟩:=hW;go_simp
 refine fw 11 (RG c.pb) rfl (by kernel_rfl) rfl eY (λW hW=>by go_simp) hH ?_;refine fw 12 (.pointer (some ⟨c.pb,0,none⟩)) rfl (by kernel_rfl) rfl eY (λW hW=>by go_simp) hH ?_;refine fw 13 (.pointer (some ⟨c.pb,2,none⟩)) rfl (by kernel_rfl) rfl eY (λW hW=>by go_simp) hH ?_;refine fw 14 (.int .i64 p.doc) rfl (by kernel_rfl) rfl eY (λW hW=>?_) hH ?_
 ·obtain⟨z0,z1,z2⟩:=hW;go_simp
 refine fw 15 (.int .i64 (a:Int)) rfl (by kernel_rfl) rfl eY (λW hW=>by go_simp) hH ?_;refine fw 16 (.int .i64 ((a:Int)+1)) rfl (by kernel_rfl) rfl eY (λW hW=>by go_simp) hH ?_;refine iD 17 (by kernel_rfl) rfl λK hK=>?_
 go_simp;refine bK.out.mono ?_;rintro e3 w3 ⟨ua,un,uc,rfl,b1,f1,R3,aJ,aK⟩;obtain⟨hP3,aD⟩:=aX.out.step aJ aK;have bA:w3.heap[c.pb]?=_:=(uo _ _ _ _ bM.out).symm.trans hP3.box;have a0:w3.cell? ⟨c.pb,0,none⟩=some (RG c.rb):=(gQ bA 0).trans rfl;have a2:w3.cell? ⟨c.pb,2,none⟩=some (.int .i64 p.doc):=(gQ bA 2).trans rfl;obtain⟨wz,hwz⟩:=eX (w3.setCell ⟨c.rb,1,none⟩ (.slice ua un uc));rw[hwz]at hP3 aD;have d3:wz.cell? ⟨c.pb,2,none⟩=some (.int .i64 p.doc):=hP3.cell 2 _ rfl;have f3:=hP3.free 2;obtain⟨aa,ae⟩:=hP3.toCell (p':={p with s:=s1,doc:=-1,st:=[]}) (i:=2) (u:=.int .i64 (-1)) rfl rfl rfl;obtain⟨w4,hw4⟩:=eX (wz.setCell ⟨c.pb,2,none⟩ (.int .i64 (-1)));rw[hw4]at aa ae;have bO:=eu (aW.out.keep (aD.trans ae));have aC:=eu ((aV.out.trans aD).trans ae);obtain⟨aB,HW3,aL⟩:=gW aa hwz hw4;clear aJ aK hP3 aD bA hwz hw4 aa ae bK aX aV aW bM bL e2' n1 k0 t0 y0;refine hK.out _ _ (λ_=>⟨a0,b1,a2⟩) (λhH2=>?_);clear hK K;replace hH:=hH2 (by kernel_rfl);clear hH2;try simp only[Act.put,fF,fH,fG]
 refine fM 18 (.pointer (some ⟨c.rb,0,none⟩)) rfl (by kernel_rfl) rfl eY (λW=>by go_simp) (λ_=>hH) ?_;refine fw 19 (.pointer (some ⟨c.rb,1,none⟩)) rfl (by kernel_rfl) rfl eY (λW hW=>by go_simp) hH ?_;refine iD 20 (by kernel_rfl) rfl λK hK=>?_
 go_simp;refine hK.out _ _ (jg (by kernel_rfl)) (λ_=>?_);clear hK K;try simp only[Act.put,fF,fH,fG]
 rename_i bR;clear bR hH;refine fA (by kernel_rfl) ?_ _;go_upto_region 11 with fail
 rw[HW3.out];go_upto_region 12 with fail
 rw[aL.out];clear d2 d3 f3 gw aH b1 f1 a0 a2;have aa:=aB.out;have ae:=aC.out;have ay:=bO.out;have hgrow:=bN.out;have hb:True:=trivial;have hr:True:=trivial;have hs1:True:=trivial;have hI:True:=trivial;clear aB aC bO bN;have bn:=ay.c1;have bq:=ay.c2;have d0:w4.cell? ⟨c.pb,0,none⟩=some (RG c.rb):=aa.cell 0 _ rfl;have af:=kD w0 w4 c e _ _ _ (a+1) b aa (by omega) (by omega);have hx:=Ps.jJ c.l (a+1) b;have hy:=fQ c.l b (Ps.lo c.l (a+1) b);obtain⟨X,hX⟩:=eX (Ps.lo c.l (a+1) b);rw[hX]at af hx hy HQ;obtain⟨Y,hY⟩:=eX (back c.l b X);rw[hY]at af hy HQ;have aj:=eu (show Calls prog 45 #[RG c.pb,.int .i64 ((a:Int)+1),.int .i64 (b:Int)] w4 λen w'=>en=.returned (.tuple #[.int .i64 (X:Nat),.int .i64 (Y:Nat)])/\w4=w' from by rw[show(a:Int)+1=((a+1:Nat):Int)by omega];exact af);have gx:X<=200000:=by have h1:=iM (λj=>!cnt (raw c.l j)) (b-(a+1)) (a+1);have h2:X=jh (λj=>!cnt (raw c.l j)) (b-(a+1)) (a+1):=hX.symm;omega
 have aH:(a:Int)+1<=100000:=by omega
 by_cases hxy:X<Y
 ·have aF:(X:Int)<(Y:Int):=by omega
  obtain⟨-,m2⟩:=Fe.jL (code:=8) hgrow (f:=X) (t:=Y) (by omega) hxy (by omega) (by omega) (by omega) (by omega) (by omega);obtain⟨v,hev⟩:=vW w0 w4 c.rb c.tv e c.l s1 _ 0 X Y 8 aa.gs (jD.of hgrow.ck (by omega)) (lh m2) hxy (by omega) (by omega);have HE:=eu hev;have aN:=eu (λW (h:∃e sv R,PG w0 W c e {p with s:=Fl.err c.l s1 0 X Y 8,doc:=-1,st:=[]} sv R/\TF w W)=>show Q (.returned (.tuple #[])) W from HQ.out W (by rw[show Ps.jo c.l s1 0 X Y 8=Fl.err c.l s1 0 X Y 8 from eT hxy];exact h));obtain⟨aB,aC⟩:=fD aa ae;clear hev m2 aa ae af hX hY hx hy HQ hgrow ay hxy hroot hI hr hs1 ah ai;go_wp2_with fail
  refine aj.out.mono ?_;rintro e4 v4 ⟨rfl,rfl⟩;go_wp2_with fail
  refine HE.out.mono ?_;rintro e5 w5 ⟨rfl,R5,hS5,aO⟩;obtain⟨ag,ax⟩:=aB.out.step hS5 aO;have HD:=eu (aN.out _ ⟨_,_,_,ag,aC.out.trans ax⟩);clear hS5 aO ag ax aB aC HE aN aj;go_wp2_with fail
  go_end0
  exact HD.out
 have aF:¬(X:Int)<(Y:Int):=by omega
 have HD:=eu (HQ.out w4 ⟨_,_,_,by rw[show Ps.jo c.l s1 0 X Y 8=s1 from eQ hxy];exact aa,ae⟩);clear aa ae af hX hY hx hy HQ hgrow ay hxy hroot hI hr hs1 ah ai;clear hx0 hraw hK m2 g20 h20 hbl hge hB he m1 hle bC ga hN hls hlt hrs aI gd bn bq;try clear g1
 have bz:=eu (show¬X<Y by omega);go_wp2_with fail
 refine aj.out.mono ?_;rintro e4 v4 ⟨rfl,rfl⟩;clear aF gx aH hb;try clear ah ai
 go_wp2_with fail
 all_goals first
  |exact absurd (by assumption:X<Y) bz.out
  |(go_end0;exact HD.out)
end
section
open Go.RowKit
open Sq
open Ar
open Fl (Tk)
theorem PG.nth{w0 w:World}{c:Cx}{e:Nat}{p:Ps.PS}{sv:Value}{R:Nat->Prop}(h:PG w0 w c e p sv R){pre:List Ps.Op}{o:Ps.Op}{r:List Ps.Op}(hst:p.st=pre++o::r):
 ∃g cap,sv=.slice (some ⟨g,0,none⟩) p.st.length cap/\w0.heap.size<=g/\(∀j,w.frozen? ⟨g,j,none⟩=false)/\p.st.reverse[r.length]?=some o/\
  w.cell? ⟨g,r.length*5,none⟩=some (.int .i64 o.node)/\w.cell? ⟨g,r.length*5+1,none⟩=some (.int .i64 o.kind)/\w.cell? ⟨g,r.length*5+2,none⟩=some (.int .i64 o.fo)/\w.cell? ⟨g,r.length*5+3,none⟩=some (.int .i64 o.cur)/\w.cell? ⟨g,r.length*5+4,none⟩=some (.bool o.has):=by
 have hl:p.st.reverse.length=p.st.length:=iI;have hl2:0<p.st.length:=by rw[hst,ig,gy];omega
 obtain⟨g,cap,hv,hB,hfz,-,-⟩:=jG (E:=iA) h.mJ (by omega);have hx:p.st.reverse[r.length]?=some o:=by
  rw[hst,Qv,xY,lT,uU (by simp)];simp
 have hc:∀j u,j<5->(nD o)[j]?=some u->w.cell? ⟨g,r.length*5+j,none⟩=some u:=λj u hj hu=>by
  have:=h.mJ.cells (g:=g) (by rw[hv];rfl) _ _ ((ky iA p.st.reverse r.length o hx j hj).trans hu);rw[iy,j5]at this;exact this
 exact⟨g,cap,by rw[hv,hl],hB,hfz,hx,hc 0 _ (by decide) rfl,hc 1 _ (by decide) rfl,hc 2 _ (by decide) rfl,hc 3 _ (by decide) rfl,hc 4 _ (by decide) rfl⟩
theorem PG.pfxq{w0 w:World}{c:Cx}{e:Nat}{p:Ps.PS}{sv:Value}{R:Nat->Prop}(h:PG w0 w c e p sv R){pre U:List Ps.Op}(hst:p.st=pre++U):
 ∃a cap,sv=.slice a p.st.length cap/\p.st.length<=cap/\(a=none->p.st=[]/\cap=0)/\Reads iA w (.slice a U.length cap) U.reverse:=by
 have hr:=Reads.fJ (E:=iA) h.mJ;have hlen:p.st.length=pre.length+U.length:=by rw[hst,ig]
 rcases hr with⟨h1,h2⟩|⟨b,off,cap,h1,h2,h3,h4⟩
 ·have h2':p.st=[]:=by simpa using h2
  have hU:U=[]:=by
   rw[h2']at hst;have:=congrArg List.length hst;rw[ig]at this;exact Qp.1 (by simp at this;omega)
  subst hU;exact⟨none,0,by rw[h1,h2'];rfl,by rw[h2'];exact fC 0,λ_=>⟨h2',rfl⟩,.inl ⟨rfl,rfl⟩⟩
 rw[iI]at h1 h2;refine⟨some ⟨b,off,none⟩,cap,h1,h2,(λh=>by cases h),.inr ⟨b,off,cap,by rw[iI],by rw[iI];omega,h3,λj x hj i u hu=>h4 j x ?_ i u hu⟩⟩;rw[hst,Qv];exact(qx (fT.1 hj).1).trans hj
theorem GS.grown{w0 w w6:World}{rb:Nat}{tv v:Value}{e:Nat}{l:List Tk}{s:Fl.St}{R:Nat->Prop}{T sz n:Nat}{xs:List Value}(h:GS w0 w rb tv e l s R)(hv:w.ownsRow w0.heap.size T sz v n xs)(hg:w.grownBy w6 v.ownBlock)(h1:3≠T)(h2:47≠T)(h3:89≠T)(h4:62≠T):GS w0 w6 rb tv e l s R:=by
 obtain⟨nv,dv,L,hM,hL,hR⟩:=h;refine⟨nv,dv,L,hM.keep (hM.kE.grown hg hM.kE.size (λq hq=>(hv.lt q hq).1)) (λg hgg=>hg.block g (hM.rows hgg).2 (λe'=>?_)),hL,hR⟩;rcases hgg with rfl|hgg|hgg|⟨p,hp,hgg⟩
 ·exact fK hv hM.box h4.symm e'.symm
 ·exact gU hM.told hv h3 g hgg e'.symm
 ·exact gU hM.nodes.row hv h2 g hgg e'.symm
 obtain⟨i,hi⟩:=rT hp;exact gU (hM.nodes.kids i p hi) hv h1 g hgg e'.symm
theorem PG.push{w0 w w6:World}{c:Cx}{e:Nat}{p p':Ps.PS}{sv sv':Value}{R:Nat->Prop}(h:PG w0 w c e p sv R)(hg:w.grownBy w6 sv.ownBlock)(hO:w6.ownsRow w0.heap.size 114 5 sv' p'.st.reverse.length (iA.all p'.st.reverse))(hs:p'.s=p.s)(hd:p'.doc=p.doc)(hr:p'.root=p.root)(hre:p'.read=p.read):
 w6.heap[c.pb]?=some (.cells (mG c p sv) 65 (0,0))/\PG w0 (w6.setCell ⟨c.pb,4,none⟩ sv') c e p' sv' R/\TF w (w6.setCell ⟨c.pb,4,none⟩ sv'):=by
 have aa:w6.heap[c.pb]?=some (.cells (mG c p sv) 65 (0,0)):=(hg.block c.pb h.lt (λe'=>fK h.mJ h.box (by decide) e'.symm)).trans h.box;have hgs:GS w0 w6 c.rb c.tv e c.l p.s R:=h.gs.grown h.mJ hg (by decide) (by decide) (by decide) (by decide);have st:∀g,g≠c.pb->(w6.setCell ⟨c.pb,4,none⟩ sv').heap[g]?=w6.heap[g]?:=λg hg=>uo _ _ _ _ hg
 refine⟨aa,⟨by rw[hs];exact hgs.far h.low aa (by decide) (by decide) (by decide) (by decide),?_,h.low,h.rows,h.Og,il hO (λg hg=>st g (λe'=>fK hO aa (by decide) (e' ▸hg)))⟩,λk C T fr hk h1 h2 h3 h4=>?_⟩
 ·have e1:mG c p' sv'=(mG c p sv).setIfInBounds 4 sv':=by
   show#[_,_,_,_,_,_,_]=_;rw[hd,hr,hre];rfl
  rw[e1];exact mr aa sv'
 have hkp:k≠c.pb:=by
  rintro rfl;rw[h.box]at hk;injection hk with hk
  injection hk with _ hT
  exact h2 hT
 rw[st k hkp];exact hg.block k (kg hk) (λe'=>fK h.mJ hk h3 e'.symm)
theorem K3(l:List Tk)(s:Fl.St)(c:Int)(j q:Nat):(Fl.pair l s c j q).2=(Fl.add s c 6 j q).2:=by
 unfold Fl.pair;dsimp only;split<;>rfl
theorem yC{w0 w:World}{rb:Nat}{tv:Value}{e:Nat}{l:List Tk}{s s0:Fl.St}{R:Nat->Prop}{nd p0:Nat}{b:Int}{x:Rw.E}(hS:GS w0 w rb tv e l s R)(h:Fe.Ok l p0 l.length nd s0 x.from' b s)(hlt:x.from'<x.au)(hle:x.au<=l.length)(hn:s.t.length<=700000000000)(hd:x.dash=true):
 Calls prog 68 #[RG rb,.int .i64 nd,.int .i64 4,.int .i64 x.from',.int .i64 x.au] w (fU w0 w rb tv e l R (.int .i64 (Ps.cur l s nd x).2) (Ps.cur l s nd x).1):=by
 rw[show Ps.cur l s nd x=Fl.add s nd 4 x.from' x.au from eT hd];exact AA w0 w rb tv e l s R nd x.from' 4 x.from' x.au b hS h.ck h.fits h.lf h.no hn (fC _) (by omega) hle (by omega) (by omega)
theorem yD{w0 w:World}{rb:Nat}{tv:Value}{e:Nat}{l:List Tk}{s s0:Fl.St}{R:Nat->Prop}{nd p0:Nat}{b:Int}{x:Rw.E}(hS:GS w0 w rb tv e l s R)(h:Fe.Ok l p0 l.length nd s0 x.from' b s)(hlt:x.from'<x.au)(hle:x.au<=l.length)(hn:s.t.length<=700000000000)(hd:x.dash=false):
 Calls prog 87 #[RG rb,.int .i64 nd,.int .i64 x.from',.int .i64 x.au] w (fU w0 w rb tv e l R (.int .i64 (Ps.cur l s nd x).2) (Ps.cur l s nd x).1):=by
 rw[show Ps.cur l s nd x=Fl.pair l s nd x.from' x.au from eQ (by rw[hd];decide)];obtain⟨s',a1,-⟩:=Fe.iW (kind:=6) h (f:=x.from') (t:=x.au) (ji _) (by omega) (by omega) (by omega) (by omega);rw[K3,a1];exact N5 w0 w rb tv e l s R nd x.from' x.au b hS h.ck h.fits h.lf h.no hlt hle hn
theorem PG.je{w0 w:World}{c:Cx}{e g n cap:Nat}{p p':Ps.PS}{R:Nat->Prop}{T T':Ps.Op}{SS:List Ps.Op}(h:PG w0 w c e p (.slice (some ⟨g,0,none⟩) n cap) R)(j:Nat)(u:Value)(h1:p.st=T::SS)(h2:p'.st=T'::SS)(hc:nD T'=(nD T).set j u)(hj:j<5)(hs:p'.s=p.s)(hd:p'.doc=p.doc)(hr:p'.root=p.root)(hre:p'.read=p.read):
 PG w0 (w.setCell ⟨g,SS.length*5+j,none⟩ u) c e p' (.slice (some ⟨g,0,none⟩) n cap) R/\TF w (w.setCell ⟨g,SS.length*5+j,none⟩ u):=by
 refine h.Np SS.length j T T' u ?_ hc hj ?_ hs hd hr hre
 ·rw[h1,xY,uU (by simp)];simp
 rw[h1,h2,xY,xY,OE _ _ (by simp)];simp
def EB(w:World)(b:Nat)(x:Rw.E):Prop:=w.heap[b]?=some (.cells #[.bool x.dash,.int .i64 x.fo,.int .i64 x.from',.int .i64 x.au] 112 (0,0))
theorem EB.new(w:World)(x:Rw.E):EB (w.alloc (.cells #[.bool x.dash,.int .i64 x.fo,.int .i64 x.from',.int .i64 x.au] 112)) w.heap.size x:=qj w _
theorem EB.keep{w w':World}{b:Nat}{x:Rw.E}(h:EB w b x)(hT:TF w w'):EB w' b x:=(hT b _ _ _ h (by decide) (by decide) (by decide) (by decide)).trans h
theorem EB.c0{w:World}{b:Nat}{x:Rw.E}(h:EB w b x):w.cell? ⟨b,0,none⟩=some (.bool x.dash):=gQ h 0
theorem EB.c1{w:World}{b:Nat}{x:Rw.E}(h:EB w b x):w.cell? ⟨b,1,none⟩=some (.int .i64 x.fo):=gQ h 1
theorem EB.c2{w:World}{b:Nat}{x:Rw.E}(h:EB w b x):w.cell? ⟨b,2,none⟩=some (.int .i64 x.from'):=gQ h 2
theorem EB.c3{w:World}{b:Nat}{x:Rw.E}(h:EB w b x):w.cell? ⟨b,3,none⟩=some (.int .i64 x.au):=gQ h 3
end
end Go.Proofs.YtfbiffdmhcjhbaaGreat

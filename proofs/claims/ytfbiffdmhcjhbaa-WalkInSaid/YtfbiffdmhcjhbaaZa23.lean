import Derived.Test.YtfbiffdmhcjhbaaZa19
import Derived.Test.YtfbiffdmhcjhbaaZa21
import Derived.Deep.Cut
set_option linter.all false
set_option maxHeartbeats 16000000
set_option maxRecDepth 100000
namespace Go.Proofs.Ytfbiffdmhcjhbaa
open Go.RowKit Try
section
open Go.RowKit
open Sq
open Ar
open Fl (Tk raw p9 oW cnt back nD nM)
theorem RB.keep{w w':World}{b:Nat}{k f t c:Int}(h:RB w b k f t c)(hT:TF w w'):RB w' b k f t c:=(hT b _ _ _ h (by decide) (by decide) (by decide) (by decide)).trans h
theorem RB.c0{w:World}{b:Nat}{k f t c:Int}(h:RB w b k f t c):w.cell? ⟨b,0,none⟩=some (.int .i64 k):=nz h 0
theorem RB.c1{w:World}{b:Nat}{k f t c:Int}(h:RB w b k f t c):w.cell? ⟨b,1,none⟩=some (.int .i64 f):=nz h 1
theorem RB.c2{w:World}{b:Nat}{k f t c:Int}(h:RB w b k f t c):w.cell? ⟨b,2,none⟩=some (.int .i64 t):=nz h 2
theorem RB.c3{w:World}{b:Nat}{k f t c:Int}(h:RB w b k f t c):w.cell? ⟨b,3,none⟩=some (.int .i64 c):=nz h 3
theorem PG.apart{w0 w:World}{c:Cx}{e:Nat}{p:Ps.PS}{sv:Value}{R:Nat->Prop}(h:PG w0 w c e p sv R):c.pb≠c.rb:=(h.gs.off h.box (by decide) (by decide)).2
theorem WW(w0 w:World)(c:Cx)(e:Nat)(p:Ps.PS)(sv:Value)(R:Nat->Prop)(r:Rw.R)(e0:Nat)(B:Ps.Bs)(h:PG w0 w c e p sv R)(hrs:c.rs=Rw.mQ c.l)(hI:Ps.Inv c.l B e0 p)(hr:Ps.tH c.l r)(h4:r.kind=4)(hB:B.1<=r.from')(he:e0<=r.from')(aI:c.depth<=50)
 (hn:p.s.t.length<=400000000000) (hd:p.s.d.length<=400000000000):
 Calls prog 39 #[RG c.pb,.agg #[.int .i64 r.kind,.int .i64 r.from',.int .i64 r.au,.int .i64 r.mE]] w (oQ w0 w c (.tuple #[]) (Ps.mark c.l c.rs c.depth p r)):=by
 have hls:=h.toks.2.2.2;have hlt:=hr.lt;have hle:=hr.le;obtain⟨m1,m2⟩:=hr.mark h4;have hge:=Ps.qD c.l r.from' r.au;have hbl:=nD c.l r.au (Ps.lo c.l r.from' r.au);obtain⟨w1,hw1⟩:=my (w.alloc (.cells #[.int .i64 r.kind,.int .i64 r.from',.int .i64 r.au,.int .i64 r.mE] 63));have hb1:Below w.heap.size w w1:=hw1▸(mF _ w).alloc (mJ _) _;have hX1:RB w1 w.heap.size r.kind r.from' r.au r.mE:=hw1▸RB.new w _ _ _ _;have hP1:=h.below hb1;have hT1:=TF.below hb1;have ak:=ry w0 w1 c e p sv R r.from' r.au hP1 (by omega) hle;obtain⟨bx,hbx⟩:=my (w.heap.size);rw[hbx]at hX1;have x1:=hX1.c1;have x2:=hX1.c2;have f4:=hP1.free 4;have k4:w1.cell? ⟨c.pb,4,none⟩=some sv:=hP1.cell 4 _ rfl;obtain⟨hP2,aP⟩:=hP1.tC (p':={p with st:=[]}) (sv':=.slice none 0 0) rfl rfl rfl rfl (qG oJ _ _);obtain⟨w2,hw2⟩:=my (w1.setCell ⟨c.pb,4,none⟩ (.slice none 0 0));rw[hw2]at hP2 aP;have hX2:=hX1.keep aP;have av:=hT1.trans aP;obtain⟨P,hP⟩:=my (Ps.mark c.l c.rs c.depth p r);have aQ:=eu hP;rw[hP];unfold Ps.mark at hP;dsimp only at hP;obtain⟨a,ha⟩:=my (Ps.lo c.l r.from' r.au);rw[ha]at m1 m2 hge hbl hP ak;obtain⟨b,hb⟩:=my (back c.l r.au a);rw[hb]at hbl ak;obtain⟨x,hx0⟩:=pG c.l a (by omega);have hraw:=Fl.rP hx0;rw[hraw]at m2 hP;have k0:w2.cell? ⟨c.pb,0,none⟩=some (RG c.rb):=hP2.cell 0 _ rfl;have t0:w2.cell? ⟨c.rb,0,none⟩=some c.tv:=hP2.gs.toks.1;have htk:=hP2.gs.toks.2.2.1;obtain⟨ta,tc,bB⟩:=htk.shape;rw[bB]at htk t0;obtain⟨tb,off,bP,y0,-,-⟩:=o8 htk a x hx0;subst bP;have ga:a<c.l.length:=by omega
 obtain⟨N,hN⟩:=my (c.l.length);obtain⟨K,hK⟩:=my (x.1);rw[hK]at m2 y0 hP;have bC:(a:Int)<(N:Int):=by omega
 rw[hN]at t0;obtain⟨az,HW1,HW2⟩:=nY ak hw1 hw2;have hroot:=hI.root;obtain⟨Q,hQ⟩:=my (oQ w0 w c (.tuple #[]) P);have aA:=eu (λW (h:∃e sv R,PG w0 W c e P sv R/\TF w W)=>show Q (.returned (.tuple #[])) W from by rw[<-hQ];exact⟨rfl,h⟩);rw[hQ];obtain⟨F,hF⟩:=my (r.from');obtain⟨T,hT⟩:=my (r.au);rw[hF]at hge ak az x1 he hB;rw[hT]at m1 hbl ak az x2 hle hP hb;have HT:=eu hT;clear ak hQ hw1 hw2 hX1 hP1 hT1 aP hb1 ha bB htk h h4 hF hT;by_cases h20:K=20
 ·rw[gu h20]at hP;have g20:((K:Int)==20)=true:=by simp;omega
  have hA:=Gb w0 w2 c.rb c.tv e c.l p.s R 0 e0 2 a (a+1) e0 hP2.gs hroot.ck hroot.fits hroot.lf hroot.no (by omega) (by omega) (by omega) (by omega) (by omega) (by omega);obtain⟨s',a1,_,a3,_,_⟩:=Fe.pQ (kind:=2) (f:=a) (t:=a+1) hroot (by omega) (by omega) (by omega) (by omega) (by omega);have hz:=Fe.pM p.s ((0:Nat):Int) 2 a (a+1);have a1':Fl.add p.s 0 2 a (a+1)=(s',(p.s.t.length:Int)):=a1;rw[a1]at hA hz;rw[a1']at hP;dsimp only at hA hP hz;obtain⟨hz1,hz2⟩:=hz;have a3':Ps.OK c.l B p.s.t.length (a+1) s':=a3.le (by omega) (by omega);have HA:=eu (show Calls prog 65 #[RG c.rb,.int .i64 0,.int .i64 2,.int .i64 a,.int .i64 ((a:Int)+1)] w2 (nE w0 w2 c.rb c.tv e c.l R (.int .i64 (p.s.t.length:Nat)) s')from by rw[show(a:Int)+1=((a+1:Nat):Int)by omega];exact hA);obtain⟨TL,hTL⟩:=my (p.s.t.length);rw[hTL]at HA hP a3' hz1 hn;have hb:=nD c.l T (Ps.lo c.l (a+1) T);have aY:=Ps.qD c.l (a+1) T;obtain⟨X,hX⟩:=my (Ps.lo c.l (a+1) T);rw[hX]at hb aY hP;obtain⟨Y,hY⟩:=my (back c.l T X);rw[hY]at hb hP
  have bD:=eu (λW e' p' sv' R' (hW:PG w0 W c e' p' sv' R')=>show Calls prog 41 #[RG c.pb,.int .i64 ((a:Int)+1),.int .i64 (T:Int)] W λen w'=>en=.returned (.tuple #[.int .i64 (X:Nat),.int .i64 (Y:Nat)])/\W=w' from by
   have h1:=ry w0 W c e' p' sv' R' (a+1) T hW (by omega) (by omega);rw[hX,hY]at h1
   rw[show(a:Int)+1=((a+1:Nat):Int)by omega];exact h1)
  obtain⟨bE,aU,bF⟩:=nY hP2 av hX2;have gx:X<=200000:=by have h1:=oW (λj=>!cnt (raw c.l j)) (T-(a+1)) (a+1);have h2:X=p9 (λj=>!cnt (raw c.l j)) (T-(a+1)) (a+1):=hX.symm;omega
  have aH:(a:Int)+1<=100000:=by omega
  have bS:TL<=400000000000:=hn;have hpre:∀W e' sv' R',PG w0 W c e' {p with s:=s',doc:=(TL:Int),root:=false,st:=[]} sv' R'->X<Y->Calls prog 66 #[RG c.pb,.int .i64 TL,.int .i64 X] W (oQ w0 W c (.bool (Ps.value c.l c.rs c.depth {p with s:=s',doc:=(TL:Int),root:=false,st:=[]} TL X).2) (Ps.value c.l c.rs c.depth {p with s:=s',doc:=(TL:Int),root:=false,st:=[]} TL X).1):=λW e' sv' R' hW hxy=>
   Vq w0 W c e' _ sv' R' TL X (a+1) B hW hrs a3' aY (by omega) (by omega) (nO _) aI (by show s'.t.length<=_;omega) (by show s'.d.length<=_;rw[hz2];omega)
  have HV:=eu hpre;clear hpre hA a1 a1' a3 a3' hz1 hz2 hb aY hX hY hroot hI hr hP2 av hX2 hTL hn hd hrs
  go_enter func39,ntmps39
  go_upto_region 1 with fail
  rw[HW1.out];go_wp2_with fail
  refine az.out.mono ?_;rintro e1 v1 ⟨rfl,rfl⟩;go_upto_region 3 with fail
  rw[HW2.out];clear f4 k4 x1 x2;go_wp2_with fail
  refine HA.out.mono ?_;rintro e2 w3 ⟨rfl,R3,aJ,aK⟩;obtain⟨hP3,aD⟩:=bE.out.step aJ aK;have d2:w3.cell? ⟨c.pb,2,none⟩=some (.int .i64 p.doc):=hP3.cell 2 _ rfl;have f2:=hP3.free 2;obtain⟨aa,ae⟩:=hP3.toCell (p':={p with s:=s',doc:=(TL:Int),st:=[]}) (i:=2) (u:=.int .i64 (TL:Int)) rfl rfl rfl;obtain⟨w4,hw4⟩:=my (w3.setCell ⟨c.pb,2,none⟩ (.int .i64 (TL:Int)));rw[hw4]at aa ae;have d3:w4.cell? ⟨c.pb,3,none⟩=some (.bool p.root):=aa.cell 3 _ rfl;have f3:=aa.free 3;obtain⟨ag,ax⟩:=aa.toCell (p':={p with s:=s',doc:=(TL:Int),root:=false,st:=[]}) (i:=3) (u:=.bool false) rfl rfl rfl;obtain⟨w5,aZ⟩:=my (w4.setCell ⟨c.pb,3,none⟩ (.bool false));rw[aZ]at ag ax;obtain⟨aL,bQ⟩:=mR hw4 aZ;have aM:=(aD.trans ae).trans ax;have b5:=bF.out.keep aM;have bT:w5.cell? ⟨bx,2,none⟩=some (.int .i64 (T:Int)):=HT.out▸b5.c2;obtain⟨aR,aS⟩:=mR ag (aU.out.trans aM);have bf:=eu (bD.out w5 _ _ _ _ ag);have s2:w5.cell? ⟨c.pb,2,none⟩=some (.int .i64 (TL:Int)):=ag.cell 2 _ rfl;clear aJ aK hP3 aD aa ae ag ax hw4 aZ aM b5 bE aU bF bD HA;go_upto_region 5 with fail
  rw[aL.out];go_upto_region 6 with fail
  rw[bQ.out];clear d2 f2 d3 f3 k0 t0 y0;by_cases hxy:X<Y
  ·rw[gu hxy]at hP;have aF:(X:Int)<(Y:Int):=by omega
   have HV5:=eu (HV.out w5 _ _ _ aR.out hxy);obtain⟨V,hV⟩:=my (Ps.value c.l c.rs c.depth {p with s:=s',doc:=(TL:Int),root:=false,st:=[]} TL X);rw[hV]at HV5 hP;have bG:=eu hP;clear hP hV HV aR aQ;go_wp2_with (first|(with_reducible refine bf.out.mono ?_;rintro e4 v4 ⟨rfl,rfl⟩)|fail)
   refine HV5.out.mono ?_;rintro e6 w6 ⟨rfl,e7,bU,R6,aT,bH⟩;have d3:=aT.cell 3 _ rfl;have f3:=aT.free 3;obtain⟨bg,bI⟩:=aT.toCell (p':={V.1 with root:=V.2}) (i:=3) (u:=.bool V.2) rfl rfl rfl;rw[bG.out]at bg;have HD:=eu (aA.out _ ⟨_,_,_,bg,(aS.out.trans bH).trans bI⟩);clear aT bH bg bI HV5 bf aA bG aS;go_wp2_with fail
   go_end0
   exact HD.out
  rw[fu hxy]at hP;have aF:¬(X:Int)<(Y:Int):=by omega
  have HD:=eu (aA.out w5 ⟨_,_,_,by rw[<-hP];exact aR.out,aS.out⟩);clear hP HV aR aQ aA aS;go_wp2_with (first|(with_reducible refine bf.out.mono ?_;rintro e4 v4 ⟨rfl,rfl⟩)|fail)
  go_end0
  exact HD.out
 rw[fu h20]at hP;have g20:((K:Int)==20)=false:=by simp;omega
 rw[hb]at hP;rcases hI with⟨g1,g2,g3⟩|⟨d,g1,g2,g3⟩
 ·rw[fu (by omega)]at hP;obtain⟨s1,hs1⟩:=my (p.s);have hgrow:Ps.OK c.l B 0 (a+1) p.s:=g3.le (by omega) (by omega);have gd:¬(0:Int)<=p.doc:=by omega
  have HQ:=eu (λW (h:∃e sv R,PG w0 W c e {p with s:=Ps.qf c.l p.s 0 (Ps.lo c.l (a+1) b) (back c.l b (Ps.lo c.l (a+1) b)) 8,doc:=-1,st:=[]} sv R/\TF w W)=>show Q (.returned (.tuple #[])) W from aA.out W (by rw[<-hP];exact h));have d2:w2.cell? ⟨c.pb,2,none⟩=some (.int .i64 p.doc):=hP2.cell 2 _ rfl;have f2:=hP2.free 2;obtain⟨aa,ae⟩:=hP2.toCell (p':={p with doc:=-1,st:=[]}) (i:=2) (u:=.int .i64 (-1)) rfl rfl rfl;obtain⟨w4,hw4⟩:=my (w2.setCell ⟨c.pb,2,none⟩ (.int .i64 (-1)));rw[hw4]at aa ae;have ay:=hX2.keep ae;have ae:=av.trans ae;have aL:=eu hw4;have ah:s1.t.length<=400000000000:=by rw[<-hs1];exact hn
  have ai:s1.d.length<=400000000000:=by rw[<-hs1];exact hd
  change PG w0 w4 c e {s:=p.s,doc:=-1,root:=p.root,st:=[],read:=p.read} (.slice none 0 0) R at aa
  rw[hs1]at aa HQ hgrow;clear hw4 av hX2 hP2 hP aQ aA hn hd g2 g3
  go_enter func39,ntmps39
  go_upto_region 1 with fail
  rw[HW1.out];go_wp2_with fail
  refine az.out.mono ?_;rintro e1 v1 ⟨rfl,rfl⟩;go_upto_region 3 with fail
  rw[HW2.out];clear f4 k4 x1 x2;go_upto_region 12 with fail
  rw[aL.out];clear d2 f2 k0 t0 y0;have hI:True:=trivial;have bn:=ay.c1;have bq:=ay.c2;have d0:w4.cell? ⟨c.pb,0,none⟩=some (RG c.rb):=aa.cell 0 _ rfl;have af:=ry w0 w4 c e _ _ _ (a+1) b aa (by omega) (by omega);have hx:=Ps.qD c.l (a+1) b;have hy:=nD c.l b (Ps.lo c.l (a+1) b);obtain⟨X,hX⟩:=my (Ps.lo c.l (a+1) b);rw[hX]at af hx hy HQ;obtain⟨Y,hY⟩:=my (back c.l b X);rw[hY]at af hy HQ;have aj:=eu (show Calls prog 41 #[RG c.pb,.int .i64 ((a:Int)+1),.int .i64 (b:Int)] w4 λen w'=>en=.returned (.tuple #[.int .i64 (X:Nat),.int .i64 (Y:Nat)])/\w4=w' from by rw[show(a:Int)+1=((a+1:Nat):Int)by omega];exact af);have gx:X<=200000:=by have h1:=oW (λj=>!cnt (raw c.l j)) (b-(a+1)) (a+1);have h2:X=p9 (λj=>!cnt (raw c.l j)) (b-(a+1)) (a+1):=hX.symm;omega
  have aH:(a:Int)+1<=100000:=by omega
  by_cases hxy:X<Y
  ·have aF:(X:Int)<(Y:Int):=by omega
   obtain⟨-,m2⟩:=Fe.qF (code:=8) hgrow (f:=X) (t:=Y) (by omega) hxy (by omega) (by omega) (by omega) (by omega) (by omega);obtain⟨v,hev⟩:=BR w0 w4 c.rb c.tv e c.l s1 _ 0 X Y 8 aa.gs (qp.of hgrow.ck (by omega)) (rY m2) hxy (by omega) (by omega);have HE:=eu hev;have aN:=eu (λW (h:∃e sv R,PG w0 W c e {p with s:=Fl.err c.l s1 0 X Y 8,doc:=-1,st:=[]} sv R/\TF w W)=>show Q (.returned (.tuple #[])) W from HQ.out W (by rw[show Ps.qf c.l s1 0 X Y 8=Fl.err c.l s1 0 X Y 8 from gu hxy];exact h));obtain⟨aB,aC⟩:=mR aa ae;clear hev m2 aa ae af hX hY hx hy HQ hgrow ay hxy hroot hI hr hs1 ah ai;go_wp2_with fail
   refine aj.out.mono ?_;rintro e4 v4 ⟨rfl,rfl⟩;go_wp2_with fail
   refine HE.out.mono ?_;rintro e5 w5 ⟨rfl,R5,hS5,aO⟩;obtain⟨ag,ax⟩:=aB.out.step hS5 aO;have HD:=eu (aN.out _ ⟨_,_,_,ag,aC.out.trans ax⟩);clear hS5 aO ag ax aB aC HE aN aj;go_wp2_with fail
   go_end0
   exact HD.out
  have aF:¬(X:Int)<(Y:Int):=by omega
  have HD:=eu (HQ.out w4 ⟨_,_,_,by rw[show Ps.qf c.l s1 0 X Y 8=s1 from fu hxy];exact aa,ae⟩);clear aa ae af hX hY hx hy HQ hgrow ay hxy hroot hI hr hs1 ah ai;clear hx0 hraw hK m2 g20 h20 hbl hge hB he m1 hle bC ga hN hls hlt hrs aI gd bn bq;try clear g1
  have bz:=eu (show¬X<Y by omega);go_wp2_with fail
  refine aj.out.mono ?_;rintro e4 v4 ⟨rfl,rfl⟩;clear aF gx aH hb;try clear ah ai
  go_wp2_with fail
  all_goals first
   |exact absurd (by assumption:X<Y) bz.out
   |(go_end0;exact HD.out)
 rw[gu (by omega)]at hP;obtain⟨k1,k2⟩:=Ps.qN.all g2 g3;have hgrow:Ps.OK c.l B 0 (a+1) ⟨nN p.s.t p.doc ((a+1:Nat):Int),p.s.d⟩:=by
  rw[g1];have k3:=Fe.u6 (t:=a+1) k2 (by omega) (by omega) (by omega);have k4:=(Fe.u6 (t:=a+1) (Fe.Ok.start (l:=c.l) (p0:=B.1) k2.ck k2.fits k2.lf k2.no) (by omega) (by omega) (by omega)).keep;exact Ps.F9 k3 (k1.keep k4)
 have hz1:=Fe.vQ p.s.t p.doc ((a+1:Nat):Int);obtain⟨-,y,hy0,-⟩:=k1;have bJ:rq p.s.t p.doc ((a+1:Nat):Int)=true:=by rw[g1];exact GD hroot.ck (nC.1 hy0).1 (by omega)
 obtain⟨nv,n1,hgr⟩:=(hP2.below (mF _ w2).drew).gs.grow p.doc ((a+1:Nat):Int) (qp.of hroot.ck (by show p.s.t.length<=_;omega)) bJ;obtain⟨s1,hs1⟩:∃s1:Fl.St,(⟨nN p.s.t p.doc ((a+1:Nat):Int),p.s.d⟩:Fl.St)=s1:=⟨_,rfl⟩
 have ah:s1.t.length<=400000000000:=by rw[<-hs1];show(nN _ _ _).length<=_;rw[hz1];exact hn
 have ai:s1.d.length<=400000000000:=by rw[<-hs1];exact hd
 rw[hs1]at hgrow hgr hP;have bK:=eu (show Calls prog 67 #[.agg #[nv],.int .i64 p.doc,.int .i64 ((a:Int)+1)] w2.drew (λen w'=>∃ua un uc,en=.returned (.agg #[.slice ua un uc])/\w'.cell? ⟨c.rb,1,none⟩=some nv/\w'.frozen? ⟨c.rb,1,none⟩=false/\∃R',GS w0 (w'.setCell ⟨c.rb,1,none⟩ (.slice ua un uc)) c.rb c.tv e c.l s1 R'/\FP w2.drew (w'.setCell ⟨c.rb,1,none⟩ (.slice ua un uc)) c.rb R R')from by rw[show(a:Int)+1=((a+1:Nat):Int)by omega];exact hgr);have HQ:=eu (λW (h:∃e sv R,PG w0 W c e {p with s:=Ps.qf c.l s1 0 (Ps.lo c.l (a+1) b) (back c.l b (Ps.lo c.l (a+1) b)) 8,doc:=-1,st:=[]} sv R/\TF w W)=>show Q (.returned (.tuple #[])) W from aA.out W (by rw[<-hP];exact h));have aG:=hP2.below (mF _ w2).drew;have aV:=eu (av.trans (TF.below (mF _ w2).drew));have aW:=eu (hX2.keep (TF.below (mF _ w2).drew));have bL:w2.drew.cell? ⟨c.pb,0,none⟩=some (RG c.rb):=aG.cell 0 _ rfl;have e2':w2.drew.cell? ⟨c.pb,2,none⟩=some (.int .i64 p.doc):=aG.cell 2 _ rfl;have d2:w2.cell? ⟨c.pb,2,none⟩=some (.int .i64 p.doc):=hP2.cell 2 _ rfl;obtain⟨bM,aX,bN⟩:=nY hP2.apart aG hgrow;have gd:(0:Int)<=p.doc:=by omega
 have aH:(a:Int)+1<=100000:=by omega
 have gw:IntKind.i64.wrap ((a:Int)+1)=(a:Int)+1:=qA _ (by omega);clear aG hP2 hX2 av hgr hgrow bJ hz1 hy0 hP aQ aA hn hd g2 g3 g1 k2 hs1 hb hr
 go_enter func39,ntmps39
 go_upto_region 1 with fail
 rw[HW1.out];go_wp2_with fail
 refine az.out.mono ?_;rintro e1 v1 ⟨rfl,rfl⟩;go_upto_region 3 with fail
 rw[HW2.out];clear f4 k4 x1 x2;go_upto_region 10 with fail
 refine mK (λwx=>wx.cell? ⟨c.pb,0,none⟩=some (RG c.rb)/\wx.cell? ⟨c.rb,1,none⟩=some nv/\wx.cell? ⟨c.pb,2,none⟩=some (.int .i64 p.doc)) 20 (by kernel_rfl) ?_;have hH:(λwx:World=>wx.cell? ⟨c.pb,0,none⟩=some (RG c.rb)/\wx.cell? ⟨c.rb,1,none⟩=some nv/\wx.cell? ⟨c.pb,2,none⟩=some (.int .i64 p.doc)) w2.drew:=⟨bL,n1,e2'⟩
 refine mI 0 (RG c.pb) rfl (by kernel_rfl) rfl mD (λW hW=>by go_simp) hH ?_;refine mI 1 (.pointer (some ⟨c.pb,0,none⟩)) rfl (by kernel_rfl) rfl mD (λW hW=>by go_simp) hH ?_;refine mI 2 (.pointer (some ⟨c.pb,0,none⟩)) rfl (by kernel_rfl) rfl mD (λW hW=>by go_simp) hH ?_;refine mI 3 (RG c.rb) rfl (by kernel_rfl) rfl mD (λW hW=>?_) hH ?_
 ·obtain⟨z0,z1,z2⟩:=hW;go_simp
 refine mI 4 (RG c.pb) rfl (by kernel_rfl) rfl mD (λW hW=>by go_simp) hH ?_;refine mI 5 (.pointer (some ⟨c.pb,0,none⟩)) rfl (by kernel_rfl) rfl mD (λW hW=>by go_simp) hH ?_;refine mI 6 (.pointer (some ⟨c.pb,0,none⟩)) rfl (by kernel_rfl) rfl mD (λW hW=>by go_simp) hH ?_;refine mI 7 (RG c.rb) rfl (by kernel_rfl) rfl mD (λW hW=>?_) hH ?_
 ·obtain⟨z0,z1,z2⟩:=hW;go_simp
 refine mI 8 (.pointer (some ⟨c.rb,0,none⟩)) rfl (by kernel_rfl) rfl mD (λW hW=>by go_simp) hH ?_;refine mI 9 (.pointer (some ⟨c.rb,1,none⟩)) rfl (by kernel_rfl) rfl mD (λW hW=>by go_simp) hH ?_;refine mI 10 (.agg #[nv]) rfl (by kernel_rfl) rfl mD (λW hW=>?_) hH ?_
 ·obtain⟨z0,z1,z2⟩:=hW;go_simp
 refine mI 11 (RG c.pb) rfl (by kernel_rfl) rfl mD (λW hW=>by go_simp) hH ?_;refine mI 12 (.pointer (some ⟨c.pb,0,none⟩)) rfl (by kernel_rfl) rfl mD (λW hW=>by go_simp) hH ?_;refine mI 13 (.pointer (some ⟨c.pb,2,none⟩)) rfl (by kernel_rfl) rfl mD (λW hW=>by go_simp) hH ?_;refine mI 14 (.int .i64 p.doc) rfl (by kernel_rfl) rfl mD (λW hW=>?_) hH ?_
 ·obtain⟨z0,z1,z2⟩:=hW;go_simp
 refine mI 15 (.int .i64 (a:Int)) rfl (by kernel_rfl) rfl mD (λW hW=>by go_simp) hH ?_;refine mI 16 (.int .i64 ((a:Int)+1)) rfl (by kernel_rfl) rfl mD (λW hW=>by go_simp) hH ?_;refine oD 17 (by kernel_rfl) rfl λK hK=>?_
 go_simp;refine bK.out.mono ?_;rintro e3 w3 ⟨ua,un,uc,rfl,b1,f1,R3,aJ,aK⟩;obtain⟨hP3,aD⟩:=aX.out.step aJ aK;have bA:w3.heap[c.pb]?=_:=(yK _ _ _ _ bM.out).symm.trans hP3.box;have a0:w3.cell? ⟨c.pb,0,none⟩=some (RG c.rb):=(nz bA 0).trans rfl;have a2:w3.cell? ⟨c.pb,2,none⟩=some (.int .i64 p.doc):=(nz bA 2).trans rfl;obtain⟨wz,hwz⟩:=my (w3.setCell ⟨c.rb,1,none⟩ (.slice ua un uc));rw[hwz]at hP3 aD;have d3:wz.cell? ⟨c.pb,2,none⟩=some (.int .i64 p.doc):=hP3.cell 2 _ rfl;have f3:=hP3.free 2;obtain⟨aa,ae⟩:=hP3.toCell (p':={p with s:=s1,doc:=-1,st:=[]}) (i:=2) (u:=.int .i64 (-1)) rfl rfl rfl;obtain⟨w4,hw4⟩:=my (wz.setCell ⟨c.pb,2,none⟩ (.int .i64 (-1)));rw[hw4]at aa ae;have bO:=eu (aW.out.keep (aD.trans ae));have aC:=eu ((aV.out.trans aD).trans ae);obtain⟨aB,HW3,aL⟩:=nY aa hwz hw4;clear aJ aK hP3 aD bA hwz hw4 aa ae bK aX aV aW bM bL e2' n1 k0 t0 y0;refine hK.out _ _ (λ_=>⟨a0,b1,a2⟩) (λhH2=>?_);clear hK K;replace hH:=hH2 (by kernel_rfl);clear hH2;try simp only[Act.put,mM,mP,mO]
 refine nA 18 (.pointer (some ⟨c.rb,0,none⟩)) rfl (by kernel_rfl) rfl mD (λW=>by go_simp) (λ_=>hH) ?_;refine mI 19 (.pointer (some ⟨c.rb,1,none⟩)) rfl (by kernel_rfl) rfl mD (λW hW=>by go_simp) hH ?_;refine oD 20 (by kernel_rfl) rfl λK hK=>?_
 go_simp;refine hK.out _ _ (pV (by kernel_rfl)) (λ_=>?_);clear hK K;try simp only[Act.put,mM,mP,mO]
 rename_i bR;clear bR hH;refine mH (by kernel_rfl) ?_ _;go_upto_region 11 with fail
 rw[HW3.out];go_upto_region 12 with fail
 rw[aL.out];clear d2 d3 f3 gw aH b1 f1 a0 a2;have aa:=aB.out;have ae:=aC.out;have ay:=bO.out;have hgrow:=bN.out;have hb:True:=trivial;have hr:True:=trivial;have hs1:True:=trivial;have hI:True:=trivial;clear aB aC bO bN;have bn:=ay.c1;have bq:=ay.c2;have d0:w4.cell? ⟨c.pb,0,none⟩=some (RG c.rb):=aa.cell 0 _ rfl;have af:=ry w0 w4 c e _ _ _ (a+1) b aa (by omega) (by omega);have hx:=Ps.qD c.l (a+1) b;have hy:=nD c.l b (Ps.lo c.l (a+1) b);obtain⟨X,hX⟩:=my (Ps.lo c.l (a+1) b);rw[hX]at af hx hy HQ;obtain⟨Y,hY⟩:=my (back c.l b X);rw[hY]at af hy HQ;have aj:=eu (show Calls prog 41 #[RG c.pb,.int .i64 ((a:Int)+1),.int .i64 (b:Int)] w4 λen w'=>en=.returned (.tuple #[.int .i64 (X:Nat),.int .i64 (Y:Nat)])/\w4=w' from by rw[show(a:Int)+1=((a+1:Nat):Int)by omega];exact af);have gx:X<=200000:=by have h1:=oW (λj=>!cnt (raw c.l j)) (b-(a+1)) (a+1);have h2:X=p9 (λj=>!cnt (raw c.l j)) (b-(a+1)) (a+1):=hX.symm;omega
 have aH:(a:Int)+1<=100000:=by omega
 by_cases hxy:X<Y
 ·have aF:(X:Int)<(Y:Int):=by omega
  obtain⟨-,m2⟩:=Fe.qF (code:=8) hgrow (f:=X) (t:=Y) (by omega) hxy (by omega) (by omega) (by omega) (by omega) (by omega);obtain⟨v,hev⟩:=BR w0 w4 c.rb c.tv e c.l s1 _ 0 X Y 8 aa.gs (qp.of hgrow.ck (by omega)) (rY m2) hxy (by omega) (by omega);have HE:=eu hev;have aN:=eu (λW (h:∃e sv R,PG w0 W c e {p with s:=Fl.err c.l s1 0 X Y 8,doc:=-1,st:=[]} sv R/\TF w W)=>show Q (.returned (.tuple #[])) W from HQ.out W (by rw[show Ps.qf c.l s1 0 X Y 8=Fl.err c.l s1 0 X Y 8 from gu hxy];exact h));obtain⟨aB,aC⟩:=mR aa ae;clear hev m2 aa ae af hX hY hx hy HQ hgrow ay hxy hroot hI hr hs1 ah ai;go_wp2_with fail
  refine aj.out.mono ?_;rintro e4 v4 ⟨rfl,rfl⟩;go_wp2_with fail
  refine HE.out.mono ?_;rintro e5 w5 ⟨rfl,R5,hS5,aO⟩;obtain⟨ag,ax⟩:=aB.out.step hS5 aO;have HD:=eu (aN.out _ ⟨_,_,_,ag,aC.out.trans ax⟩);clear hS5 aO ag ax aB aC HE aN aj;go_wp2_with fail
  go_end0
  exact HD.out
 have aF:¬(X:Int)<(Y:Int):=by omega
 have HD:=eu (HQ.out w4 ⟨_,_,_,by rw[show Ps.qf c.l s1 0 X Y 8=s1 from fu hxy];exact aa,ae⟩);clear aa ae af hX hY hx hy HQ hgrow ay hxy hroot hI hr hs1 ah ai;clear hx0 hraw hK m2 g20 h20 hbl hge hB he m1 hle bC ga hN hls hlt hrs aI gd bn bq;try clear g1
 have bz:=eu (show¬X<Y by omega);go_wp2_with fail
 refine aj.out.mono ?_;rintro e4 v4 ⟨rfl,rfl⟩;clear aF gx aH hb;try clear ah ai
 go_wp2_with fail
 all_goals first
  |exact absurd (by assumption:X<Y) bz.out
  |(go_end0;exact HD.out)
end
section
open Go.RowKit
open Sq
open Ar
open Fl (Tk)
theorem PG.nth{w0 w:World}{c:Cx}{e:Nat}{p:Ps.PS}{sv:Value}{R:Nat->Prop}(h:PG w0 w c e p sv R){pre:List Ps.Op}{o:Ps.Op}{r:List Ps.Op}(hst:p.st=pre++o::r):
 ∃g cap,sv=.slice (some ⟨g,0,none⟩) p.st.length cap/\w0.heap.size<=g/\(∀j,w.frozen? ⟨g,j,none⟩=false)/\p.st.reverse[r.length]?=some o/\
  w.cell? ⟨g,r.length*5,none⟩=some (.int .i64 o.node)/\w.cell? ⟨g,r.length*5+1,none⟩=some (.int .i64 o.kind)/\w.cell? ⟨g,r.length*5+2,none⟩=some (.int .i64 o.mE)/\w.cell? ⟨g,r.length*5+3,none⟩=some (.int .i64 o.cur)/\w.cell? ⟨g,r.length*5+4,none⟩=some (.bool o.has):=by
 have hl:p.st.reverse.length=p.st.length:=pE;have hl2:0<p.st.length:=by rw[hst,oq,nI];omega
 obtain⟨g,cap,hv,hB,hfz,-,-⟩:=pP (E:=oJ) h.tZ (by omega);have hx:p.st.reverse[r.length]?=some o:=by
  rw[hst,Wm,E6,sF,yF (by simp)];simp
 have hc:∀j u,j<5->(uH o)[j]?=some u->w.cell? ⟨g,r.length*5+j,none⟩=some u:=λj u hj hu=>by
  have:=h.tZ.cells (g:=g) (by rw[hv];rfl) _ _ ((qh oJ p.st.reverse r.length o hx j hj).trans hu);rw[nX,qz]at this;exact this
 exact⟨g,cap,by rw[hv,hl],hB,hfz,hx,hc 0 _ (by decide) rfl,hc 1 _ (by decide) rfl,hc 2 _ (by decide) rfl,hc 3 _ (by decide) rfl,hc 4 _ (by decide) rfl⟩
theorem PG.pfxq{w0 w:World}{c:Cx}{e:Nat}{p:Ps.PS}{sv:Value}{R:Nat->Prop}(h:PG w0 w c e p sv R){pre U:List Ps.Op}(hst:p.st=pre++U):
 ∃a cap,sv=.slice a p.st.length cap/\p.st.length<=cap/\(a=none->p.st=[]/\cap=0)/\Reads oJ w (.slice a U.length cap) U.reverse:=by
 have hr:=Reads.mW (E:=oJ) h.tZ;have hlen:p.st.length=pre.length+U.length:=by rw[hst,oq]
 rcases hr with⟨h1,h2⟩|⟨b,off,cap,h1,h2,h3,h4⟩
 ·have h2':p.st=[]:=by simpa using h2
  have hU:U=[]:=by
   rw[h2']at hst;have:=congrArg List.length hst;rw[oq]at this;exact We.1 (by simp at this;omega)
  subst hU;exact⟨none,0,by rw[h1,h2'];rfl,by rw[h2'];exact mJ 0,λ_=>⟨h2',rfl⟩,.inl ⟨rfl,rfl⟩⟩
 rw[pE]at h1 h2;refine⟨some ⟨b,off,none⟩,cap,h1,h2,(λh=>by cases h),.inr ⟨b,off,cap,by rw[pE],by rw[pE];omega,h3,λj x hj i u hu=>h4 j x ?_ i u hu⟩⟩;rw[hst,Wm];exact(vC (nC.1 hj).1).trans hj
theorem GS.grown{w0 w w6:World}{rb:Nat}{tv v:Value}{e:Nat}{l:List Tk}{s:Fl.St}{R:Nat->Prop}{T sz n:Nat}{xs:List Value}(h:GS w0 w rb tv e l s R)(hv:w.ownsRow w0.heap.size T sz v n xs)(hg:w.grownBy w6 v.ownBlock)(h1:3≠T)(h2:37≠T)(h3:87≠T)(h4:58≠T):GS w0 w6 rb tv e l s R:=by
 obtain⟨nv,dv,L,hM,hL,hR⟩:=h;refine⟨nv,dv,L,hM.keep (hM.qK.grown hg hM.qK.size (λq hq=>(hv.lt q hq).1)) (λg hgg=>hg.block g (hM.rows hgg).2 (λe'=>?_)),hL,hR⟩;rcases hgg with rfl|hgg|hgg|⟨p,hp,hgg⟩
 ·exact mV hv hM.box h4.symm e'.symm
 ·exact nV hM.told hv h3 g hgg e'.symm
 ·exact nV hM.nodes.row hv h2 g hgg e'.symm
 obtain⟨i,hi⟩:=yG hp;exact nV (hM.nodes.kids i p hi) hv h1 g hgg e'.symm
theorem PG.push{w0 w w6:World}{c:Cx}{e:Nat}{p p':Ps.PS}{sv sv':Value}{R:Nat->Prop}(h:PG w0 w c e p sv R)(hg:w.grownBy w6 sv.ownBlock)(hO:w6.ownsRow w0.heap.size 112 5 sv' p'.st.reverse.length (oJ.all p'.st.reverse))(hs:p'.s=p.s)(hd:p'.doc=p.doc)(hr:p'.root=p.root)(hre:p'.read=p.read):
 w6.heap[c.pb]?=some (.cells (tQ c p sv) 61 (0,0))/\PG w0 (w6.setCell ⟨c.pb,4,none⟩ sv') c e p' sv' R/\TF w (w6.setCell ⟨c.pb,4,none⟩ sv'):=by
 have aa:w6.heap[c.pb]?=some (.cells (tQ c p sv) 61 (0,0)):=(hg.block c.pb h.lt (λe'=>mV h.tZ h.box (by decide) e'.symm)).trans h.box;have hgs:GS w0 w6 c.rb c.tv e c.l p.s R:=h.gs.grown h.tZ hg (by decide) (by decide) (by decide) (by decide);have st:∀g,g≠c.pb->(w6.setCell ⟨c.pb,4,none⟩ sv').heap[g]?=w6.heap[g]?:=λg hg=>yK _ _ _ _ hg
 refine⟨aa,⟨by rw[hs];exact hgs.far h.low aa (by decide) (by decide) (by decide) (by decide),?_,h.low,h.rows,h.Uj,oC hO (λg hg=>st g (λe'=>mV hO aa (by decide) (e' ▸hg)))⟩,λk C T fr hk h1 h2 h3 h4=>?_⟩
 ·have e1:tQ c p' sv'=(tQ c p sv).setIfInBounds 4 sv':=by
   show#[_,_,_,_,_,_,_]=_;rw[hd,hr,hre];rfl
  rw[e1];exact uq aa sv'
 have hkp:k≠c.pb:=by
  rintro rfl;rw[h.box]at hk;injection hk with hk
  injection hk with _ hT
  exact h2 hT
 rw[st k hkp];exact hg.block k (nQ hk) (λe'=>mV h.tZ hk h3 e'.symm)
theorem Qq(l:List Tk)(s:Fl.St)(c:Int)(j q:Nat):(Fl.pair l s c j q).2=(Fl.add s c 6 j q).2:=by
 unfold Fl.pair;dsimp only;split<;>rfl
theorem Ed{w0 w:World}{rb:Nat}{tv:Value}{e:Nat}{l:List Tk}{s s0:Fl.St}{R:Nat->Prop}{nd p0:Nat}{b:Int}{x:Rw.E}(hS:GS w0 w rb tv e l s R)(h:Fe.Ok l p0 l.length nd s0 x.from' b s)(hlt:x.from'<x.au)(hle:x.au<=l.length)(hn:s.t.length<=700000000000)(hd:x.dash=true):
 Calls prog 65 #[RG rb,.int .i64 nd,.int .i64 4,.int .i64 x.from',.int .i64 x.au] w (nE w0 w rb tv e l R (.int .i64 (Ps.cur l s nd x).2) (Ps.cur l s nd x).1):=by
 rw[show Ps.cur l s nd x=Fl.add s nd 4 x.from' x.au from gu hd];exact Gb w0 w rb tv e l s R nd x.from' 4 x.from' x.au b hS h.ck h.fits h.lf h.no hn (mJ _) (by omega) hle (by omega) (by omega)
theorem Ee{w0 w:World}{rb:Nat}{tv:Value}{e:Nat}{l:List Tk}{s s0:Fl.St}{R:Nat->Prop}{nd p0:Nat}{b:Int}{x:Rw.E}(hS:GS w0 w rb tv e l s R)(h:Fe.Ok l p0 l.length nd s0 x.from' b s)(hlt:x.from'<x.au)(hle:x.au<=l.length)(hn:s.t.length<=700000000000)(hd:x.dash=false):
 Calls prog 84 #[RG rb,.int .i64 nd,.int .i64 x.from',.int .i64 x.au] w (nE w0 w rb tv e l R (.int .i64 (Ps.cur l s nd x).2) (Ps.cur l s nd x).1):=by
 rw[show Ps.cur l s nd x=Fl.pair l s nd x.from' x.au from fu (by rw[hd];decide)];obtain⟨s',a1,-⟩:=Fe.pQ (kind:=6) h (f:=x.from') (t:=x.au) (pW _) (by omega) (by omega) (by omega) (by omega);rw[Qq,a1];exact Ud w0 w rb tv e l s R nd x.from' x.au b hS h.ck h.fits h.lf h.no hlt hle hn
theorem PG.pY{w0 w:World}{c:Cx}{e g n cap:Nat}{p p':Ps.PS}{R:Nat->Prop}{T T':Ps.Op}{SS:List Ps.Op}(h:PG w0 w c e p (.slice (some ⟨g,0,none⟩) n cap) R)(j:Nat)(u:Value)(h1:p.st=T::SS)(h2:p'.st=T'::SS)(hc:uH T'=(uH T).set j u)(hj:j<5)(hs:p'.s=p.s)(hd:p'.doc=p.doc)(hr:p'.root=p.root)(hre:p'.read=p.read):
 PG w0 (w.setCell ⟨g,SS.length*5+j,none⟩ u) c e p' (.slice (some ⟨g,0,none⟩) n cap) R/\TF w (w.setCell ⟨g,SS.length*5+j,none⟩ u):=by
 refine h.Ti SS.length j T T' u ?_ hc hj ?_ hs hd hr hre
 ·rw[h1,E6,yF (by simp)];simp
 rw[h1,h2,E6,E6,Uz _ _ (by simp)];simp
def EB(w:World)(b:Nat)(x:Rw.E):Prop:=w.heap[b]?=some (.cells #[.bool x.dash,.int .i64 x.mE,.int .i64 x.from',.int .i64 x.au] 110 (0,0))
theorem EB.new(w:World)(x:Rw.E):EB (w.alloc (.cells #[.bool x.dash,.int .i64 x.mE,.int .i64 x.from',.int .i64 x.au] 110)) w.heap.size x:=rA w _
theorem EB.keep{w w':World}{b:Nat}{x:Rw.E}(h:EB w b x)(hT:TF w w'):EB w' b x:=(hT b _ _ _ h (by decide) (by decide) (by decide) (by decide)).trans h
theorem EB.c0{w:World}{b:Nat}{x:Rw.E}(h:EB w b x):w.cell? ⟨b,0,none⟩=some (.bool x.dash):=nz h 0
theorem EB.c1{w:World}{b:Nat}{x:Rw.E}(h:EB w b x):w.cell? ⟨b,1,none⟩=some (.int .i64 x.mE):=nz h 1
theorem EB.c2{w:World}{b:Nat}{x:Rw.E}(h:EB w b x):w.cell? ⟨b,2,none⟩=some (.int .i64 x.from'):=nz h 2
theorem EB.c3{w:World}{b:Nat}{x:Rw.E}(h:EB w b x):w.cell? ⟨b,3,none⟩=some (.int .i64 x.au):=nz h 3
end
section
open Go.RowKit
open Sq
open Ar
open Fl (Tk raw p9 oW cnt back nD nM)
theorem Tz(w0 w:World)(c:Cx)(e:Nat)(p:Ps.PS)(sv:Value)(R:Nat->Prop)(r:Rw.R)(a b:Nat)(B:Ps.Bs)(h:PG w0 w c e p sv R)(hrs:c.rs=Rw.mQ c.l)(hO:Ps.zh c.l B a p)(hB:B.1<=a)(hab:a<b)(hb:b<=c.l.length)(hdp:p.st.length<=c.depth)(aL:c.depth<=50)(hcs:p.st.dropWhile (λo=>decide (r.mE<=o.mE))≠[])
 (hn:p.s.t.length<=450000000000) (hd:p.s.d.length<=450000000000):
 Calls prog 69 #[RG c.pb,.agg #[.int .i64 r.kind,.int .i64 r.from',.int .i64 r.au,.int .i64 r.mE],.int .i64 a,.int .i64 b] w (oQ w0 w c (.tuple #[]) (Ps.bare c.l c.rs c.depth p r a b)):=by
 obtain⟨d,hdd,hc,hh⟩:=hO;obtain⟨mh,aM,aF⟩:=hh.hold;have ai:Ps.holder p=(mh:Int):=by rw[Ps.sS,hdd];exact aM
 obtain⟨hc',hh'⟩:=Ps.qN.drop (λo=>decide (r.mE<=o.mE)) hc hh;have hls:=h.toks.2.2.2;obtain⟨-,m2⟩:=Fe.qF (code:=7) aF (f:=a) (t:=b) (by omega) hab (by omega) (by omega) hB (by omega) (by omega);have bE:=eu (λW R' (hW:GS w0 W c.rb c.tv e c.l p.s R')=>show∃v,Calls prog 43 #[RG c.rb,.int .i64 (Ps.holder p),.int .i64 a,.int .i64 b,.int .i64 7] W (nE w0 W c.rb c.tv e c.l R' (.int .i64 v) (Fl.err c.l p.s (Ps.holder p) a b 7))from by rw[ai];exact BR w0 W c.rb c.tv e c.l p.s R' mh a b 7 hW (qp.of aF.ck (by omega)) (rY m2) hab (by omega) (by omega));have bF:=eu (λW sv' R' (hW:PG w0 W c e p sv' R')=>BB w0 W c e p sv' R' hW (by omega));obtain⟨w1,hw1⟩:=my (w.alloc (.cells #[.int .i64 r.kind,.int .i64 r.from',.int .i64 r.au,.int .i64 r.mE] 63));have hb1:Below w.heap.size w w1:=hw1▸(mF _ w).alloc (mJ _) _;have hX1:RB w1 w.heap.size r.kind r.from' r.au r.mE:=hw1▸RB.new w _ _ _ _;have hP1:=h.below hb1;have hT1:=TF.below hb1;obtain⟨bx,hbx⟩:=my (w.heap.size);rw[hbx]at hX1;obtain⟨sa,sc,hsv⟩:=(Reads.mW (E:=oJ) h.tZ).shape;rw[pE]at hsv;obtain⟨SL,av⟩:=my (p.st.length);have aN:=eu av;rw[av]at hsv hdp;obtain⟨Q,hQ⟩:=my (oQ w0 w c (.tuple #[]) (Ps.bare c.l c.rs c.depth p r a b));have HQ:=eu (λW p' (hz:Ps.bare c.l c.rs c.depth p r a b=p')(h:∃e sv R,PG w0 W c e p' sv R/\TF w W)=>show Q (.returned (.tuple #[])) W from by rw[<-hQ,hz];exact⟨rfl,h⟩);rw[hQ]
 have aG:=eu (λW (hb:Below w1.heap.size w1 W)=>show W.cell? ⟨c.pb,0,none⟩=some (RG c.rb)/\W.cell? ⟨c.pb,3,none⟩=some (.bool p.root)/\W.cell? ⟨c.pb,4,none⟩=some (.slice sa SL sc)/\W.cell? ⟨bx,3,none⟩=some (.int .i64 r.mE)from
  ⟨(hP1.below hb).cell 0 _ rfl,(hP1.below hb).cell 3 _ rfl,by rw[<-hsv];exact(hP1.below hb).cell 4 _ rfl,(hX1.keep (TF.below hb)).c3⟩)
 have aO:=eu (λW (hb:Below w1.heap.size w1 W) pre o r (hs:p.st=pre++o::r)=>show∃g,sa=some ⟨g,0,none⟩/\r.length<SL/\
  W.cell? ⟨g,r.length*5+2,none⟩=some (.int .i64 o.mE)/\W.cell? ⟨g,r.length*5+4,none⟩=some (.bool o.has)from by
  obtain⟨g,cap,g1,-,-,-,-,-,g3,-,g4⟩:=(hP1.below hb).nth hs;rw[hsv]at g1;injection g1 with g1
  exact⟨g,g1,by rw[<-av,hs];simp;omega,g3,g4⟩)
 have bG:=eu (λW e' sv' R' (p':Ps.PS)(hW:PG w0 W c e' p' sv' R')(k:Nat)(hs:p'.s=p.s)(hl:p'.st.length<=c.depth)(hok:Ps.OK c.l B k a p.s)=>BC w0 W c e' p' sv' R' k a a B hW hrs (by rw[hs];exact hok) (mJ _) hB (by omega) hl aL (by rw[hs];omega) (by rw[hs];omega));obtain⟨HP,HT,HW1,HC,HH,bS⟩:=qW hP1 hT1 hw1 hc' hh' hdd;obtain⟨bH,bI⟩:=mR hsv hcs;have k4:=(aG.out w1 (mF _ w1)).2.2.1;have hsl:SL<=50:=by omega
 have bT:a<=100000:=by omega
 have hb5:b<=100000:=by omega
 have bJ:=eu hdp;clear hcs hQ h hP1 hX1 hT1 hw1 hc' hh' hc hh hdd hsv av hn hd hb1 ai aM aF m2 hdp hls
 go_enter func69,ntmps69
 go_upto_region 1 with fail
 rw[HW1.out];go_wp2_with fail
 clear k4
 go_loopw [8] (λkv wr=>∃(k:Int)(pre u:List Ps.Op),kv=.int .i64 k/\k=(u.length:Int)-1/\Hid (p.st=pre++u)/\Hid (∀o∈pre,r.mE<=o.mE)/\Hid (Below w1.heap.size w1 wr)) (λkv _=>(intOf kv+1).toNat)
 case atStart=>exact⟨_,[],p.st,rfl,by rw[aN.out],eu rfl,eu (λo ho=>by cases ho),eu (mF _ _)⟩
 case round=>
  obtain⟨k,pre,u,rfl,hk,HS,ax,HB⟩:=hrel;obtain⟨q0,q3,q4,q1⟩:=aG.out wr HB.out;cases u with
  |nil=>
   obtain rfl:k=-1:=by rw[hk];rfl
   clear hk
   have HU:=eu (show p.st.dropWhile (λo=>decide (r.mE<=o.mE))=[]from by
    rw[HS.out,xO (λo ho=>oP (ax.out o ho))];rfl)
   exact absurd HU.out bI.out
  |cons o q=>
   obtain rfl:k=(q.length:Int):=by rw[hk,nI];omega
   clear hk;obtain⟨g,rfl,hrl,y2,y4⟩:=aO.out wr HB.out pre o q HS.out;obtain⟨M,hM⟩:=my (q.length);have HM:=eu hM;rw[hM]at hrl y2 y4⊢;clear hM;by_cases hcl:r.mE<=o.mE
   ·have gg:o.mE>=r.mE:=hcl;have gk:(M:Int)<(SL:Int):=by omega
    go_wp2_with fail
    go_big_quiet (fail)
    have HB2:=eu (HB.out.trans ((nG (mF _ wr) nq).mono HB.out.size));have HS2:=eu (show p.st=(pre++[o])++q by rw[HS.out];simp)
    have aP:=eu (show∀y∈pre++[o],r.mE<=y.mE from λy hy=>by
     rcases rQ.1 hy with h|h
     ·exact ax.out y h
     obtain rfl:y=o:=by simpa using h
     exact hcl)
    clear q0 q3 q4 q1 y2 y4 gg HB HS ax hcl;go_wp2_with fail
    go_roundw
    case rel=>exact⟨_,pre++[o],q,by go_num,by rw[HM.out],HS2,aP,HB2⟩
    case measure=>simp[intOf];try omega
   have HU:=eu (show p.st.dropWhile (λo=>decide (r.mE<=o.mE))=o::q from by
    rw[HS.out,xO (λo ho=>oP (ax.out o ho)),Dy,fu (by simpa using hcl)])
   have gg:decide (o.mE>=r.mE)=false:=nK hcl;have bK:decide (r.mE<=o.mE)=false:=nK hcl;have gk:(M:Int)<(SL:Int):=by omega
   go_wp2_with fail
   go_big_quiet (fail)
   have HB:=eu (HB.out.trans ((nG (mF _ wr) nq).mono HB.out.size));clear q0 q3 q4 q1 y2 y4;obtain⟨aa,hW⟩:∃W2,wr.drewN nq=W2:=⟨_,rfl⟩
   rw[hW]at HB⊢;clear hW;obtain⟨q0,q3,q4,q1⟩:=aG.out aa HB.out;obtain⟨g',hg',-,y2,y4⟩:=aO.out aa HB.out pre o _ HS.out;obtain rfl:g=g':=by injection hg' with hg';injection hg'
   clear hg';rw[HM.out]at y2 y4;clear gg bK hcl;have gl:decide ((M:Int)<0)=false:=nK (by omega);cases aj:o.has with
   |true=>
    rw[aj]at y4;go_upto_region 5 with fail
    have ay:=eu ((HP.out.below HB.out).below (mF _ aa).drew);have aQ:=eu (HT.out.trans (TF.below (HB.out.trans ((mF _ aa).drew.mono HB.out.size))));have r0:aa.drew.cell? ⟨c.pb,0,none⟩=some (RG c.rb):=ay.out.cell 0 _ rfl;clear q0 q3 q4 q1;refine mK (λwx=>wx.cell? ⟨c.pb,0,none⟩=some (RG c.rb)) 8 (by kernel_rfl) ?_;have hH:(λwx:World=>wx.cell? ⟨c.pb,0,none⟩=some (RG c.rb)) aa.drew:=r0;refine nA 0 (RG c.pb) rfl (by kernel_rfl) rfl mD (λW=>by go_simp) (λ_=>hH) ?_;refine nA 1 (.pointer (some ⟨c.pb,0,none⟩)) rfl (by kernel_rfl) rfl mD (λW=>by go_simp) (λ_=>hH) ?_;refine nA 2 (.pointer (some ⟨c.pb,0,none⟩)) rfl (by kernel_rfl) rfl mD (λW=>by go_simp) (λ_=>hH) ?_;refine mI 3 (RG c.rb) rfl (by kernel_rfl) rfl mD (λW hW=>by go_simp) hH ?_;refine nA 4 (RG c.pb) rfl (by kernel_rfl) rfl mD (λW=>by go_simp) (λ_=>hH) ?_;refine mI 6 (.int .i64 (a:Int)) rfl (by kernel_rfl) rfl mD (λW hW=>by go_simp) hH ?_;refine mI 7 (.int .i64 (b:Int)) rfl (by kernel_rfl) rfl mD (λW hW=>by go_simp) hH ?_;refine oD 5 (by kernel_rfl) rfl λK hK=>?_
    go_simp;refine(bF.out aa.drew _ _ ay.out).mono ?_;rintro e5 w5 ⟨rfl,hb5⟩;have az:=eu (ay.out.below hb5);have aR:=eu (aQ.out.trans (TF.below hb5));have r5:w5.cell? ⟨c.pb,0,none⟩=some (RG c.rb):=az.out.cell 0 _ rfl;obtain⟨ve,aS⟩:=bE.out w5 _ az.out.gs;have aT:=eu aS;clear hb5 aS ay aQ r0;refine hK.out _ _ (λ_=>r5) (λhH2=>?_);clear hK K;replace hH:=hH2 (by kernel_rfl);clear hH2;try simp only[Act.put,mM,mP,mO]
    refine oD 8 (by kernel_rfl) rfl λK hK=>?_
    go_simp;refine aT.out.mono ?_;rintro e6 w6 ⟨rfl,R6,aU,aV⟩;obtain⟨ae,ak⟩:=az.out.step aU aV;have HD:=eu (HQ.out w6 _ (by unfold Ps.bare;rw[HU.out];show(if o.has=true then _ else _)=_;rw[gu aj]) ⟨_,_,_,ae,aR.out.trans ak⟩);clear aU aV ae ak r5 az aR aT;refine hK.out _ _ (pV (by kernel_rfl)) (λ_=>?_);clear hK K;try simp only[Act.put,mM,mP,mO]
    refine mH (by kernel_rfl) ?_ _;go_wp2_with fail
    first|exact HD.out|(go_end0;exact HD.out)|(go_ret;exact HD.out)
   |false=>
    rw[aj]at y4;have aW:=eu aj;clear aj;go_upto_region 6 with fail
    obtain⟨a',cap',z1,z2,z3,z4⟩:=(HP.out.below HB.out).pfxq (pre:=pre) (U:=o::q) HS.out;rw[bH.out]at z1;injection z1 with z1 af ag
    subst z1 ag;rw[aN.out]at z2;have aH:=eu (z4.below (mr aa (.cells #[] 112)));have aX:=eu (rG (e:=112) oJ aa);have ah:=eu (mr aa (.cells #[] 112));have bL:=oG (o:=.cells #[] 112) q4;have bM:(o::q:List Ps.Op).reverse.length<=100000:=by rw[pE];rw[nI,HM.out];omega
    have aY:=eu (show([]:List Ps.Op).length+(o::q:List Ps.Op).reverse.length<=maxLen by simp only[maxLen,sH];omega);have aZ:=eu (show(([]:List Ps.Op).length+(o::q:List Ps.Op).reverse.length)*40<=140737488355328 by simp only[sH];omega);have hm:(o::q:List Ps.Op).length=M+1:=by rw[nI,HM.out]
    rw[hm]at aH;have bN:=eu (show(o::q:List Ps.Op).reverse.length=M+1 from by rw[pE];exact hm);have aI:=eu (HP.out.below HB.out);have bf:=eu (HT.out.trans (TF.below HB.out));have bg:=eu (show w0.heap.size<=aa.heap.size from aI.out.qK.size);clear bM af z3 z4 hm HB HP HT q0 q3 q4 q1;go_upto_region 7 with(at_builtin;go_must (refine oH Lx rfl (.tmp 64) (.tmp 71) rfl aa.heap.size _ ([]:List Ps.Op) rfl aX.out _ (o::q:List Ps.Op).reverse rfl aH.out aY.out aZ.out ah.out.size ?_;intro kv w2 hown2 hg2 bn;rw[zU]at hown2;obtain⟨ka,kc,bq⟩:=(Reads.mW (E:=oJ) hown2).shape;rw[bN.out]at bq;subst bq;have hP2:=aI.out.below (ah.out.grown hg2 ah.out.size (λq hq=>rR (qJ hq)));have HT2:=eu (bf.out.trans (TF.below (ah.out.grown hg2 ah.out.size (λq hq=>rR (qJ hq)))));have u4:=hP2.cell 4 _ rfl;have f4:=hP2.free 4;have bz:=eu (oU hown2 bg.out);have bA:=eu hP2;clear hown2 hg2 bn hP2))
    clear aI bf bg aX ah aH aY aZ bL z2;obtain⟨hP3,aJ⟩:=bA.out.tC (p':={p with st:=(o::q:List Ps.Op)}) (sv':=.slice ka (M+1) kc) rfl rfl rfl rfl bz.out;obtain⟨w3,hw3⟩:=my (w2.setCell ⟨c.pb,4,none⟩ (.slice ka (M+1) kc));rw[hw3]at hP3 aJ;obtain⟨HT3,aA,HW3⟩:=nY (HT2.out.trans aJ) hP3 hw3;clear hP3 aJ hw3 bA HT2 bz;rw[HW3.out];clear HW3 u4 f4;obtain⟨g9,bQ,z1,z2,z3,z4,y0,y1,y2,y3,y4⟩:=aA.out.top (o:=o) (r:=q) rfl;injection z1 with z1 af ag
    subst z1 ag;clear af z2 z3 z4 y0 y1 y2 y3 y4
    obtain⟨mm,e1,e2⟩:=(show Ps.Dq c.l B o.cur a p.s from by
     have hh:=HH.out;rw[HU.out]at hh
     exact hh.2 aW.out)
    have hv:=bG.out w3.drew _ _ _ {p with st:=(o::q:List Ps.Op)} (aA.out.below (mF _ w3).drew) mm rfl (by show(o::q:List Ps.Op).length<=_;have h9:=bJ.out;rw[nI,HM.out];omega) e2;have hvk:∀k:Int,k=(mm:Int)->Calls prog 66 #[RG c.pb,.int .i64 k,.int .i64 a] w3.drew (uE w0 w3.drew c (.slice (some ⟨g9,0,none⟩) (M+1) kc) (.bool (Ps.value c.l c.rs c.depth {p with st:=(o::q:List Ps.Op)} k a).2) (Ps.value c.l c.rs c.depth {p with st:=(o::q:List Ps.Op)} k a).1):=by rintro _ rfl;exact hv
    replace hv:=hvk o.cur e1;clear hvk;obtain⟨V,hV⟩:=my (Ps.value c.l c.rs c.depth {p with st:=(o::q:List Ps.Op)} o.cur a);rw[hV]at hv;have aD:V.1.st=o::q:=by rw[<-hV];rfl
    obtain⟨HV,bO,bB⟩:=nY hv hV aD;clear hv hV e1 e2 aD;have aK:=eu (aA.out.below (mF _ w3).drew);have bC:=eu (HT3.out.trans (TF.below (mF _ w3).drew));clear aA HT3;have r4:w3.drew.cell? ⟨c.pb,4,none⟩=some (.slice (some ⟨g9,0,none⟩) (M+1) kc):=aK.out.cell 4 _ rfl;obtain⟨g',cap',z1,-,-,-,-,-,-,r3,-⟩:=aK.out.top (o:=o) (r:=q) rfl;injection z1 with z1 af ag
    clear af ag;injection z1 with z1
    injection z1 with z1
    subst z1;rw[HM.out]at r3;have bU:((M:Nat):Int)<((M:Nat):Int)+1:=by omega
    have bR:¬(((M:Nat):Int)+1<=((M:Nat):Int)):=by omega
    have gl:decide ((M:Int)<0)=false:=nK (by omega);go_upto_region 9 with fail
    clear gl;refine mK (λwx=>wx.cell? ⟨c.pb,4,none⟩=some (.slice (some ⟨g9,0,none⟩) (M+1) kc)/\wx.cell? ⟨g9,M*5+3,none⟩=some (.int .i64 o.cur)) 18 (by kernel_rfl) ?_;have hH:(λwx:World=>wx.cell? ⟨c.pb,4,none⟩=some (.slice (some ⟨g9,0,none⟩) (M+1) kc)/\wx.cell? ⟨g9,M*5+3,none⟩=some (.int .i64 o.cur)) w3.drew:=⟨r4,r3⟩
    refine mI 0 (RG c.pb) rfl (by kernel_rfl) rfl mD (λW hW=>by go_simp) hH ?_;refine mI 1 (.pointer (some ⟨c.pb,0,none⟩)) rfl (by kernel_rfl) rfl mD (λW hW=>by go_simp) hH ?_;refine mI 2 (.pointer (some ⟨c.pb,4,none⟩)) rfl (by kernel_rfl) rfl mD (λW hW=>by go_simp) hH ?_;refine mI 3 (.slice (some ⟨g9,0,none⟩) (M+1) kc) rfl (by kernel_rfl) rfl mD (λW hW=>?_) hH ?_
    ·obtain⟨z0,z1⟩:=hW;go_simp
    refine mI 4 (.int .i64 (M:Int)) rfl (by kernel_rfl) rfl mD (λW hW=>by go_simp) hH ?_;refine mI 5 (RG c.pb) rfl (by kernel_rfl) rfl mD (λW hW=>by go_simp) hH ?_;refine mI 6 (RG c.pb) rfl (by kernel_rfl) rfl mD (λW hW=>by go_simp) hH ?_;refine mI 7 (.pointer (some ⟨c.pb,0,none⟩)) rfl (by kernel_rfl) rfl mD (λW hW=>by go_simp) hH ?_;refine mI 8 (.pointer (some ⟨c.pb,4,none⟩)) rfl (by kernel_rfl) rfl mD (λW hW=>by go_simp) hH ?_;refine mI 9 (.slice (some ⟨g9,0,none⟩) (M+1) kc) rfl (by kernel_rfl) rfl mD (λW hW=>?_) hH ?_
    ·obtain⟨z0,z1⟩:=hW;go_simp
    refine mI 10 (.int .i64 (M:Int)) rfl (by kernel_rfl) rfl mD (λW hW=>by go_simp) hH ?_;refine mI 11 (.pointer (some ⟨g9,M*5,none⟩)) rfl (by kernel_rfl) rfl mD (λW hW=>by go_simp) hH ?_;refine mI 12 (.pointer (some ⟨g9,M*5+3,none⟩)) rfl (by kernel_rfl) rfl mD (λW hW=>by go_simp) hH ?_;refine mI 13 (.int .i64 o.cur) rfl (by kernel_rfl) rfl mD (λW hW=>?_) hH ?_
    ·obtain⟨z0,z1⟩:=hW;go_simp
    refine mI 14 (.int .i64 (a:Int)) rfl (by kernel_rfl) rfl mD (λW hW=>by go_simp) hH ?_;refine oD 15 (by kernel_rfl) rfl λK hK=>?_
    go_simp;refine HV.out.mono ?_;rintro e5 w5 ⟨rfl,e6,R6,ae,ak⟩;have d4:w5.cell? ⟨c.pb,4,none⟩=some (.slice (some ⟨g9,0,none⟩) (M+1) kc):=ae.cell 4 _ rfl;obtain⟨g',cap',z1,-,z3,-,-,-,-,d3,y4⟩:=ae.top (o:=o) (r:=q) bB.out;injection z1 with z1 af ag
    clear af ag;injection z1 with z1
    injection z1 with z1
    subst z1;rw[HM.out]at d3 y4;have f4:=z3 (M*5+4);obtain⟨aB,aC⟩:=ae.pY (p':={V.1 with st:={o with has:=V.2}::q}) (T:=o) (T':={o with has:=V.2}) (SS:=q) 4 (.bool V.2) bB.out rfl rfl (by decide) rfl rfl rfl rfl;rw[HM.out]at aB aC;obtain⟨w7,hw7⟩:=my (w5.setCell ⟨g9,M*5+4,none⟩ (.bool V.2));rw[hw7]at aB aC;have bD:=eu hw7;have HD:=eu (HQ.out w7 _ (by unfold Ps.bare;rw[HU.out];show(if o.has=true then _ else _)=_;rw[fu (by rw[aW.out];decide)];dsimp only;rw[bO.out]) ⟨_,_,_,aB,(bC.out.trans ak).trans aC⟩);clear ae ak aB aC hw7 r4 r3 HV aK bC;refine hK.out _ _ (λ_=>⟨d4,d3⟩) (λhH2=>?_);clear hK K;replace hH:=hH2 (by kernel_rfl);clear hH2;try simp only[Act.put,mM,mP,mO]
    refine nA 16 (.pointer (some ⟨g9,M*5,none⟩)) rfl (by kernel_rfl) rfl mD (λW=>by go_simp) (λ_=>hH) ?_;refine mI 17 (.pointer (some ⟨g9,M*5+4,none⟩)) rfl (by kernel_rfl) rfl mD (λW hW=>by go_simp) hH ?_;refine oD 18 (by kernel_rfl) rfl λK hK=>?_
    go_simp;refine hK.out _ _ (pV (by kernel_rfl)) (λ_=>?_);clear hK K;try simp only[Act.put,mM,mP,mO]
    rename_i bP;clear bP hH;refine mH (by kernel_rfl) ?_ _;rw[bD.out];clear bD d4 d3 y4 f4;go_wp2_with fail
    first|exact HD.out|(go_end0;exact HD.out)|(go_ret;exact HD.out)
end
end Go.Proofs.Ytfbiffdmhcjhbaa

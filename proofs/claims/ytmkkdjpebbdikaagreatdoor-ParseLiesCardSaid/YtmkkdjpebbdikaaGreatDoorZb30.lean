import Derived.Test.YtmkkdjpebbdikaaGreatDoorZb27
set_option linter.all false
set_option maxHeartbeats 16000000
set_option maxRecDepth 100000
namespace Go.Proofs.YtmkkdjpebbdikaaGreatDoor
open Go.RowKit Tryz
section
open Go.RowKit
open Sq
open Ar
section
variable {w w':World}{B:Nat}{v u:Value}{P L:List Ln}{T:List Nd}{k:Int}
theorem VT.low(h:VT w B v P L){B':Nat}(hB:B'<=B):VT w B' v P L:=⟨vg h.row hB,λi p hp=>vg (h.kids i p hp) hB,h.apart⟩
theorem xF.low(h:xF w B u T k){B':Nat}(hB:B'<=B):xF w B' u T k:=λhk=>by
 obtain⟨P,L,h1,h2,h3⟩:=h hk;exact⟨P,L,h1,h2,h3.low hB⟩
theorem xF.below(h:xF w B u T k)(hb:Below w.heap.size w w'):xF w' B u T k:=λhk=>by
 obtain⟨P,L,h1,h2,h3⟩:=h hk;exact⟨P,L,h1,h2,h3.below hb⟩
theorem xF.box(h:xF w B u T k){g:Nat}{C:Array Value}{t:TypeId}{fr:Nat×Nat}(hh:w.heap[g]?=some (.cells C t fr))(ht:3≠t)(ht2:38≠t)(o:Nat)(x:Value):xF (w.setCell ⟨g,o,none⟩ x) B u T k:=λhk=>by
 obtain⟨P,L,h1,h2,h3⟩:=h hk;exact⟨P,L,h1,h2,h3.box hh ht ht2 o x⟩
theorem vG{w:World}{v:Value}{l:List Nd}(h:iC w v l):∃a n c,v=.slice a n c:=by
 obtain⟨a,c,e⟩:=h.shape;exact⟨a,_,c,e⟩
end
structure RV(W0 W:World)(bt:Nat)(u dv:Value)(V:Int×Nat×Fl.St):Prop where
 kL:Below W0.heap.size W0 W
 lo:W0.heap.size<=bt
 box:W.heap[bt]?=some (.cells #[u] 31 (0,0))
 tail:xF W W0.heap.size u V.2.2.t V.1
 told:W.ownsRow W0.heap.size 40 3 dv V.2.2.d.length (fK.all V.2.2.d)
theorem RV.new{W0 W:World}{bt:Nat}{u dv z:Value}{V:Int×Nat×Fl.St}(hb:Below W0.heap.size W0 W)(hx:W.heap[bt]?=some (.cells #[z] 31 (0,0)))(hlo:W0.heap.size<=bt)(ht:xF W W0.heap.size u V.2.2.t V.1)(ho:W.ownsRow W0.heap.size 40 3 dv V.2.2.d.length (fK.all V.2.2.d)):
 RV W0 (W.setCell ⟨bt,0,none⟩ u) bt u dv V:=
 ⟨hb.setCell (p:=⟨bt,0,none⟩) hlo _,hlo,sw hx u,ht.box hx dU dU 0 u,fE ho (λk hk=>jo _ _ _ _ (λe=>eU ho hx dU ((show k=bt from e)▸hk)))⟩
def GX(rb at' gl m bt nx:Nat)(v1:Int)(dv:Value)(a:Act):Prop:=a.defers=[]/\a.tmps.size=111/\a.tmps.getD 0 undef=RP rb/\a.tmps.getD 1 undef=.int .i64 (at':Int)/\a.tmps.getD 4 undef=.pointer (some ⟨gl,m*5,none⟩)/\a.tmps.getD 5 undef=.int .i64 (m:Int)/\a.tmps.getD 6 undef=.pointer (some ⟨bt,0,none⟩)/\a.tmps.getD 7 undef=.int .i64 v1/\a.tmps.getD 8 undef=.int .i64 (nx:Int)/\a.tmps.getD 9 undef=dv
theorem GX.is{rb at' gl m bt nx:Nat}{v1:Int}{dv:Value}{a:Act}(hl:GX rb at' gl m bt nx v1 dv a):∃u:Nat->Value,a={tmps:=#[RP rb,.int .i64 (at':Int),u 2,u 3,.pointer (some ⟨gl,m*5,none⟩),.int .i64 (m:Int),.pointer (some ⟨bt,0,none⟩),.int .i64 v1,.int .i64 (nx:Int),dv,u 10,u 11,u 12,u 13,u 14,u 15,u 16,u 17,u 18,u 19,u 20,u 21,u 22,u 23,u 24,u 25,u 26,u 27,u 28,u 29,u 30,u 31,u 32,u 33,u 34,u 35,u 36,u 37,u 38,u 39,u 40,u 41,u 42,u 43,u 44,u 45,u 46,u 47,u 48,u 49,u 50,u 51,u 52,u 53,u 54,u 55,u 56,u 57,u 58,u 59,u 60,u 61,u 62,u 63,u 64,u 65,u 66,u 67,u 68,u 69,u 70,u 71,u 72,u 73,u 74,u 75,u 76,u 77,u 78,u 79,u 80,u 81,u 82,u 83,u 84,u 85,u 86,u 87,u 88,u 89,u 90,u 91,u 92,u 93,u 94,u 95,u 96,u 97,u 98,u 99,u 100,u 101,u 102,u 103,u 104,u 105,u 106,u 107,u 108,u 109,u 110],defers:=[]}:=by
 obtain⟨t,df⟩:=a;obtain⟨h1,h2,g0,g1,g4,g5,g6,g7,g8,g9⟩:=hl;dsimp only at h1 h2 g0 g1 g4 g5 g6 g7 g8 g9;subst h1;refine⟨λk=>t.getD k undef,?_⟩;have h3:=CZ t 111 h2;have h4:(List.range 111).map (λk=>t.getD k undef)=[t.getD 0 undef,t.getD 1 undef,t.getD 2 undef,t.getD 3 undef,t.getD 4 undef,t.getD 5 undef,t.getD 6 undef,t.getD 7 undef,t.getD 8 undef,t.getD 9 undef,t.getD 10 undef,t.getD 11 undef,t.getD 12 undef,t.getD 13 undef,t.getD 14 undef,t.getD 15 undef,t.getD 16 undef,t.getD 17 undef,t.getD 18 undef,t.getD 19 undef,t.getD 20 undef,t.getD 21 undef,t.getD 22 undef,t.getD 23 undef,t.getD 24 undef,t.getD 25 undef,t.getD 26 undef,t.getD 27 undef,t.getD 28 undef,t.getD 29 undef,t.getD 30 undef,t.getD 31 undef,t.getD 32 undef,t.getD 33 undef,t.getD 34 undef,t.getD 35 undef,t.getD 36 undef,t.getD 37 undef,t.getD 38 undef,t.getD 39 undef,t.getD 40 undef,t.getD 41 undef,t.getD 42 undef,t.getD 43 undef,t.getD 44 undef,t.getD 45 undef,t.getD 46 undef,t.getD 47 undef,t.getD 48 undef,t.getD 49 undef,t.getD 50 undef,t.getD 51 undef,t.getD 52 undef,t.getD 53 undef,t.getD 54 undef,t.getD 55 undef,t.getD 56 undef,t.getD 57 undef,t.getD 58 undef,t.getD 59 undef,t.getD 60 undef,t.getD 61 undef,t.getD 62 undef,t.getD 63 undef,t.getD 64 undef,t.getD 65 undef,t.getD 66 undef,t.getD 67 undef,t.getD 68 undef,t.getD 69 undef,t.getD 70 undef,t.getD 71 undef,t.getD 72 undef,t.getD 73 undef,t.getD 74 undef,t.getD 75 undef,t.getD 76 undef,t.getD 77 undef,t.getD 78 undef,t.getD 79 undef,t.getD 80 undef,t.getD 81 undef,t.getD 82 undef,t.getD 83 undef,t.getD 84 undef,t.getD 85 undef,t.getD 86 undef,t.getD 87 undef,t.getD 88 undef,t.getD 89 undef,t.getD 90 undef,t.getD 91 undef,t.getD 92 undef,t.getD 93 undef,t.getD 94 undef,t.getD 95 undef,t.getD 96 undef,t.getD 97 undef,t.getD 98 undef,t.getD 99 undef,t.getD 100 undef,t.getD 101 undef,t.getD 102 undef,t.getD 103 undef,t.getD 104 undef,t.getD 105 undef,t.getD 106 undef,t.getD 107 undef,t.getD 108 undef,t.getD 109 undef,t.getD 110 undef]:=rfl;rw[h4,g0,g1,g4,g5,g6,g7,g8,g9]at h3;exact congrArg (λt=>({tmps:=t,defers:=[]}:Act)) h3
section
variable {w0 w wq w6:World}{rb:Nat}{c:Ctx}{q:Pr.QS}{lv v6:Value}{R:Nat->Prop}
theorem fF.told(hS:fF w0 w rb c q lv R):∃dv,w.ownsRow w0.heap.size 40 3 dv q.s.d.length (fK.all q.s.d)/\w.cell? ⟨rb,5,none⟩=some dv/\(∀o,w.frozen? ⟨rb,o,none⟩=false)/\
 ∀xs v6 wq w6,Below w.heap.size w wq->wq.grownBy w6 dv.ownBlock->w6.ownsRow w0.heap.size 40 3 v6 (q.s.d++xs).length (fK.all (q.s.d++xs))->(v6.ownBlock=dv.ownBlock\/v6.ownBlock=some wq.heap.size)->
  (w6.cell? ⟨rb,5,none⟩=some dv/\w6.frozen? ⟨rb,5,none⟩=false)/\∃R',fF w0 (w6.setCell ⟨rb,5,none⟩ v6) rb c {q with s:=⟨q.s.t,q.s.d++xs⟩} lv R'/\FP w (w6.setCell ⟨rb,5,none⟩ v6) rb R R':=by
 obtain⟨nv,dv,L,hM,hL,hTr,rfl⟩:=hS;refine⟨dv,hM.told,XD hM.box,hM.free,λxs v6 wq w6 hq hg hown hat=>?_⟩;obtain⟨hb,aa,ae⟩:=hM.more hq hg hown hat;exact⟨⟨XD hb,qc hb 5⟩,_,⟨nv,v6,L,aa,hL,hTr,rfl⟩,ae⟩
theorem fF.setRow(hS:fF w0 w rb c q lv R)(k:Nat):fF w0 (w.setCell ⟨rb,6,none⟩ (.int .i64 (k:Int))) rb c {q with row:=k} lv R/\FP w (w.setCell ⟨rb,6,none⟩ (.int .i64 (k:Int))) rb R R:=by
 obtain⟨nv,dv,L,hM,hL,hTr,rfl⟩:=hS;refine⟨⟨nv,dv,L,PM.toCell (C:=jR c nv dv lv q.row q.en) hM.kL hM.ctx hM.low hM.box rfl hM.nodes hM.told hM.levels,hL,hTr,rfl⟩,?_,λk h1 h2 h3=>jo _ _ _ _ h2,λk hk=>.inl hk⟩;have:(w.setCell ⟨rb,6,none⟩ (.int .i64 (k:Int))).heap.size=w.heap.size:=eG
 omega
theorem fF.ahr(hS:fF w0 w rb c q lv R)(k:Nat):fF w0 (w.setCell ⟨rb,7,none⟩ (.int .i64 (k:Int))) rb c {q with en:=k} lv R/\FP w (w.setCell ⟨rb,7,none⟩ (.int .i64 (k:Int))) rb R R:=by
 obtain⟨nv,dv,L,hM,hL,hTr,rfl⟩:=hS;refine⟨⟨nv,dv,L,PM.toCell (C:=jR c nv dv lv q.row q.en) hM.kL hM.ctx hM.low hM.box rfl hM.nodes hM.told hM.levels,hL,hTr,rfl⟩,?_,λk h1 h2 h3=>jo _ _ _ _ h2,λk hk=>.inl hk⟩;have:(w.setCell ⟨rb,7,none⟩ (.int .i64 (k:Int))).heap.size=w.heap.size:=eG
 omega
theorem fF.rowAt(hS:fF w0 w rb c q lv R){ra:Option Addr}{rc k:Nat}{x:Rw.R}(aa:c.rv=.slice ra c.rs.length rc)(hx:c.rs[k]?=some x):
 w.cell? ⟨rb,2,none⟩=some c.rv/\w.cell? ⟨rb,6,none⟩=some (.int .i64 (q.row:Int))/\w.frozen? ⟨rb,6,none⟩=false/\∃b off,ra=some ⟨b,off,none⟩/\w.cell? ⟨b,off+k*4+2,none⟩=some (.int .i64 x.bu):=by
 obtain⟨nv,dv,L,hM,hL,hTr,rfl⟩:=hS;have hr:=hM.ctx.rows.below hM.kL;rw[aa]at hr;obtain⟨b,off,e,_,_,h3,_⟩:=EJ hr k x hx;exact⟨bx2 hM.box,bx6 hM.box,hM.free 6,b,off,e,h3⟩
end
theorem FP.mix{a b d:World}{rb:Nat}{R K R':Nat->Prop}(h:FP a b rb R R)(g:FP b d rb (λk=>R k\/K k) R')(hK:∀k,K k->a.heap.size<=k):FP a d rb R R' :=
 ⟨iU h.size g.size,λk hk hr hn=>(g.block k (zx hk h.size) hr (λe=>e.elim hn (λe=>by have:=hK k e;omega))).trans (h.block k hk hr hn),λk hk=>(g.rows k hk).elim (λe=>e.elim .inl (λe=>.inr (hK k e))) (λe=>.inr (iU h.size e))⟩
theorem Rt(p:Nat->Bool):∀(n i:Nat),i<=Fl.iy p n i/\(∀k,i<=k->k<Fl.iy p n i->p k=true)/\(Fl.iy p n i<i+n->p (Fl.iy p n i)=false)
 |0,i=>by
  show i<=i/\_;exact⟨eO _,λk h1 h2=>absurd h1 (Nat.not_le.2 h2),λh=>absurd h (by show¬i<i+0;omega)⟩
 |n+1,i=>by
  rw[Fl.iy];by_cases h:p i=true
  ·rw[dX h];obtain⟨h1,h2,h3⟩:=Rt p n (i+1);refine⟨dS,λk h4 h5=>?_,λh4=>h3 dS⟩;by_cases e:k=i
   ·rw[e];exact h
   ·exact h2 k dS h5
  ·rw[dW h];exact⟨eO _,λk h1 h2=>absurd h1 (Nat.not_le.2 h2),λ_=>kU⟩
def QI(rb at' gl m bt nx:Nat)(v1:Int)(dv:Value)(w0 w:World)(c:Ctx)(lv:Value)(R:Nat->Prop)(q2:Pr.QS)(D:List Fl.Dg):Exit->Act->World->Prop
 | .normal,a',W'=>∃R2,GX rb at' gl m bt nx v1 dv a'/\fF w0 W' rb c q2 lv R2/\FP w W' rb R R2/\Reads fK W' dv D
 |_,_,_=>False
def QR(rb at' gl m nx:Nat)(v1:Int)(w1:World)(V:Int×Nat×Fl.St):Exit->Act->World->Prop
 | .normal,a',W'=>∃bt uv dv,GX rb at' gl m bt nx v1 dv a'/\RV w1 W' bt uv dv V
 |_,_,_=>False
theorem FO(w0 w:World)(rb:Nat)(c:Ctx)(q:Pr.QS)(lv:Value)(R:Nat->Prop)(h:Pr.Lv)(tl:List Pr.Lv)(at':Nat)(hS:fF w0 w rb c q lv R)(hst:q.st=h::tl)(hok:Pr.pP q)(aV:oV c.l)(hi:at'<=q.en)(he:q.en<=c.l.length)(hmd:tl.length<=c.depth)(hdp:c.depth<=50)(hn:q.s.t.length<=700000000000)(hd:q.s.d.length<=700000000000)(hrt:∀r∈c.rs,r.bu<=c.l.length)
 (hsk:Pr.skip c.rs q.row (Fl.gP c.l q.en (c.depth-tl.length) 0 at' ⟨fU c.l.length,[]⟩).2.1<c.rs.length):
 Calls prog 61 #[RP rb,.int .i64 at'] w (nW w0 w rb c lv R (.tuple #[]) (Pr.value c.l c.rs c.depth q at')):=by
 have hcx:=hS.ctx;obtain⟨ta,tc,aR⟩:=hcx.toks.shape;obtain⟨tn,htn⟩:=eu (c.l.length);obtain⟨V,hV⟩:=eu (Fl.gP c.l q.en (c.depth-tl.length) 0 at' ⟨fU c.l.length,[]⟩);obtain⟨gl,cap,rfl,hfz,hcl,c8,-⟩:=hS.top hst;have hIn:=za w rb gl tl.length cap c8 dS;have hcells:∀W,Below w.heap.size w W->W.cell? ⟨rb,0,none⟩=some c.bv/\W.cell? ⟨rb,1,none⟩=some c.tv/\W.cell? ⟨rb,7,none⟩=some (.int .i64 (q.en:Int))/\W.cell? ⟨rb,3,none⟩=some (.int .i64 (c.depth:Int)):=λW hW=>by
  obtain⟨nv,dv,L,hM,_⟩:=hS.below hW;exact⟨bx0 hM.box,bx1 hM.box,bx7 hM.box,bx3 hM.box⟩
 have aH:∀W,Below w.heap.size w W->∀uu,iC W uu (fU (tn:Int))->Calls prog 94 #[c.bv,.slice ta tn tc,.agg #[uu],.int .i64 0,.int .i64 (at':Int),.int .i64 (q.en:Int),.int .i64 ((c.depth-tl.length:Nat):Int)] W (C6 V W):=λW hW uu hu=>by
  rw[<-htn]at hu⊢;rw[<-hV,<-aR];obtain⟨hck,hf⟩:=Pr.uE c.l.length at' hcx.size
  exact ajk c.bv c.tv uu c.l q.en (fU (c.l.length:Int)) 0 at' (c.depth-tl.length) (c.l.length:Int) ((at'+1:Nat):Int) W (hcx.toks.below (hS.kL.trans (hW.mono hS.kL.size))) (by have:=hcx.size;omega) he aV hu hck hf dS hi dS (by show 1<=4000;decide) (λx hx=>by
   have hx:x∈[_]:=hx;rw[tF.1 hx]
   exact fP _) dS
 obtain⟨v1,hv1⟩:=eu (V.1);obtain⟨nx,hnx⟩:=eu (V.2.1);obtain⟨EN,bD⟩:=eu (q.en);obtain⟨DP,bE⟩:=eu (c.depth);obtain⟨bv,hbv⟩:=eu (c.bv);obtain⟨m,hm⟩:=eu (tl.length);obtain⟨DD,bR⟩:=eu (DP-m);rw[htn]at aR;rw[bE,bD,aR,hbv]at hcells;rw[bE,bD,hbv,hm,bR]at aH;rw[hm]at hIn;have hgw:wrap64 ((DP:Int)-(m:Int))=(DD:Int):=by rw[AF _ dS];omega
 have bS:IntKind.i64.wrap ((DP:Int)-(m:Int))=(DD:Int):=Ea
 have dw:wrap64 ((m:Int)+1-1)=(m:Int):=by rw[show(m:Int)+1-1=(m:Int)by omega];exact AF _ dS
 have dx:wrap64 (m:Int)=(m:Int):=AF _ dS;obtain⟨lv,hlv⟩:=eu ((Value.slice (some ⟨gl,0,none⟩) (tl.length+1) cap));obtain⟨Q,hQ⟩:=eu (nW w0 w rb c (Value.slice (some ⟨gl,0,none⟩) (tl.length+1) cap) R (.tuple #[]) (Pr.value c.l c.rs c.depth q at'));rw[hQ];have hc8:∀W,Below w.heap.size w W->W.cell? ⟨rb,8,none⟩=some (.slice (some ⟨gl,0,none⟩) (m+1) cap):=λW hW=>by rw[<-hm];exact eB hW c8
 obtain⟨I8,rM,Bq⟩:=je hc8 hIn hcells;have af:=dY (λW hW uu hu=>(aH W hW uu hu).mono (λe w' h=>show∃u dv,e=.returned (.tuple #[.agg #[u],.int .i64 v1,.int .i64 (nx:Int),dv])/\iC w' u V.2.2.t/\Reads fK w' dv V.2.2.d/\Below W.heap.size W w'/\xF w' W.heap.size u V.2.2.t V.1/\w'.ownsRow W.heap.size 40 3 dv V.2.2.d.length (fK.all V.2.2.d)by rw[<-hv1,<-hnx];exact h));have mE:=dY (λW=>alW (tn:Int) W);obtain⟨HS,HQ⟩:=fw hS hQ;have HH:=dY (show True from trivial);have ae:=dY (And.intro hst (And.intro hok (And.intro hi (And.intro he (And.intro hmd (And.intro hn (And.intro hd (And.intro hrt (And.intro hsk (And.intro hV (And.intro hv1 (And.intro hnx (And.intro hm (And.intro hlv (And.intro hcx htn)))))))))))))));clear hst hok aV hi he hmd hdp hn hd hrt hsk hV hv1 hnx hm hlv hcx htn hcells hIn aH hS hQ hfz hcl c8 aR bE bD hbv bR hc8
 go_enter func61,ntmps61
 go_wp2_with fail
 refine rM.out.mono ?_;rintro e w1 ⟨rfl,n1,hw1⟩;have hb1:Below w.heap.size w w1:=by rw[hw1];exact mF (fD _ w) n1
 have HB1:=dY hb1;obtain⟨d0,d1,d7,d3⟩:=Bq.out w1 hb1;have d8:=I8.out w1 hb1;have af:=dY (λW (hW:Below w1.heap.size w1 W) uu hu=>af.out W (eD HB1.out hW) uu hu);clear hb1 hw1;go_upto_region 2 with fail
 refine ah0 (Q:=QR rb at' gl m nx v1 w1 V) ?_ ?_
 ·intro e a' W2 hq;cases e with
  |normal=>
   obtain⟨bt,uv,dv,hlive,ag⟩:=hq;obtain⟨u,rfl⟩:=hlive.is;clear hlive rM Bq af mE;have hb2:Below w.heap.size w W2:=eD HB1.out ag.kL;have hs1:w.heap.size<=w1.heap.size:=HB1.out.size;obtain⟨hst,hok,hi,he,hmd,hn,hd,hrt,hsk,hV,hv1,hnx,hm,hlv,hcx,htn⟩:=ae.out;have hS:=HS.out;have hQ:=HQ.out;have hvs:=Pr.uF c.l q.en (c.depth-tl.length) at' c.l.length hi he hcx.size;have aF:=Pr.acS c.l q.en (c.depth-tl.length) at' c.l.length hi he hcx.size;rw[hV]at hvs aF hsk;rw[hv1]at hvs aF;rw[hnx]at hvs hsk;obtain⟨q2,hq2⟩:∃q2:Pr.QS,{q with s:=⟨if v1=-1 then q.s.t else Pr.rX q.s.t h.cur (V.2.2.t.drop v1.toNat),q.s.d⟩,st:={h with full:=if v1=-1 then h.full else true}::tl}=q2:=⟨_,rfl⟩
   have hval:Pr.value c.l c.rs c.depth q at'={s:=Pr.fault c.l ⟨q2.s.t,q2.s.d++V.2.2.d⟩ h.cur 8 nx (Pr.uM c.rs (Pr.skip c.rs q.row nx)),row:=Pr.skip c.rs q.row nx,en:=q.en,st:=q2.st}:=by
    unfold Pr.value;rw[hst];dsimp only;rw[hV,hv1,hnx,<-hq2]
   have hlv1:=hok.lv h yS;have aI:q.s.t.length<=q2.s.t.length/\q2.s.t.length<=q.s.t.length+100000:=by
    rw[<-hq2];dsimp only;split
    ·omega
    ·have:=hcx.size;rw[Pr.Ia,ky];omega
   have ai:q2.s.d=q.s.d:=by rw[<-hq2]
   have aA:q2.row=q.row:=by rw[<-hq2]
   have ax:q2.en=q.en:=by rw[<-hq2]
   have aB:q2.st={h with full:=if v1=-1 then h.full else true}::tl:=by rw[<-hq2]
   rename_i K hK;refine hK _ _ (wp_seq (ah0 (Q:=QI rb at' gl m bt nx v1 dv w0 w c (.slice (some ⟨gl,0,none⟩) (tl.length+1) cap) R q2 V.2.2.d) ?_ ?_))
   ·intro e a' W3 hq;cases e with
    |normal=>
     obtain⟨R3,aC,jV,ku,bF⟩:=hq;obtain⟨u3,rfl⟩:=aC.is;clear aC hK K ae HQ HS;obtain⟨ra,rc,bG⟩:=hcx.rows.shape;obtain⟨RL,aS⟩:=eu (c.rs.length);obtain⟨dP,hown5,c5,f5,hmore⟩:=jV.told;obtain⟨SK,bH⟩:=eu (Pr.skip c.rs q.row nx);rw[bH]at hsk hval;have hgo:=Rt (λi=>decide (Pr.uM c.rs i<nx)) (c.rs.length-q.row) q.row;have hgo':Fl.iy (λi=>decide (Pr.uM c.rs i<nx)) (c.rs.length-q.row) q.row=SK:=bH;rw[hgo']at hgo;obtain⟨hg1,hg2,hg3⟩:=hgo;obtain⟨xk,hxk⟩:∃xk,c.rs[SK]?=some xk:=⟨_,fu hsk⟩
     have ak:∀k x,c.rs[k]?=some x->Pr.uM c.rs k=x.bu:=λk x hx=>by unfold Pr.uM;rw[hx]
     have hxl:xk.bu<=c.l.length:=hrt xk (gW hxk);have bI:nx<=xk.bu:=by
      have h1:=hg3 dS;have h2:=ahW h1;rw[ak SK xk hxk]at h2;omega
     rw[ak SK xk hxk]at hval;obtain⟨D,bJ⟩:=eu (V.2.2.d);rw[bJ]at bF hval;have hDl:D.length<=32768:=by rw[<-bJ];have:=hvs.2.1;have:=hcx.size;omega
     obtain⟨q3,hq3⟩:∃q3:Pr.QS,{q2 with s:=⟨q2.s.t,q2.s.d++D⟩}=q3:=⟨_,rfl⟩
     have hmr:=hmore D;have aW:q3.st=q2.st:=by rw[<-hq3]
     have aX:q3.row=q.row:=by rw[<-hq3];exact aA
     have bT:q3.en=q.en:=by rw[<-hq3];exact ax
     have aJ:q3.s.t=q2.s.t:=by rw[<-hq3]
     have aY:q3.s.d=q2.s.d++D:=by rw[<-hq3]
     have bK:=λW R' (hW:fF w0 W rb c {q3 with row:=SK} (.slice (some ⟨gl,0,none⟩) (tl.length+1) cap) R')=>Bj w0 W rb c {q3 with row:=SK} _ R' h.cur 8 nx xk.bu hW (by show h.cur<q3.s.t.length;rw[aJ];have:=hlv1.2;omega) bI hxl (by show q3.s.t.length<=_;rw[aJ];omega) (by show q3.s.d.length<=_;rw[aY,iK,ai];omega)
     obtain⟨CU,av⟩:=eu (h.cur);have bU:∀W k R',fF w0 W rb c {q3 with row:=k} (.slice (some ⟨gl,0,none⟩) (tl.length+1) cap) R'->W.cell? ⟨gl,m*5+3,none⟩=some (.int .i64 (CU:Int)):=λW k R' hW=>by
      have h1:=hW.Mj (pre:=[]) (h:={h with full:=if v1=-1 then h.full else true}) (r:=tl) (by show q3.st=_;rw[aW];exact aB) 3 _ rfl;rw[hm,show({h with full:=if v1=-1 then h.full else true}:Pr.Lv).cur=CU from av]at h1;exact h1
     have hfin:∀W R',fF w0 W rb c {{q3 with row:=SK}with s:=Pr.fault c.l q3.s CU 8 nx xk.bu} (.slice (some ⟨gl,0,none⟩) (tl.length+1) cap) R'->FP w W rb R R'->Q (.returned (.tuple #[])) W:=λW R' h1 h2=>by
      rw[<-hQ];refine⟨rfl,R',?_,h2⟩;rw[hval,av];rw[<-hq3]at h1;have e:({{{q2 with s:=⟨q2.s.t,q2.s.d++D⟩}with row:=SK}with s:=Pr.fault c.l ⟨q2.s.t,q2.s.d++D⟩ CU 8 nx xk.bu}:Pr.QS)={s:=Pr.fault c.l ⟨q2.s.t,q2.s.d++D⟩ CU 8 nx xk.bu,row:=SK,en:=q.en,st:=q2.st}:=by rw[<-ax]
      rw[<-e];exact h1
     rw[av]at bK;rw[aS]at hsk bG;obtain⟨bL,dA,bM,dB,Xx⟩:=vV hmr bF hown5 ku jV;have dC:=dY (show q2.s.d.length+D.length<=maxLen by rw[ai];simp only[maxLen];omega);have dD:=dY (show(q2.s.d.length+D.length)*24<=140737488355328 by rw[ai];omega);have dE:=dY (show w0.heap.size<=W3.heap.size from jV.kL.size);obtain⟨dF,bV,HG2,dG,Pw,aT⟩:=kG hq3 aX hg2 ak aS bG;have dH:=dY hxk;have dI:=dY (show RL<=32768 by rw[<-aS];exact hcx.rsz);obtain⟨yM,bW,HFin⟩:=je bK bU hfin;have hnr:nx<=xk.bu:=bI;clear af I8 HH d0 d1 d7 d3 d8 hgw bS dw dx hb2 hs1 hst hok hi he hmd hn hd hrt hV hv1 hnx hm hlv hcx htn hvs aF hval hlv1 aI ai aA ax aB hq2 ag HB1 hS hQ hown5 hmore hmr hgo' bH bF bJ hDl hq3 aW aX bT aJ aY bK av bU hfin jV ku hxk ak hxl bI bG aS hg2 hg3;go_wp2_with (at_builtin;go_must (refine lS tyD rfl (.tmp 68) (.tmp 69) rfl w0.heap.size _ q2.s.d rfl bM.out _ D rfl dA.out dC.out dD.out dE.out ?_;intro v9 w9 az bX aZ;obtain⟨a9,c9,bY⟩:=(Reads.fo (E:=fK) az).shape;obtain⟨n9,bZ⟩:∃n9,(q2.s.d++D).length=n9:=⟨_,rfl⟩;rw[bZ]at bY;clear bZ;subst bY;obtain⟨⟨c59,f59⟩,R9,bN,cr⟩:=bL.out _ W3 w9 (fD _ W3) bX az aZ;rw[dF.out]at bN;have dJ:=dY bN;have dK:=dY (dB.out.trans cr);clear az bX aZ bN cr c5 f5))
     go_loopw [] (λwr=>∃(k:Nat)(R5:Nat->Prop),q.row<=k/\k<=SK/\Hid (fF w0 wr rb c {q3 with row:=k} (.slice (some ⟨gl,0,none⟩) (tl.length+1) cap) R5/\FP w wr rb R R5)) (λwr=>SK-(intOf ((wr.cell? ⟨rb,6,none⟩).getD undef)).toNat)
     case atStart=>exact⟨q.row,R9,eO _,hg1,dY ⟨by rw[<-bV.out];exact dJ.out,dK.out⟩⟩
     case round=>
      obtain⟨k,R5,hk1,hk2,HP⟩:=hrel;have hS5:=HP.out.1;by_cases hlt:k<SK
      ·obtain⟨x,hx⟩:∃x,c.rs[k]?=some x:=⟨_,fu (by rw[Pw.out];omega)⟩
       have hrt:=pM (HG2.out k hk1 hlt);rw[dG.out k x hx]at hrt;obtain⟨c2,c6,f6,b,off,e,ct⟩:=hS5.rowAt (by rw[Pw.out];exact aT.out) hx;rw[aT.out]at c2;subst e;have c6:wr.cell? ⟨rb,6,none⟩=some (.int .i64 (k:Int)):=c6;obtain⟨XT,aK⟩:=eu (x.bu);rw[aK]at hrt ct;have n1:decide ((XT:Int)<(nx:Int))=true:=kD dS;have n2:(XT:Int)<(nx:Int):=dS
       have gk:(k:Int)<(RL:Int):=dS
       have hstp:=λn=>(hS5.below (mF (fD _ wr) n)).setRow (k+1)
       have cz:=dY (λn=>show fF w0 _ rb c {q3 with row:=k+1} _ R5/\FP w _ rb R R5 from⟨(hstp n).1,(HP.out.2.trans (FP.below (mF (fD _ wr) n))).trans (hstp n).2⟩);have hks:k<=1000000:=by have:=dI.out;omega
       clear hS5 hrt hx aK hstp HP;go_upto_region 7 with fail
       go_big_quiet (fail)
       go_wp2_with fail
       go_roundw
       case rel=>exact⟨k+1,R5,dS,dS,dY (cz.out nq)⟩
       case measure=>
        have e1:∀v,(wr.setCell ⟨rb,6,none⟩ v).cell? ⟨rb,6,none⟩=some v:=λv=>ig _ _ _ (by rw[c6];rfl)
        have e2:∀v,((wr.drewN nq).setCell ⟨rb,6,none⟩ v).cell? ⟨rb,6,none⟩=some v:=λv=>e1 v
        simp[intOf,c6,e2];omega
      ·have cB:k=SK:=by omega
       rw[cB]at HP hS5;obtain⟨c2,c6,f6,b,off,e,ct⟩:=hS5.rowAt (by rw[Pw.out];exact aT.out) dH.out;rw[aT.out]at c2;subst e;have c6:wr.cell? ⟨rb,6,none⟩=some (.int .i64 (SK:Int)):=c6;obtain⟨XT,aK⟩:=eu (xk.bu);rw[aK]at hnr ct yM HFin;have n1:decide ((XT:Int)<(nx:Int))=false:=ic dS;have n2:¬(XT:Int)<(nx:Int):=dS
       have gk:(SK:Int)<(RL:Int):=dS
       have n3:=bW.out wr SK R5 hS5;have cK:=dY (λW (hW:Below wr.heap.size wr W)=>yM.out W R5 (hS5.below hW));have dL:=dY (λn W6 R6 h6 aU=>HFin.out W6 R6 h6 (HP.out.2.trans ((FP.below (mF (fD _ wr) n).drew).trans aU)));clear hS5 aK HP cB hlt hk1 hk2 yM HFin bW hnr;go_upto_region 7 with fail
       go_big_quiet (fail)
       go_upto_region 9 with fail
       have e3:=eP (show(wr.drewN nq).cell? ⟨gl,m*5+3,none⟩=_ from n3);have e2:=eP (show(wr.drewN nq).cell? ⟨rb,2,none⟩=_ from c2);have e6:=eP (show(wr.drewN nq).cell? ⟨rb,6,none⟩=_ from c6);have et:=eP (show(wr.drewN nq).cell? ⟨b,off+SK*4+2,none⟩=_ from ct);refine ik 17 dV dV ?_;simp only[vJ,vT,xB,lM]
       repeat (go_big_quiet_step (fail))
       refine LP ?_;go_wp2_with fail
       refine(cK.out _ (mF (fD _ wr) nq).drew).mono ?_;rintro e W6 ⟨rfl,R6,cO,aU⟩;have HD:=dY (dL.out nq W6 R6 cO aU);clear cO aU;go_wp2_with fail
       exact sP
    |_=>exact hq.elim
   ·by_cases hno:v1=-1
    ·subst hno;rw[dX rfl,dX rfl]at hq2;have hqq:q2=q:=by
      rw[<-hq2];show({q with st:=h::tl}:Pr.QS)=q;rw[<-hst]
     have hD:∀a',GX rb at' gl m bt nx (-1) dv a'->QI rb at' gl m bt nx (-1) dv w0 w c (.slice (some ⟨gl,0,none⟩) (tl.length+1) cap) R q2 V.2.2.d .normal a' W2:=λa' ha=>⟨R,ha,by rw[hqq];exact hS.below hb2,FP.below hb2,Reads.fo (E:=fK) ag.told⟩
     have HD:=dY hD;clear hb2 hs1 hst hok hi he hmd hn hd hrt hsk hV hv1 hnx hm hlv hcx htn hvs aF hval hlv1 aI ai aA ax aB hqq hD hq2 ag HB1 hK K ae HQ HS hS hQ;go_wp2_with fail
     exact HD.out _ ⟨rfl,rfl,rfl,rfl,rfl,rfl,rfl,rfl,rfl,rfl⟩
    ·obtain⟨e1,p0,r,hdr,⟨tt,cZ⟩,hlen,bO,hall⟩:=aF hno;subst e1;rw[dW dU,dW dU]at hq2;obtain⟨P,LL,hP,df,aL⟩:=ag.tail (by rw[hv1];decide);rw[hv1]at hP;have hP:P.length=1:=by omega
     have aM:LL.map Ln.nd=p0::r:=by
      rw[<-hdr,<-df,yF,List.drop_left' (by rw[jl,hP])]
     have dM:LL.length=r.length+1:=by rw[<-jl (f:=Ln.nd),aM];rfl
     obtain⟨n,hnn⟩:=eu (LL.length);obtain⟨gx,cx,rfl,-,-,-,-⟩:=jf (E:=fZ) aL.row D3;have hpl:(P++LL).length=n+1:=by rw[iK,hP,hnn];omega
     rw[hpl]at aL ag;obtain⟨pl,aN⟩:∃pl,LL[0]?=some pl:=⟨_,fu dS⟩
     have bf:pl.nd=p0:=by
      have h1:(LL.map Ln.nd)[0]?=some pl.nd:=by rw[kS,aN];rfl
      rw[aM]at h1;exact(iG h1).symm
     have hRl:=hS.lt;obtain⟨h',hh'⟩:∃h',({h with full:=true}:Pr.Lv)=h':=⟨_,rfl⟩
     have hS2:=hS.below hb2;have aO:=hS2.Mj (pre:=[]) hst;obtain⟨dQ,dO,bg,hfz,-,-,hgR⟩:=hS2.top hst;have ex:=(lX bg).1;injection ex with ex
     injection ex with ex
     subst ex;obtain⟨jV,ku⟩:=hS2.Kr hst 4 (.bool true) h' (by rw[<-hh'];rfl) dU;obtain⟨q1,hq1⟩:∃q1:Pr.QS,{q with st:=h'::tl}=q1:=⟨_,rfl⟩
     rw[hq1]at jV;rw[hm]at aO jV ku;obtain⟨W3,hW3⟩:=eu (W2.setCell ⟨gl,m*5+4,none⟩ (.bool true));rw[hW3]at jV ku;have dh:=(hS.rows hgR).2.1;have aD:∀k,w1.heap.size<=k->W3.heap[k]?=W2.heap[k]?:=λk hk=>by rw[<-hW3];exact jo _ _ _ _ (λe=>by have e:k=gl:=e;omega)
     have aj:VT W3.drew w1.heap.size (.slice (some ⟨gx,0,none⟩) (n+1) cx) P LL:=aL.same (λg hg=>(aD g (aL.lt hg).1));have ah:W3.drew.ownsRow w1.heap.size 40 3 dv V.2.2.d.length (fK.all V.2.2.d):=fE ag.told (λk hk=>aD k (ag.told.lt k hk).1);have di:W3.heap[bt]?=_:=(aD bt ag.lo).trans ag.box;have bn:=jV.below (fD _ W3).drew;have bP:∀k,(k=gx\/∃p∈LL,p.val.ownBlock=some k)->w1.heap.size<=k/\k<W3.drew.heap.size:=λk hk=>aj.lt (hk.elim (λe=>.inl (by rw[e];rfl)) .inr)
     have hoff:∀k,w1.heap.size<=k->w0.heap.size<=k/\k≠rb/\¬R k:=λk hk=>⟨dS,dS,λhr=>by have:=(hS.rows hr).2.1;omega⟩
     have bQ:=ajx w0 W3.drew rb c q1 _ R h.cur gx n cx w1.heap.size tt P LL pl bn (by rw[<-hq1];exact hlv1.2) (by rw[<-hq1];show q.s.t.length<=_;omega) aj hP aN (by rw[bf];exact cZ) (λk hk=>hoff k (bP k hk).1) dS (by have:=hcx.size;omega) (λi p hp=>by
      have h1:(LL.map Ln.nd)[i]?=some p.nd:=by rw[kS,hp];rfl
      rw[aM]at h1;have:=hall i p.nd h1
      refine⟨dS,this.2.1,this.2.2.1,this.2.2.2.1,this.2.2.2.2⟩)
     obtain⟨-,dm,bq,-⟩:=aj.reads hP dS;have bz:∀W4 R4,fF w0 W4 rb c {q1 with s:=⟨Pr.rX q1.s.t h.cur (LL.map Ln.nd),q1.s.d⟩} (.slice (some ⟨gl,0,none⟩) (tl.length+1) cap) R4->FP W3.drew W4 rb (λk=>R k\/(k=gx\/∃p∈LL,p.val.ownBlock=some k)) R4->∀a',GX rb at' gl m bt nx 1 dv a'->QI rb at' gl m bt nx 1 dv w0 w c (.slice (some ⟨gl,0,none⟩) (tl.length+1) cap) R q2 V.2.2.d .normal a' W4:=λW4 R4 h4 vS a' ha=>by
      refine⟨R4,ha,?_,((FP.below hb2).trans (ku.trans (FP.below (fD _ W3).drew))).mix vS (λk hk=>by have:=(bP k hk).1;omega),?_⟩
      ·rw[<-hq2,show V.2.2.t.drop (1:Int).toNat=LL.map Ln.nd from by rw[aM];exact hdr,hh'];rw[<-hq1]at h4;exact h4
      ·refine Reads.fo (E:=fK) (fE ah (λk hk=>vS.block k (ah.lt k hk).2 (hoff k (ah.lt k hk).1).2.1 (λe=>?_)));rcases e with e|e|⟨p,hp,e⟩
       ·exact(hoff k (ah.lt k hk).1).2.2 e
       ·exact eX aj.row ah dU k (by rw[e];rfl) hk
       ·obtain⟨i,hi⟩:=jy hp;exact eX (aj.kids i p hi) ah dU k e hk
     have c4:W2.cell? ⟨gl,m*5+4,none⟩=some (.bool h.full):=aO 4 _ rfl;have f4:W2.frozen? ⟨gl,m*5+4,none⟩=false:=hfz _;obtain⟨CU,av⟩:=eu (h.cur);have n3:W3.cell? ⟨gl,m*5+3,none⟩=some (.int .i64 (CU:Int)):=by
      have h1:=jV.Mj (pre:=[]) (h:=h') (r:=tl) (by rw[<-hq1];rfl) 3 _ rfl;rw[hm,<-hh']at h1;rw[<-av];exact h1
     have nb:W3.cell? ⟨bt,0,none⟩=some (.slice (some ⟨gx,0,none⟩) (n+1) cx):=jh di;have hsl:∀X:World,(Instr.slice 29 (.slice (some ⟨gx,0,none⟩) (n+1) cx) (some (.int .i64 1)) none none).run prog X=.ok (.slice (some ⟨gx,6,none⟩) n (cx-1)) X:=λX=>by
      have h2:=bq;simp only[maxLen]at h2;rw[aie X _ (some ⟨gx,0,none⟩) (n+1) cx (by rw[OV.he];exact OV.ht) .i64 1 dS dS,OV.he,OV.size];have h3:¬cx=1:=dS
      simp[Result.andThen,sliced,fT,h3];rfl
     rw[av]at bQ;have dN:=dY bQ;have HFin:=dY (λW4 R4 h4=>bz W4 R4 (by rw[av,hm];exact h4));have HW3:=dY hW3;clear hb2 hs1 hst hok hi he hmd hn hd hrt hsk hV hv1 hnx hm hlv hcx htn hvs aF hval hlv1 aI ai aA ax aB hq2 ag HB1 hK K ae HQ HS hS hQ hno hdr cZ hlen bO hall hP df aL aM dM hnn hpl aN bf hRl hh' hS2 aO hfz hgR bg jV ku hW3 dh aD aj ah di bn bP hoff bQ dm bq bz av hq1;go_upto_region 5 with fail
     rw[HW3.out];clear HW3 c4 f4;refine fO (λwx=>wx.cell? ⟨gl,m*5+3,none⟩=some (.int .i64 (CU:Int))/\wx.cell? ⟨bt,0,none⟩=some (.slice (some ⟨gx,0,none⟩) (n+1) cx)) 9 dV ?_;have hH:(λwx:World=>wx.cell? ⟨gl,m*5+3,none⟩=some (.int .i64 (CU:Int))/\wx.cell? ⟨bt,0,none⟩=some (.slice (some ⟨gx,0,none⟩) (n+1) cx)) W3.drew:=⟨eP n3,eP nb⟩
     refine iE 0 (.pointer (some ⟨rb,0,none⟩)) hH ?_;refine gZ 1 (.pointer (some ⟨gl,m*5,none⟩)) (λ_=>hH) ?_;refine gZ 2 (.pointer (some ⟨gl,m*5,none⟩)) (λ_=>hH) ?_;refine gZ 3 (.pointer (some ⟨gl,m*5+3,none⟩)) (λ_=>hH) ?_;refine rV 4 (.int .i64 (CU:Int)) (λW hW=>?_) hH ?_
     ·obtain⟨z0,z1⟩:=hW;go_simp
     refine gZ 5 (.pointer (some ⟨bt,0,none⟩)) (λ_=>hH) ?_;refine tkc 8 6 (.slice (some ⟨gx,0,none⟩) (n+1) cx) (λW hW=>?_) hH ?_
     ·obtain⟨z0,z1⟩:=hW;go_simp
     refine gZ 7 (.int .i64 1) (λ_=>hH) ?_;refine iE 8 (.slice (some ⟨gx,6,none⟩) n (cx-1)) hH ?_;refine mY 9 λK hK=>?_
     go_simp;refine dN.out.mono ?_;rintro e W4 ⟨rfl,R4,rU,vS⟩;have HD:=dY (HFin.out W4 R4 rU vS);clear rU vS;refine hK.out _ _ lh (λ_=>?_);clear hK K;try simp only[Act.put,fG,fB,fC]
     refine fJ dV ?_ _;exact HD.out _ ⟨rfl,rfl,rfl,rfl,rfl,rfl,rfl,rfl,rfl,rfl⟩
  |_=>exact hq.elim
 ·clear rM Bq d8 I8;refine fO (λwx=>wx.cell? ⟨rb,0,none⟩=some bv/\wx.cell? ⟨rb,1,none⟩=some (.slice ta tn tc)/\wx.cell? ⟨rb,7,none⟩=some (.int .i64 (EN:Int))/\wx.cell? ⟨rb,3,none⟩=some (.int .i64 (DP:Int))) 25 dV ?_;have hH:(λwx:World=>wx.cell? ⟨rb,0,none⟩=some bv/\wx.cell? ⟨rb,1,none⟩=some (.slice ta tn tc)/\wx.cell? ⟨rb,7,none⟩=some (.int .i64 (EN:Int))/\wx.cell? ⟨rb,3,none⟩=some (.int .i64 (DP:Int))) w1.drew:=⟨eP d0,eP d1,eP d7,eP d3⟩
  refine gZ 0 (.pointer (some ⟨rb,0,none⟩)) (λ_=>hH) ?_;refine gZ 1 (.pointer (some ⟨rb,0,none⟩)) (λ_=>hH) ?_;refine gZ 2 (.pointer (some ⟨rb,0,none⟩)) (λ_=>hH) ?_;refine rV 3 bv (λW hW=>?_) hH ?_
  ·obtain⟨z0,z1,z2,z3⟩:=hW;go_simp
  refine gZ 4 (.pointer (some ⟨rb,0,none⟩)) (λ_=>hH) ?_;refine gZ 5 (.pointer (some ⟨rb,0,none⟩)) (λ_=>hH) ?_;refine gZ 6 (.pointer (some ⟨rb,1,none⟩)) (λ_=>hH) ?_;refine rV 7 (.slice ta tn tc) (λW hW=>?_) hH ?_
  ·obtain⟨z0,z1,z2,z3⟩:=hW;go_simp
  refine gZ 8 (.pointer (some ⟨rb,0,none⟩)) (λ_=>hH) ?_;refine gZ 9 (.pointer (some ⟨rb,0,none⟩)) (λ_=>hH) ?_;refine gZ 10 (.pointer (some ⟨rb,1,none⟩)) (λ_=>hH) ?_;refine tkd 13 12 11 (.slice ta tn tc) (λW hW=>?_) hH ?_
  ·obtain⟨z0,z1,z2,z3⟩:=hW;go_simp
  refine gZ 12 (.int .i64 (tn:Int)) (λ_=>hH) ?_;refine iE 14 (.int .i64 (at':Int)) hH ?_;refine gZ 15 (.pointer (some ⟨rb,0,none⟩)) (λ_=>hH) ?_;refine gZ 16 (.pointer (some ⟨rb,0,none⟩)) (λ_=>hH) ?_;refine gZ 17 (.pointer (some ⟨rb,7,none⟩)) (λ_=>hH) ?_;refine rV 18 (.int .i64 (EN:Int)) (λW hW=>?_) hH ?_
  ·obtain⟨z0,z1,z2,z3⟩:=hW;go_simp
  refine gZ 19 (.pointer (some ⟨rb,0,none⟩)) (λ_=>hH) ?_;refine gZ 20 (.pointer (some ⟨rb,0,none⟩)) (λ_=>hH) ?_;refine gZ 21 (.pointer (some ⟨rb,3,none⟩)) (λ_=>hH) ?_;refine tkc 24 22 (.int .i64 (DP:Int)) (λW hW=>?_) hH ?_
  ·obtain⟨z0,z1,z2,z3⟩:=hW;go_simp
  refine gZ 23 (.int .i64 (m:Int)) (λ_=>hH) ?_;refine iE 24 (.int .i64 (DD:Int)) hH ?_;refine mM (rs:=[13,31]) dV eG ?_;refine gU.cons (o:=⟨_,_,_,_,_,_⟩) rfl (λK hK=>?_) (gU.cons (o:=⟨_,_,_,_,_,_⟩) rfl (λK hK=>?_) (gU.nil))
  ·go_simp;refine(mE.out w1.drew).mono ?_;rintro e w4 ⟨uu,rfl,aP,-,hb4⟩;have qI:=eD (fD _ w1).drew hb4;clear hb4;refine hK.out _ _ (λ_=>⟨eB qI d0,eB qI d1,eB qI d7,eB qI d3⟩) (λhH2=>?_);clear hK K;replace hH:=hH2 dV;clear hH2;try simp only[Act.put,fG,fB,fC]
   refine mM (rs:=[25,31]) dV eG ?_;refine gU.cons (o:=⟨_,_,_,_,_,_⟩) rfl (λK hK=>?_) (gU.cons (o:=⟨_,_,_,_,_,_⟩) rfl (λK hK=>?_) (gU.nil))
   ·go_simp;refine(af.out w4 qI uu aP).mono ?_;rintro e w5 ⟨uv,dv,rfl,aG,-,hb5,htl,hto⟩;obtain⟨ua,un,uc,rfl⟩:=vG aG;have bA:=eD qI hb5;clear aG aP;refine hK.out _ _ lh (λ_=>?_);clear hK K;try simp only[Act.put,fG,fB,fC]
    refine gZ 26 (.tuple #[.agg #[.slice ua un uc],.int .i64 v1,.int .i64 (nx:Int),dv]) lh ?_;refine gZ 27 (.agg #[.slice ua un uc]) lh ?_;refine gZ 28 (.int .i64 v1) lh ?_;refine gZ 29 (.int .i64 (nx:Int)) lh ?_;refine gZ 30 dv lh ?_;refine mY 31 λK hK=>?_
    obtain⟨bt,hbt⟩:=eu (w5.heap.size);obtain⟨w6,oN⟩:=eu (w5.alloc (.cells #[.slice none 0 0] 31));have aQ:Below w5.heap.size w5 w6:=oN▸dZ w5 _;have hbx:w6.heap[bt]?=some (.cells #[.slice none 0 0] 31 (0,0)):=Jv
    have hbT:=eD bA aQ;have hlo:w1.heap.size<=bt:=by rw[<-hbt];exact bA.size
    have htT:=(htl.low qI.size).below aQ;have hoT:=eZ (vg hto qI.size) aQ;go_simp;try rw[oN]
    try rw[hbt]
    refine hK.out _ _ lh (λ_=>?_);clear hK K;try simp only[Act.put,fG,fB,fC]
    refine mY 32 λK hK=>?_
    exact ZR
   ·obtain⟨bt,hbt⟩:=eu (w4.heap.size);obtain⟨w6,oN⟩:=eu (w4.alloc (.cells #[.slice none 0 0] 31));have bB:Below w4.heap.size w4 w6:=oN▸dZ w4 _;have ay:w6.heap[bt]?=some (.cells #[.slice none 0 0] 31 (0,0)):=by rw[<-oN,<-hbt];exact lz _ _
    have aa:=eD qI bB;have hlo:w1.heap.size<=bt:=by rw[<-hbt];exact qI.size
    have dn:=aP.below bB;go_simp;try rw[oN]
    try rw[hbt]
    refine hK.out _ _ (λ_=>⟨eB aa d0,eB aa d1,eB aa d7,eB aa d3⟩) (λhH2=>?_);clear hK K;replace hH:=hH2 dV;clear hH2;try simp only[Act.put,fG,fB,fC]
    refine mY 25 λK hK=>?_
    go_simp;refine(af.out w6 aa uu dn).mono ?_;rintro e w5 ⟨uv,dv,rfl,aG,-,hb5,htl,hto⟩;obtain⟨ua,un,uc,rfl⟩:=vG aG;have hbT:=eD aa hb5;have hbx:=(hb5.block bt (gK ay)).trans ay;have htT:=htl.low aa.size;have hoT:=vg hto aa.size;refine hK.out _ _ lh (λ_=>?_);clear hK K;try simp only[Act.put,fG,fB,fC]
    exact aaF
  ·obtain⟨bt,hbt⟩:=eu (w1.heap.size);obtain⟨w6,oN⟩:=eu (w1.drew.alloc (.cells #[.slice none 0 0] 31));have aa:Below w1.heap.size w1 w6:=oN▸eD (fD _ w1).drew (dZ w1.drew _);have ay:w6.heap[bt]?=some (.cells #[.slice none 0 0] 31 (0,0)):=by rw[<-oN,<-hbt];exact lz _ _
   have hlo:w1.heap.size<=bt:=Qe
   go_simp;try rw[oN]
   try rw[show(w1.alloc (.cells #[.slice none 0 0] 31)).drew=w6 from oN]
   try rw[hbt]
   refine hK.out _ _ (λ_=>⟨eB aa d0,eB aa d1,eB aa d7,eB aa d3⟩) (λhH2=>?_);clear hK K;replace hH:=hH2 dV;clear hH2;try simp only[Act.put,fG,fB,fC]
   refine mY 13 λK hK=>?_
   go_simp;refine(mE.out w6).mono ?_;rintro e w4 ⟨uu,rfl,aP,-,hb4⟩;have qI:=eD aa hb4;have bC:=(hb4.block bt (gK ay)).trans ay;clear hb4;refine hK.out _ _ (λ_=>⟨eB qI d0,eB qI d1,eB qI d7,eB qI d3⟩) (λhH2=>?_);clear hK K;replace hH:=hH2 dV;clear hH2;try simp only[Act.put,fG,fB,fC]
   refine mY 25 λK hK=>?_
   go_simp;refine(af.out w4 qI uu aP).mono ?_;rintro e w5 ⟨uv,dv,rfl,aG,-,hb5,htl,hto⟩;obtain⟨ua,un,uc,rfl⟩:=vG aG;have hbT:=eD qI hb5;have hbx:=(hb5.block bt (gK bC)).trans bC;have htT:=htl.low qI.size;have hoT:=vg hto qI.size;refine hK.out _ _ lh (λ_=>?_);clear hK K;try simp only[Act.put,fG,fB,fC]
   exact aaF
end
section
open Go.RowKit
open Sq
open Ar
theorem Tr.reach{t:List Nd}(h:Tr t)(k:Nat)(z:Int):Tr (Pr.reach t k z):=by
 refine⟨λi x hi hx=>?_,λx hx=>?_⟩
 ·obtain⟨y,g1,g2,_⟩:=sM _ _ _ _ i x hx;have:=h.up i y hi g1;omega
 ·rw[Pr.uD];obtain⟨i,hi⟩:=jy hx;obtain⟨y,g1,_,g3⟩:=sM _ _ _ _ i x hi;rw[g3];exact h.kb y (gW g1)
theorem agk(w0 w:World)(rb:Nat)(c:Ctx)(q:Pr.QS)(lv:Value)(R:Nat->Prop)(k z:Nat)(hS:fF w0 w rb c q lv R)(hk:k<q.s.t.length):
 Calls prog 62 #[RP rb,.int .i64 k,.int .i64 z] w (nW w0 w rb c lv R (.tuple #[]) {q with s:=⟨Pr.reach q.s.t k z,q.s.d⟩}):=by
 obtain⟨nv,dv,L,hM,hL,hTr,rfl⟩:=hS;have hLn:L.length=q.s.t.length:=yR
 refine(abr w0 w rb c nv dv lv q.row q.en L q.s.d q.st.reverse k z hM dS (by rw[hL];exact hTr.up)).mono ?_;rintro e w' ⟨rfl,L',h1,h2,h3⟩;rw[hL]at h2;exact⟨rfl,_,⟨nv,dv,L',h1,h2,hTr.reach k z,rfl⟩,h3⟩
theorem FQ(t:List Nd)(z:Nat)(D:Pr.Lv):∀pre:List Pr.Lv,Pr.zA t z (pre++[D])=Pr.reach t D.node z
 |[]=>rfl
 |[a]=>rfl
 |a::b::r=>FQ t z D (b::r)
theorem wY(l:List Tk)(i:Nat)(hi:i<=l.length):i<=Ps.limit l i/\Ps.limit l i<=l.length:=by
 unfold Ps.limit;exact⟨(Rt _ _ _).1,by have:=Fl.lq (λj=>Fl.raw l j !=20&&Fl.raw l j !=21) (l.length-i) i;omega⟩
theorem Wy(w0 w:World)(rb:Nat)(c:Ctx)(q:Pr.QS)(lv:Value)(R:Nat->Prop)(r:Rw.R)(hS:fF w0 w rb c q lv R)(hok:Pr.pP q)(ae:oV c.l)(h1:r.from'<r.bu)(h2:r.bu<=c.l.length)(hdp:c.depth<=50)(hn:q.s.t.length<=600000000000)(hd:q.s.d.length<=600000000000)(hrt:∀r∈c.rs,r.bu<=c.l.length)
 (hsk:Fl.raw c.l r.from'=20->Pr.skip c.rs q.row (Fl.gP c.l (Ps.limit c.l (r.from'+1)) c.depth 0 (r.from'+1) ⟨fU c.l.length,[]⟩).2.1<c.rs.length):
 Calls prog 39 #[RP rb,Vj r] w (tV w0 w rb c R (.tuple #[]) (Pr.mark c.l c.rs c.depth q r)):=by
 obtain⟨kd,F,T,eT⟩:=r;dsimp only at h1 h2 hsk;obtain⟨Q,hQ⟩:=eu (tV w0 w rb c R (.tuple #[]) (Pr.mark c.l c.rs c.depth q ⟨kd,F,T,eT⟩));rw[hQ];unfold Pr.mark at hQ;dsimp only at hQ;obtain⟨wb,hwb⟩:=eu (w.alloc (.cells #[.int .i64 (kd:Int),.int .i64 (F:Int),.int .i64 (T:Int),.int .i64 eT] 61));obtain⟨bx,hbx⟩:=eu (w.heap.size);have hbw:Below w.heap.size w wb:=hwb▸dZ w _;have kb:wb.heap[bx]?=some (.cells #[.int .i64 (kd:Int),.int .i64 (F:Int),.int .i64 (T:Int),.int .i64 eT] 61 (0,0)):=Qb
 have hSb:=hS.below hbw;have hls:=hS.tok.2.2;have hSd:=λn=>hSb.below (mF (fD _ wb) n)
 have af:=wY c.l (F+1) dS;have aH:=λn=>abq rb c.tv c.l (F+1) (wb.drewN n) (hSd n).tok.1 (hSd n).tok.2.1 dS hls
 obtain⟨EN,aP⟩:=eu (Ps.limit c.l (F+1));rw[aP]at aH hsk af;rw[show Pr.kQ c.l (F+1)=EN from aP]at hQ;obtain⟨q1,hq1⟩:∃q1:Pr.QS,{q with en:=EN}=q1:=⟨_,rfl⟩
 have aI:=λn=>(hSd n).ahr EN
 rw[hq1]at aI;obtain⟨tx,htx⟩:∃tx,c.l[F]?=some tx:=⟨_,fu dS⟩
 have hraw:=Fl.uU htx;obtain⟨KK,aJ⟩:=eu (tx.1);rw[aJ]at hraw;rw[hraw]at hQ hsk;obtain⟨ta,tc,aQ⟩:=hS.ctx.toks.shape;obtain⟨NT,aR⟩:=eu (c.l.length);have aB:∀W R',fF w0 W rb c q1 lv R'->W.cell? ⟨rb,1,none⟩=some (.slice ta NT tc)/\∃b off,ta=some ⟨b,off,none⟩/\W.cell? ⟨b,off+F*3,none⟩=some (.int .i64 (KK:Int)):=λW R' hW=>by
  have ht:=hW.tok;rw[aQ]at ht;obtain⟨b,off,e,c0,_⟩:=iY ht.2.1 F tx htx;rw[aJ]at c0;exact⟨by rw[<-aR];exact ht.1,b,off,e,c0⟩
 have aS:=dY aB;have x1:wb.cell? ⟨bx,1,none⟩=some (.int .i64 (F:Int)):=fq kb 1;obtain⟨aT,az,aj,aU,aV,tO⟩:=kG aI hSd aH kb hwb hbx;have aW:FP w wb rb R R:=FP.below hbw;obtain⟨aX,xn⟩:=fw aW hQ;have bD:F<=100000:=dS
 have bE:(F:Int)<(NT:Int):=dS
 have HA:=dY (And.intro hq1 (And.intro hok (And.intro ae (And.intro h2 (And.intro hdp (And.intro hn (And.intro hd (And.intro hrt (And.intro hsk (And.intro af h1))))))))));clear hq1 hok ae h1 h2 hdp hn hd hrt hsk af hbw kb hS hSb hls hSd aH aI htx hraw aJ aQ aR aB hwb hbx aW hQ
 go_enter func39,ntmps39
 go_upto_region 1 with fail
 rw[aV.out,tO.out];clear aV tO
 go_big_quiet (fail)
 have d7:(wb.drewN nq).cell? ⟨rb,7,none⟩=some (.int .i64 (q.en:Int)):=by
  obtain⟨nv,dv,L,hM,_⟩:=az.out nq;exact bx7 hM.box
 have f7:(wb.drewN nq).frozen? ⟨rb,7,none⟩=false:=(az.out nq).lev.2.2.1 7;obtain⟨hS2,hF2⟩:=aT.out nq;have aj:=dY (aj.out nq);have aK:(wb.drewN nq).heap[bx]?=_:=aU.out;have ak:=az.out nq;have hFn:FP wb (wb.drewN nq) rb R R:=FP.below (mF (fD _ wb) nq);obtain⟨w1,hw1⟩:=eu (wb.drewN nq);rw[hw1]at d7 f7 hS2 hF2 aj aK ak hFn⊢;have aL:=ak.boxed hF2 aK dU dU dU dU dU;obtain⟨w2,hw2⟩:=eu (w1.setCell ⟨rb,7,none⟩ (.int .i64 (EN:Int)));rw[hw2]at hS2 hF2 aL;obtain⟨t1,b,off,e,t0⟩:=aS.out w2 R hS2;subst e;have aC:FP w w2 rb R R:=aX.out.trans (hFn.trans hF2);obtain⟨HW2,HS2,qj,ag⟩:=oK hw2 hS2 aL aC;clear hS2 hF2 aK ak hFn aL hw2 hw1 aC aT az aU aX aS x1;by_cases hk:KK=20
 ·have g20:((KK:Int)==20)=true:=by simp[hk]
  obtain⟨hq1,hok,ae,h2,hdp,hn,hd,hrt,hsk,af,h1⟩:=HA.out;have hQ:=xn.out;rw[dX hk]at hQ;obtain⟨R3,jV,ku⟩:=HS2.out.ahl;have ha:=HS2.out.c8;obtain⟨a8,k8,-,c8,f8⟩:=ha;have f8:=f8 8;obtain⟨w3,hw3⟩:=eu (w2.setCell ⟨rb,8,none⟩ (.slice none 0 0));rw[hw3]at jV ku;obtain⟨q3,hq3⟩:∃q3:Pr.QS,{q1 with st:=[]}=q3:=⟨_,rfl⟩
  rw[hq3]at jV;have aa:({q with en:=EN,st:=[]}:Pr.QS)=q3:=by rw[<-hq3,<-hq1]
  rw[aa]at hQ;have av:Pr.pP q3:=by rw[<-aa];exact⟨hok.pos,λv hv=>by cases hv⟩
  have aM:=EU w0 w3 rb c q3 _ R3 F jV av.pos (by rw[<-aa];show q.s.t.length<=_;omega) dS;obtain⟨o1,o2,o3,o4,-⟩:=Pr.mr av F;have ax:(Pr.fA q3 F).st=[⟨2,q3.s.t.length,-1,q3.s.t.length,false⟩]:=by rw[<-aa];rfl
  have hrow4:(Pr.fA q3 F).row=q.row:=by rw[<-aa];rfl
  have ah:(Pr.fA q3 F).en=EN:=by rw[<-aa];rfl
  have aY:q3.s.t.length=q.s.t.length:=by rw[<-aa]
  have aD:q3.s.d=q.s.d:=by rw[<-aa]
  obtain⟨q4,hq4⟩:=eu (Pr.fA q3 F);rw[hq4]at hQ aM o1 o2 o3 o4 ax hrow4 ah;have hRv:=λW lv' R' (hW:fF w0 W rb c q4 lv' R')=>FO w0 W rb c q4 lv' R' _ _ (F+1) hW ax o1 ae (by rw[ah];exact af.1) (by rw[ah];exact af.2) (fP _) hdp dS (by rw[o4,aD];omega) hrt (by rw[ah,hrow4];exact hsk hk)
  obtain⟨aZ,aA,bf,HQ,HW3⟩:=vV aM hRv (ag.out.trans ku) hQ hw3;clear hq1 hok ae h2 hdp hn hd hrt hsk af h1 hQ jV ku hw3 hq3 aa av aM o1 o2 o3 o4 ax hrow4 ah aY aD hq4 hRv HA xn qj HS2 ag hk;go_wp2_with fail
  refine aj.out.mono ?_;rintro e wz ⟨rfl,rfl⟩;go_upto_region 3 with fail
  rw[HW2.out];clear HW2 d7 f7;go_upto_region 5 with fail
  rw[HW3.out];clear HW3 c8 f8;go_wp2_with fail
  refine aZ.out.mono ?_;rintro e w4 ⟨rfl,bB,R4,rU,vS⟩;obtain⟨aA,bg⟩:=fw (aA.out w4 bB R4 rU) (bf.out.trans vS);clear rU vS bf aZ;go_wp2_with fail
  refine aA.out.mono ?_;rintro e w5 ⟨rfl,R5,hS5,I6⟩;have HD:=dY (show Q (.returned (.tuple #[])) w5 by rw[<-HQ.out];exact⟨rfl,_,R5,hS5,bg.out.trans I6⟩);clear hS5 I6 bg aA;go_wp2_with fail
  exact sP
 ·have g20:((KK:Int)==20)=false:=by simp;omega
  obtain⟨hq1,hok,ae,h2,hdp,hn,hd,hrt,hsk,af,h1⟩:=HA.out;have hQ:=xn.out;rw[dW hk]at hQ;have hpos:=hok.pos;rcases List.eq_nil_or_concat q.st with hst|⟨pre,D,hst⟩
  ·rw[hst]at hQ;have ay:=Bj w0 w2 rb c q1 lv R 0 8 (F+1) T HS2.out (by rw[<-hq1];exact hpos) dS h2 (by rw[<-hq1];show q.s.t.length<=_;omega) (by rw[<-hq1];show q.s.d.length<=_;omega)
   have yM:=dY (ay.mono (λe w' h=>show e=.returned (.tuple #[])/\Q (.returned (.tuple #[])) w' from by
    obtain⟨rfl,R5,h5,h6⟩:=h;refine⟨rfl,?_⟩;rw[<-hQ];refine⟨rfl,lv,R5,?_,ag.out.trans h6⟩;rw[<-hq1]at h5;have e:(⟨Pr.fault c.l q.s 0 8 (F+1) T,q.row,EN,q.st⟩:Pr.QS)=⟨Pr.fault c.l ⟨Pr.zA q.s.t (F+1) [],q.s.d⟩ 0 8 (F+1) T,q.row,EN,[]⟩:=by
     rw[hst]
     first|done|rfl
    have h5:fF w0 w' rb c (⟨Pr.fault c.l q.s 0 8 (F+1) T,q.row,EN,q.st⟩:Pr.QS) lv R5:=h5;rw[e]at h5
    exact h5))
   obtain⟨a8,k8,-,c8,-⟩:=HS2.out.c8;rw[show q1.st.length=0 by rw[<-hq1];show q.st.length=0;rw[hst];rfl]at c8;have y2:w2.cell? ⟨bx,2,none⟩=some (.int .i64 (T:Int)):=(fq qj.out 2).trans rfl;clear hq1 hok ae h2 hdp hn hd hrt hsk af h1 hQ hpos hst ay HA xn qj HS2 ag hk;go_wp2_with fail
   refine aj.out.mono ?_;rintro e wz ⟨rfl,rfl⟩;go_upto_region 3 with fail
   rw[HW2.out];clear HW2 d7 f7;go_wp2_with fail
   exact aaR
  ·rw[List.concat_eq_append]at hst;rw[hst,FQ]at hQ;have hDn:=(hok.lv D yS).1;have ai:q1.st=pre++D::[]:=by rw[<-hq1];exact hst
   have hRe:=agk w0 w2 rb c q1 lv R D.node (F+1) HS2.out (by rw[<-hq1];exact hDn);obtain⟨gl,cap,hlv,-,-,-,-⟩:=jf (E:=qK) HS2.out.lev.1 (by rw[ai];simp);have c8:=HS2.out.lev.2.1;subst hlv;have v1:w2.cell? ⟨gl,1,none⟩=some (.int .i64 (D.node:Int)):=HS2.out.Mj ai 1 _ rfl;obtain⟨SL,aN⟩:=eu (q1.st.reverse.length);have bn:0<SL:=by rw[<-aN,IV,ai];simp
   rw[aN]at c8;have bF:(0:Int)<(SL:Int):=dS
   have aF:=λW lv' R' (hW:fF w0 W rb c {q1 with s:=⟨Pr.reach q1.s.t D.node ((F+1:Nat):Int),q1.s.d⟩} lv' R')=>hW.ahl
   have ay:=λW lv' R' (hW:fF w0 W rb c {({q1 with s:=⟨Pr.reach q1.s.t D.node ((F+1:Nat):Int),q1.s.d⟩}:Pr.QS)with st:=[]} lv' R')=>Bj w0 W rb c _ lv' R' 0 8 (F+1) T hW (by show 0<(Pr.reach q1.s.t _ _).length;rw[Pr.uD,<-hq1];exact hpos) dS h2 (by show(Pr.reach q1.s.t _ _).length<=_;rw[Pr.uD,<-hq1];show q.s.t.length<=_;omega) (by rw[<-hq1];show q.s.d.length<=_;omega)
   obtain⟨bq,aG⟩:=fw hRe aF
   have yM:=dY (λW lv' R' hW hF=>(ay W lv' R' hW).mono (λe w' h=>show e=.returned (.tuple #[])/\Q (.returned (.tuple #[])) w' from by
    obtain⟨rfl,R5,h5,h6⟩:=h;refine⟨rfl,?_⟩;rw[<-hQ];refine⟨rfl,lv',R5,?_,FP.trans (a:=w) (b:=W) (R':=R') hF h6⟩;rw[<-hq1]at h5
    exact h5))
   have bC:=dY v1;clear hq1 hok ae h2 hdp hn hd hrt hsk af h1 hQ hpos hst ay HA xn hk hDn ai hRe aN bn aF v1;go_wp2_with fail
   refine aj.out.mono ?_;rintro e wz ⟨rfl,rfl⟩;have v1:=bC.out;go_upto_region 3 with fail
   rw[HW2.out];clear HW2 d7 f7;go_wp2_with fail
   refine bq.out.mono ?_;rintro e w3 ⟨rfl,R3,jV,ku⟩;obtain⟨R4,rU,vS⟩:=aG.out w3 _ R3 jV;obtain⟨a9,k9,-,c9,f9⟩:=jV.c8;have f9:=f9 8;have bz:=HS2.out.boxed ku qj.out dU dU dU dU dU;have aO:=jV.boxed vS bz dU dU dU dU dU;obtain⟨w4,hw4⟩:=eu (w3.setCell ⟨rb,8,none⟩ (.slice none 0 0));rw[hw4]at rU vS aO;have y2:w4.cell? ⟨bx,2,none⟩=some (.int .i64 (T:Int)):=(fq aO 2).trans rfl;have yM:=dY (yM.out w4 _ R4 rU (ag.out.trans (ku.trans vS)));have bA:=dY hw4;clear jV ku rU vS bz aO hw4 aG bq ag HS2 qj c8 v1 t1 t0;go_upto_region 10 with fail
   rw[bA.out];clear bA c9 f9;go_wp2_with fail
   exact aaR
end
end Go.Proofs.YtmkkdjpebbdikaaGreatDoor

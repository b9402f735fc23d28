import Derived.Test.YtmkkdjpebbdikaaGreatDoorZn15
import Derived.Test.YtmkkdjpebbdikaaGreatDoorZn16
set_option linter.all false
set_option maxHeartbeats 16000000
set_option maxRecDepth 100000
namespace Go.Proofs.YtmkkdjpebbdikaaGreatDoor
open Go.RowKit Go.Proofs.Tryz
section
open Go.RowKit
open Sq
open Ar
def nz(x:Pr.Lv):List Value:=[.int .i64 x.kind,.int .i64 x.node,.int .i64 x.fG,.int .i64 x.cur,.bool x.full]
def pg:mr Pr.Lv:=⟨nz,5,by decide,λ_=>rfl,λx u hu=>by
 cases hu with
 |head=>rfl
 |tail _ hu=>cases hu with
  |head=>rfl
  |tail _ hu=>cases hu with
   |head=>rfl
   |tail _ hu=>cases hu with
    |head=>rfl
    |tail _ hu=>cases hu with
     |head=>rfl
     |tail _ hu=>cases hu⟩
theorem Zf:Ty prog pg 56 91 40:=Ty.of (z:=.agg #[.int .i64 0,.int .i64 0,.int .i64 0,.int .i64 0,.bool false]) underlying56 (by kernel_rfl) (by kernel_rfl) rfl (λw=>by kernel_rfl)
structure Ctx where
 b:ByteArray
 l:List Tk
 rs:List Rw.R
 depth:Nat
 bv:Value
 tv:Value
 rv:Value
structure Fa(c:Ctx)(w:World):Prop where
 text:xF w c.bv c.b
 toks:Reads iU w c.tv c.l
 rows:Reads encR w c.rv c.rs
 size:c.l.length<=32768
 Zc:c.rs.length<=32768
def jR(nv dv lv:Value)(L:List Ln)(g:Nat):Prop:=nv.ownBlock=some g\/dv.ownBlock=some g\/lv.ownBlock=some g\/∃p∈L,p.val.ownBlock=some g
abbrev jN(c:Ctx)(nv dv lv:Value)(row en:Nat):Array Value:=#[c.bv,c.tv,c.rv,.int .i64 (c.depth:Int),nv,dv,.int .i64 (row:Int),.int .i64 (en:Int),lv]
theorem bx0{w:World}{rb:Nat}{c:Ctx}{nv dv lv:Value}{row en:Nat}{T:TypeId}{fr:Nat×Nat}(h:w.heap[rb]?=some (.cells (jN c nv dv lv row en) T fr)):w.cell? ⟨rb,0,none⟩=some (c.bv):=(gG h 0).trans rfl
theorem bx1{w:World}{rb:Nat}{c:Ctx}{nv dv lv:Value}{row en:Nat}{T:TypeId}{fr:Nat×Nat}(h:w.heap[rb]?=some (.cells (jN c nv dv lv row en) T fr)):w.cell? ⟨rb,1,none⟩=some (c.tv):=(gG h 1).trans rfl
theorem Yx{w:World}{rb:Nat}{c:Ctx}{nv dv lv:Value}{row en:Nat}{T:TypeId}{fr:Nat×Nat}(h:w.heap[rb]?=some (.cells (jN c nv dv lv row en) T fr)):w.cell? ⟨rb,2,none⟩=some (c.rv):=(gG h 2).trans rfl
theorem Xp{w:World}{rb:Nat}{c:Ctx}{nv dv lv:Value}{row en:Nat}{T:TypeId}{fr:Nat×Nat}(h:w.heap[rb]?=some (.cells (jN c nv dv lv row en) T fr)):w.cell? ⟨rb,3,none⟩=some (.int .i64 (c.depth:Int)):=(gG h 3).trans rfl
theorem Dk{w:World}{rb:Nat}{c:Ctx}{nv dv lv:Value}{row en:Nat}{T:TypeId}{fr:Nat×Nat}(h:w.heap[rb]?=some (.cells (jN c nv dv lv row en) T fr)):w.cell? ⟨rb,4,none⟩=some (nv):=(gG h 4).trans rfl
theorem MR{w:World}{rb:Nat}{c:Ctx}{nv dv lv:Value}{row en:Nat}{T:TypeId}{fr:Nat×Nat}(h:w.heap[rb]?=some (.cells (jN c nv dv lv row en) T fr)):w.cell? ⟨rb,5,none⟩=some (dv):=(gG h 5).trans rfl
theorem Q7{w:World}{rb:Nat}{c:Ctx}{nv dv lv:Value}{row en:Nat}{T:TypeId}{fr:Nat×Nat}(h:w.heap[rb]?=some (.cells (jN c nv dv lv row en) T fr)):w.cell? ⟨rb,6,none⟩=some (.int .i64 (row:Int)):=(gG h 6).trans rfl
theorem YF{w:World}{rb:Nat}{c:Ctx}{nv dv lv:Value}{row en:Nat}{T:TypeId}{fr:Nat×Nat}(h:w.heap[rb]?=some (.cells (jN c nv dv lv row en) T fr)):w.cell? ⟨rb,7,none⟩=some (.int .i64 (en:Int)):=(gG h 7).trans rfl
theorem Yy{w:World}{rb:Nat}{c:Ctx}{nv dv lv:Value}{row en:Nat}{T:TypeId}{fr:Nat×Nat}(h:w.heap[rb]?=some (.cells (jN c nv dv lv row en) T fr)):w.cell? ⟨rb,8,none⟩=some (lv):=(gG h 8).trans rfl
structure PM(w0 w:World)(rb:Nat)(c:Ctx)(nv dv lv:Value)(row en:Nat)(L:List Ln)(D:List Fl.Dg)(V:List Pr.Lv):Prop where
 lu:Below w0.heap.size w0 w
 ctx:Fa c w0
 low:w0.heap.size<=rb
 box:w.heap[rb]?=some (.cells (jN c nv dv lv row en) 58 (0,0))
 nodes:OT w w0.heap.size nv L
 told:w.ownsRow w0.heap.size 40 3 dv D.length (ib.all D)
 levels:w.ownsRow w0.heap.size 91 5 lv V.length (pg.all V)
section
variable {w0 w w':World}{rb:Nat}{c:Ctx}{nv dv lv:Value}{row en:Nat}{L:List Ln}{D:List Fl.Dg}{V:List Pr.Lv}
theorem PM.lt(h:PM w0 w rb c nv dv lv row en L D V):rb<w.heap.size:=il h.box
theorem PM.cell(h:PM w0 w rb c nv dv lv row en L D V)(i:Nat)(u:Value)(hu:(jN c nv dv lv row en)[i]?=some u):w.cell? ⟨rb,i,none⟩=some u:=(gG h.box i).trans hu
theorem PM.free(h:PM w0 w rb c nv dv lv row en L D V)(o:Nat):w.frozen? ⟨rb,o,none⟩=false:=nH h.box o
theorem PM.size(h:PM w0 w rb c nv dv lv row en L D V):w0.heap.size<=w.heap.size:=h.lu.size
theorem PM.rows(h:PM w0 w rb c nv dv lv row en L D V){g:Nat}(hg:jR nv dv lv L g):w0.heap.size<=g/\g<w.heap.size/\g≠rb:=by
 rcases hg with hg|hg|hg|⟨p,hp,hg⟩
 ·exact⟨(h.nodes.row.lt g hg).1,(h.nodes.row.lt g hg).2,λe=>fF h.nodes.row h.box (by decide) (e▸hg)⟩
 ·exact⟨(h.told.lt g hg).1,(h.told.lt g hg).2,λe=>fF h.told h.box (by decide) (e▸hg)⟩
 ·exact⟨(h.levels.lt g hg).1,(h.levels.lt g hg).2,λe=>fF h.levels h.box (by decide) (e▸hg)⟩
 obtain⟨i,hi⟩:=lh hp;have hk:=h.nodes.kids i p hi;exact⟨(hk.lt g hg).1,(hk.lt g hg).2,λe=>fF hk h.box (by decide) (e▸hg)⟩
theorem PM.off(h:PM w0 w rb c nv dv lv row en L D V){k:Nat}{C:Array Value}{T:TypeId}{fr:Nat×Nat}(hb:w.heap[k]?=some (.cells C T fr))(h1:3≠T)(h2:38≠T)(h3:40≠T)(h4:91≠T):¬jR nv dv lv L k:=λhg=>by
 rcases hg with hg|hg|hg|⟨p,hp,hg⟩
 ·exact fF h.nodes.row hb h2 hg
 ·exact fF h.told hb h3 hg
 ·exact fF h.levels hb h4 hg
 obtain⟨i,hi⟩:=lh hp;exact fF (h.nodes.kids i p hi) hb h1 hg
theorem OT.same{B:Nat}{v:Value}(h:OT w B v L)(hk:∀g,(v.ownBlock=some g\/∃p∈L,p.val.ownBlock=some g)->w'.heap[g]?=w.heap[g]?):OT w' B v L:=
 ⟨fU h.row (λg hg=>hk g (.inl hg)),λi p hp=>fU (h.kids i p hp) (λg hg=>hk g (.inr ⟨p,iK hp,hg⟩)),h.apart⟩
theorem PM.keep(h:PM w0 w rb c nv dv lv row en L D V)(hb:Below w0.heap.size w0 w')(hk:∀g,g=rb\/jR nv dv lv L g->w'.heap[g]?=w.heap[g]?):PM w0 w' rb c nv dv lv row en L D V:=
 ⟨hb,h.ctx,h.low,(hk rb (.inl rfl)).trans h.box,h.nodes.same (λg hg=>hk g (.inr (hg.elim .inl (λx=>.inr (.inr (.inr x)))))),
  fU h.told (λg hg=>hk g (.inr (.inr (.inl hg)))),fU h.levels (λg hg=>hk g (.inr (.inr (.inr (.inl hg)))))⟩
theorem PM.below(h:PM w0 w rb c nv dv lv row en L D V)(hb:Below w.heap.size w w'):PM w0 w' rb c nv dv lv row en L D V:=
 h.keep (h.lu.trans (hb.mono h.lu.size)) (λg hg=>hb.block g (hg.elim (λe=>e▸h.lt) (λh2=>(h.rows h2).2.1)))
theorem PM.store(h:PM w0 w rb c nv dv lv row en L D V){b:Nat}(h0:w0.heap.size<=b)(hr:b≠rb)(hn:¬jR nv dv lv L b)(o:Nat)(u:Value):PM w0 (w.setCell ⟨b,o,none⟩ u) rb c nv dv lv row en L D V:=
 h.keep (h.lu.setCell (p:=⟨b,o,none⟩) h0 u) (λg hg=>jf _ _ _ _ (λe=>hg.elim (λh2=>hr (e.symm.trans h2)) (λh2=>hn ((show g=b from e)▸h2))))
theorem PM.toCell{C:Array Value}{i:Nat}{u:Value}(hb:Below w0.heap.size w0 w')(hc:Fa c w0)(hlow:w0.heap.size<=rb)(hx:w'.heap[rb]?=some (.cells C 58 (0,0)))(hC:C.setIfInBounds i u=jN c nv dv lv row en)
 (hO:OT w' w0.heap.size nv L) (hT:w'.ownsRow w0.heap.size 40 3 dv D.length (ib.all D)) (hL:w'.ownsRow w0.heap.size 91 5 lv V.length (pg.all V)):
 PM w0 (w'.setCell ⟨rb,i,none⟩ u) rb c nv dv lv row en L D V:=by
 have st:∀g,g≠rb->(w'.setCell ⟨rb,i,none⟩ u).heap[g]?=w'.heap[g]?:=λg hg=>jf _ _ _ _ hg
 refine⟨hb.setCell (p:=⟨rb,i,none⟩) hlow _,hc,hlow,?_,hO.same (λg hg=>st g (λe=>?_)),fU hT (λg hg=>st g (λe=>fF hT hx (by decide) (e▸hg))),fU hL (λg hg=>st g (λe=>fF hL hx (by decide) (e▸hg)))⟩
 ·rw[<-hC];exact qb hx u
 rcases hg with hg|⟨p,hp,hg⟩
 ·exact fF hO.row hx (by decide) (e▸hg)
 obtain⟨j,hj⟩:=lh hp;exact fF (hO.kids j p hj) hx (by decide) (e▸hg)
theorem mF{B e s n:Nat}{v x:Value}{xs:List Value}{wq w6:World}(h:w.ownsRow B e s v n xs)(hq:Below w.heap.size w wq)(hg:wq.grownBy w6 x.ownBlock)(hne:∀g,v.ownBlock=some g->x.ownBlock≠some g):w6.ownsRow B e s v n xs:=
 fU h (λg hgv=>(hg.block g (wC (h.lt g hgv).2 hq.size) (λe=>hne g hgv e.symm)).trans (hq.block g (h.lt g hgv).2))
theorem OT.over{B:Nat}{v x:Value}{wq w6:World}(h:OT w B v L)(hq:Below w.heap.size w wq)(hg:wq.grownBy w6 x.ownBlock)(hne:∀g,(v.ownBlock=some g\/∃p∈L,p.val.ownBlock=some g)->x.ownBlock≠some g):OT w6 B v L:=
 ⟨mF h.row hq hg (λg e=>hne g (.inl e)),λi p hp=>mF (h.kids i p hp) hq hg (λg e=>hne g (.inr ⟨p,iK hp,e⟩)),h.apart⟩
end
structure Tr(t:List Nd):Prop where
 up:∀(i:Nat)(x:Nd),0<i->t[i]?=some x->0<=x.u/\x.u<i
 kb:∀x∈t,x.ks.length<=t.length
def fV(w0 w:World)(rb:Nat)(c:Ctx)(q:Pr.QS)(lv:Value)(R:Nat->Prop):Prop:=
 ∃nv dv L,PM w0 w rb c nv dv lv q.row q.en L q.s.d q.st.reverse/\L.map Ln.nd=q.s.t/\Tr q.s.t/\R=jR nv dv lv L
section
variable {w0 w w':World}{rb:Nat}{c:Ctx}{q:Pr.QS}{lv:Value}{R:Nat->Prop}
theorem fV.below(h:fV w0 w rb c q lv R)(hb:Below w.heap.size w w'):fV w0 w' rb c q lv R:=by
 obtain⟨nv,dv,L,h1,h2⟩:=h;exact⟨nv,dv,L,h1.below hb,h2⟩
theorem fV.lu(h:fV w0 w rb c q lv R):Below w0.heap.size w0 w:=by
 obtain⟨nv,dv,L,h1,h2⟩:=h;exact h1.lu
theorem fV.lt(h:fV w0 w rb c q lv R):w0.heap.size<=rb/\rb<w.heap.size:=by
 obtain⟨nv,dv,L,h1,h2⟩:=h;exact⟨h1.low,h1.lt⟩
theorem fV.ctx(h:fV w0 w rb c q lv R):Fa c w0:=by
 obtain⟨nv,dv,L,h1,h2⟩:=h;exact h1.ctx
theorem fV.rows(h:fV w0 w rb c q lv R){g:Nat}(hg:R g):w0.heap.size<=g/\g<w.heap.size/\g≠rb:=by
 obtain⟨nv,dv,L,h1,h2,h3,rfl⟩:=h;exact h1.rows hg
theorem fV.off(h:fV w0 w rb c q lv R){k:Nat}{C:Array Value}{T:TypeId}{fr:Nat×Nat}(hb:w.heap[k]?=some (.cells C T fr))(h1:3≠T)(h2:38≠T)(h3:40≠T)(h4:91≠T):¬R k:=by
 obtain⟨nv,dv,L,g1,g2,g3,rfl⟩:=h;exact g1.off hb h1 h2 h3 h4
theorem fV.tok(h:fV w0 w rb c q lv R):w.cell? ⟨rb,1,none⟩=some c.tv/\Reads iU w c.tv c.l/\c.l.length<=100000:=by
 obtain⟨nv,dv,L,h1,h2⟩:=h;exact⟨h1.cell 1 _ rfl,h1.ctx.toks.below h1.lu,by have:=h1.ctx.size;omega⟩
end
def ng(w0 w:World)(rb:Nat)(c:Ctx)(lv:Value)(R:Nat->Prop)(v:Value)(q:Pr.QS)(e:Ending)(w':World):Prop:=
 e=.returned v/\∃R',fV w0 w' rb c q lv R'/\FP w w' rb R R'
def qM(w0 w:World)(rb:Nat)(c:Ctx)(R:Nat->Prop)(v:Value)(q:Pr.QS)(e:Ending)(w':World):Prop:=
 e=.returned v/\∃lv' R',fV w0 w' rb c q lv' R'/\FP w w' rb R R'
end
section
open Go.RowKit
open Sq
open Ar
section
variable {w0 w wq w6:World}{rb:Nat}{c:Ctx}{nv dv lv v6:Value}{row en:Nat}{L:List Ln}{D:List Fl.Dg}{V:List Pr.Lv}
theorem uP{x:Value}{R R':Nat->Prop}(hq:Below w.heap.size w wq)(hg:wq.grownBy w6 x.ownBlock)(hx:∀g,x.ownBlock=some g->R g)(hR:∀k,R' k->R k\/w.heap.size<=k){b:Nat}(hb:b=rb\/R b)(i:Nat)(u:Value):FP w (w6.setCell ⟨b,i,none⟩ u) rb R R':=by
 refine⟨?_,λk hk1 hk2 hn=>?_,hR⟩
 ·have h1:=hg.size;have h2:=hq.size;have h3:(w6.setCell ⟨b,i,none⟩ u).heap.size=w6.heap.size:=by simp
  omega
 have hkb:k≠b:=λe=>hb.elim (λh=>hk2 (e.trans h)) (λh=>hn (e▸h))
 rw[jf _ _ _ _ hkb,hg.block k (wC hk1 hq.size) (λe=>hn (hx k e.symm)),hq.block k hk1]
theorem zl{x:Value}{B e s n:Nat}{xs:List Value}(h:PM w0 w rb c nv dv lv row en L D V)(hx:w.ownsRow B e s x n xs)(he:e≠58)(hq:Below w.heap.size w wq)(hg:wq.grownBy w6 x.ownBlock):w6.heap[rb]?=some (.cells (jN c nv dv lv row en) 58 (0,0)):=
 ((hg.block rb (wC h.lt hq.size) (λe'=>fF hx h.box he e'.symm)).trans (hq.block rb h.lt)).trans h.box
theorem xh{x:Value}{B e s n:Nat}{xs:List Value}(h:PM w0 w rb c nv dv lv row en L D V)(hx:w.ownsRow w0.heap.size e s x n xs)(hq:Below w.heap.size w wq)(hg:wq.grownBy w6 x.ownBlock):Below w0.heap.size w0 w6:=
 (h.lu.trans (hq.mono h.size)).grown hg (jU h.size hq.size) (λg e=>(hx.lt g e).1)
theorem PM.more{xs:List Fl.Dg}(h:PM w0 w rb c nv dv lv row en L D V)(hq:Below w.heap.size w wq)(hg:wq.grownBy w6 dv.ownBlock)(hown:w6.ownsRow w0.heap.size 40 3 v6 (D++xs).length (ib.all (D++xs)))
 (hat:v6.ownBlock=dv.ownBlock\/v6.ownBlock=some wq.heap.size):
 w6.heap[rb]?=some (.cells (jN c nv dv lv row en) 58 (0,0))/\
 PM w0 (w6.setCell ⟨rb,5,none⟩ v6) rb c nv v6 lv row en L (D++xs) V/\FP w (w6.setCell ⟨rb,5,none⟩ v6) rb (jR nv dv lv L) (jR nv v6 lv L):=by
 have hb:=zl h h.told (by decide) hq hg;refine⟨hb,PM.toCell (xh (B:=w0.heap.size) h h.told hq hg) h.ctx h.low hb rfl (h.nodes.over hq hg (λg hgg e=>?_)) hown (mF h.levels hq hg (λg e1 e2=>fH h.levels h.told (by decide) g e1 e2)),uP hq hg (λg e=>.inr (.inl e)) (λk hk=>?_) (.inl rfl) 5 v6⟩
 ·rcases hgg with hgg|⟨p,hp,hgg⟩
  ·exact fH h.nodes.row h.told (by decide) g hgg e
  obtain⟨j,hj⟩:=lh hp;exact fH (h.nodes.kids j p hj) h.told (by decide) g hgg e
 rcases hk with hk|hk|hk|hk
 ·exact .inl (.inl hk)
 ·rcases hat with e|e
  ·exact .inl (.inr (.inl (e▸hk)))
  rw[e]at hk;injection hk with hk
  have:=hq.size;exact .inr (by omega)
 ·exact .inl (.inr (.inr (.inl hk)))
 exact .inl (.inr (.inr (.inr hk)))
theorem PM.Q8{xs:List Pr.Lv}(h:PM w0 w rb c nv dv lv row en L D V)(hq:Below w.heap.size w wq)(hg:wq.grownBy w6 lv.ownBlock)(hown:w6.ownsRow w0.heap.size 91 5 v6 (V++xs).length (pg.all (V++xs)))
 (hat:v6.ownBlock=lv.ownBlock\/v6.ownBlock=some wq.heap.size):
 w6.heap[rb]?=some (.cells (jN c nv dv lv row en) 58 (0,0))/\
 PM w0 (w6.setCell ⟨rb,8,none⟩ v6) rb c nv dv v6 row en L D (V++xs)/\FP w (w6.setCell ⟨rb,8,none⟩ v6) rb (jR nv dv lv L) (jR nv dv v6 L):=by
 have hb:=zl h h.levels (by decide) hq hg;refine⟨hb,PM.toCell (xh (B:=w0.heap.size) h h.levels hq hg) h.ctx h.low hb rfl (h.nodes.over hq hg (λg hgg e=>?_)) (mF h.told hq hg (λg e1 e2=>fH h.told h.levels (by decide) g e1 e2)) hown,uP hq hg (λg e=>.inr (.inr (.inl e))) (λk hk=>?_) (.inl rfl) 8 v6⟩
 ·rcases hgg with hgg|⟨p,hp,hgg⟩
  ·exact fH h.nodes.row h.levels (by decide) g hgg e
  obtain⟨j,hj⟩:=lh hp;exact fH (h.nodes.kids j p hj) h.levels (by decide) g hgg e
 rcases hk with hk|hk|hk|hk
 ·exact .inl (.inl hk)
 ·exact .inl (.inr (.inl hk))
 ·rcases hat with e|e
  ·exact .inl (.inr (.inr (.inl (e▸hk))))
  rw[e]at hk;injection hk with hk
  have:=hq.size;exact .inr (by omega)
 exact .inl (.inr (.inr (.inr hk)))
structure Own(w:World)(B:Nat)(L P:List Ln):Prop where
 kids:∀(i:Nat)(p:Ln),P[i]?=some p->w.ownsRow B 3 1 p.val p.nd.ks.length (encI.all p.nd.ks)
 apart:∀(i j:Nat)(p q:Ln),i≠j->P[i]?=some p->P[j]?=some q->∀g,p.val.ownBlock=some g->q.val.ownBlock≠some g
 off:∀p∈P,∀q∈L,∀g,p.val.ownBlock=some g->q.val.ownBlock≠some g
theorem Own.one(w:World)(B:Nat)(L:List Ln)(x:Nd)(hx:x.ks=[]):Own w B L [⟨x,none,0,0⟩]:=by
 refine⟨λi p hp=>?_,λi j p q hij hp hq=>?_,λp hp q hq g hg=>?_⟩
 ·have hp:p=⟨x,none,0,0⟩:=by simpa using iK hp
  subst hp;show World.ownsRow _ _ _ _ (.slice none 0 0) x.ks.length (encI.all x.ks);rw[hx];exact kY encI _ _
 ·have hp:p=⟨x,none,0,0⟩:=by simpa using iK hp
  subst hp;intro g hg;cases hg
 have hp:p=⟨x,none,0,0⟩:=by simpa using hp
 subst hp;cases hg
theorem PM.push{P:List Ln}(h:PM w0 w rb c nv dv lv row en L D V)(hP:Own w w0.heap.size L P)(hq:Below w.heap.size w wq)(hg:wq.grownBy w6 nv.ownBlock)(hown:w6.ownsRow w0.heap.size 38 6 v6 (L++P).length (gP.all (L++P)))
 (hat:v6.ownBlock=nv.ownBlock\/v6.ownBlock=some wq.heap.size):
 w6.heap[rb]?=some (.cells (jN c nv dv lv row en) 58 (0,0))/\
 PM w0 (w6.setCell ⟨rb,4,none⟩ v6) rb c v6 dv lv row en (L++P) D V/\FP w (w6.setCell ⟨rb,4,none⟩ v6) rb (λk=>jR nv dv lv L k\/∃p∈P,p.val.ownBlock=some k) (jR v6 dv lv (L++P)):=by
 have hb:=zl h h.nodes.row (by decide) hq hg;have key:∀(a:Nat)(q:Ln),(L++P)[a]?=some q->(a<L.length/\L[a]?=some q)\/(L.length<=a/\P[a-L.length]?=some q):=by
  intro a q hq;rcases kS a L.length with hj|hj
  ·rw[oD hj]at hq;exact .inl ⟨hj,hq⟩
  rw[oM hj]at hq;exact .inr ⟨hj,hq⟩
 have hO:OT w6 w0.heap.size v6 (L++P):=by
  refine⟨hown,λa q hq'=>?_,λa b q r hab hq' hr g aa=>?_⟩
  ·rcases key a q hq' with⟨_,h1⟩|⟨_,h1⟩
   ·exact mF (h.nodes.kids a q h1) hq hg (λg e1 e2=>fH (h.nodes.kids a q h1) h.nodes.row (by decide) g e1 e2)
   exact mF (hP.kids _ q h1) hq hg (λg e1 e2=>fH (hP.kids _ q h1) h.nodes.row (by decide) g e1 e2)
  rcases key a q hq' with⟨ha,h1⟩|⟨ha,h1⟩
  ·rcases key b r hr with⟨hb',h2⟩|⟨hb',h2⟩
   ·exact h.nodes.apart a b q r hab h1 h2 g aa
   exact λe=>hP.off r (iK h2) q (iK h1) g e aa
  rcases key b r hr with⟨hb',h2⟩|⟨hb',h2⟩
  ·exact hP.off q (iK h1) r (iK h2) g aa
  exact hP.apart _ _ q r (by omega) h1 h2 g aa
 refine⟨hb,PM.toCell (xh (B:=w0.heap.size) h h.nodes.row hq hg) h.ctx h.low hb rfl hO (mF h.told hq hg (λg e1 e2=>fH h.told h.nodes.row (by decide) g e1 e2)) (mF h.levels hq hg (λg e1 e2=>fH h.levels h.nodes.row (by decide) g e1 e2)),uP hq hg (λg e=>.inl (.inl e)) (λk hk=>?_) (.inl rfl) 4 v6⟩;rcases hk with hk|hk|hk|⟨q,hq',hk⟩
 ·rcases hat with e|e
  ·exact .inl (.inl (.inl (e▸hk)))
  rw[e]at hk;injection hk with hk
  have:=hq.size;exact .inr (by omega)
 ·exact .inl (.inl (.inr (.inl hk)))
 ·exact .inl (.inl (.inr (.inr (.inl hk))))
 rcases mU.1 hq' with hq'|hq'
 ·exact .inl (.inl (.inr (.inr (.inr ⟨q,hq',hk⟩))))
 exact .inl (.inr ⟨q,hq',hk⟩)
theorem FP.less{a b:World}{R R' K:Nat->Prop}(h:FP a b rb (λk=>R k\/K k) R')(hK:∀k,K k->R k\/a.heap.size<=k):FP a b rb R R' :=
 ⟨h.size,λk hk hr hn=>h.block k hk hr (λe=>e.elim hn (λe=>(hK k e).elim hn (λe=>absurd hk (RI.2 e)))),λk hk=>(h.rows k hk).elim (λe=>e.elim .inl (hK k)) .inr⟩
theorem PM.setNode{g n cap:Nat}(h:PM w0 w rb c (.slice (some ⟨g,0,none⟩) n cap) dv lv row en L D V)(i j:Nat)(p:Ln)(nd:Nd)(u:Value)(hp:L[i]?=some p)(hks:nd.ks=p.nd.ks)(hc:lN {p with nd:=nd}=(lN p).set j u)(hj:j<6):
 PM w0 (w.setCell ⟨g,i*6+j,none⟩ u) rb c (.slice (some ⟨g,0,none⟩) n cap) dv lv row en (L.set i {p with nd:=nd}) D V/\
 FP w (w.setCell ⟨g,i*6+j,none⟩ u) rb (jR (.slice (some ⟨g,0,none⟩) n cap) dv lv L) (jR (.slice (some ⟨g,0,none⟩) n cap) dv lv (L.set i {p with nd:=nd})):=by
 have hg:jR (.slice (some ⟨g,0,none⟩) n cap) dv lv L g:=.inl rfl;have hr:=h.rows hg;have st:∀k,k≠g->(w.setCell ⟨g,i*6+j,none⟩ u).heap[k]?=w.heap[k]?:=λk hk=>jf _ _ _ _ hk
 refine⟨⟨h.lu.setCell (p:=⟨g,i*6+j,none⟩) hr.1 u,h.ctx,h.low,(st rb (λe=>hr.2.2 e.symm)).trans h.box,h.nodes.set i j p nd u hp hks hc hj,fU h.told (λk hk=>st k (λe=>fH h.nodes.row h.told (by decide) g rfl (e▸hk))),fU h.levels (λk hk=>st k (λe=>fH h.nodes.row h.levels (by decide) g rfl (e▸hk)))⟩,
  uP (w6:=w) (fI _ _) (x:=.slice none 0 0) ⟨rfl,rfl,rfl,fB _,λ_ _ _=>rfl⟩ (λg e=>by cases e) (λk hk=>.inl ?_) (.inr hg) (i*6+j) u⟩
 rcases hk with hk|hk|hk|⟨q,hq,hk⟩
 ·exact .inl hk
 ·exact .inr (.inl hk)
 ·exact .inr (.inr (.inl hk))
 obtain⟨a,ha⟩:=lh hq;rw[nW]at ha;split at ha
 ·split at ha
  ·injection ha with ha
   subst ha;exact .inr (.inr (.inr ⟨p,iK hp,hk⟩))
  cases ha
 exact .inr (.inr (.inr ⟨q,iK ha,hk⟩))
theorem PM.kid{o:Obj}{g n cap i:Nat}{p:Ln}{a':Option Addr}{n' c':Nat}(h:PM w0 w rb c (.slice (some ⟨g,0,none⟩) n cap) dv lv row en L D V)(hp:L[i]?=some p)(z:Int)(hg:(w.alloc o).grownBy w6 p.val.ownBlock)
 (hown:w6.ownsRow w0.heap.size 3 1 (.slice a' n' c') (p.nd.ks++[z]).length (encI.all (p.nd.ks++[z]))) (hat:(Value.slice a' n' c').ownBlock=p.val.ownBlock\/(Value.slice a' n' c').ownBlock=some (w.alloc o).heap.size):
 w6.heap[rb]?=w.heap[rb]?/\w6.heap[g]?=w.heap[g]? /\
 PM w0 (w6.setCell ⟨g,i*6+4,none⟩ (.slice a' n' c')) rb c (.slice (some ⟨g,0,none⟩) n cap) dv lv row en (L.set i ⟨{p.nd with ks:=p.nd.ks++[z]},a',n',c'⟩) D V/\
 FP w (w6.setCell ⟨g,i*6+4,none⟩ (.slice a' n' c')) rb (jR (.slice (some ⟨g,0,none⟩) n cap) dv lv L) (jR (.slice (some ⟨g,0,none⟩) n cap) dv lv (L.set i ⟨{p.nd with ks:=p.nd.ks++[z]},a',n',c'⟩)):=by
 have hq:Below w.heap.size w (w.alloc o):=fo w o;have hpk:=h.nodes.kids i p hp;have hgR:jR (.slice (some ⟨g,0,none⟩) n cap) dv lv L g:=.inl rfl;have hgr:=h.rows hgR;have aa:p.val.ownBlock≠some g:=λe=>fH hpk h.nodes.row (by decide) g e rfl
 have hbx:=zl h hpk (by decide) hq hg;have b2:w6.heap[g]?=w.heap[g]?:=(hg.block g (wC hgr.2.1 hq.size) (λe=>aa e.symm)).trans (hq.block g hgr.2.1);have st:∀k,k≠g->(w6.setCell ⟨g,i*6+4,none⟩ (.slice a' n' c')).heap[k]?=w6.heap[k]?:=λk hk=>jf _ _ _ _ hk
 have hb6:=xh (B:=w0.heap.size) h hpk hq hg;have hT:=mF h.told hq hg (λg' e1 e2=>fH h.told hpk (by decide) g' e1 e2);have hV:=mF h.levels hq hg (λg' e1 e2=>fH h.levels hpk (by decide) g' e1 e2)
 refine⟨hbx.trans h.box.symm,b2,⟨hb6.setCell (p:=⟨g,i*6+4,none⟩) hgr.1 _,h.ctx,h.low,(st rb (λe=>hgr.2.2 e.symm)).trans hbx,h.nodes.kid hp z hg hown hat,fU hT (λk hk=>st k (λe=>fH h.nodes.row h.told (by decide) g rfl (e▸hk))),fU hV (λk hk=>st k (λe=>fH h.nodes.row h.levels (by decide) g rfl (e▸hk)))⟩,
  uP hq hg (λg' e=>.inr (.inr (.inr ⟨p,iK hp,e⟩))) (λk hk=>?_) (.inr hgR) (i*6+4) _⟩
 rcases hk with hk|hk|hk|⟨q,hq',hk⟩
 ·exact .inl (.inl hk)
 ·exact .inl (.inr (.inl hk))
 ·exact .inl (.inr (.inr (.inl hk)))
 obtain⟨j,hj⟩:=lh hq';rw[nW]at hj;split at hj
 ·split at hj
  ·injection hj with hj
   subst hj;rcases hat with e|e
   ·exact .inl (.inr (.inr (.inr ⟨p,iK hp,e▸hk⟩)))
   have hk:(Value.slice a' n' c').ownBlock=some k:=hk;rw[e]at hk;injection hk with hk
   have:=hq.size;exact .inr (by omega)
  cases hj
 exact .inl (.inr (.inr (.inr ⟨q,iK hj,hk⟩)))
end
end
section
open Go.RowKit
open Sq
open Ar
theorem Fb(w0 w:World)(rb:Nat)(c:Ctx)(q:Pr.QS)(lv:Value)(R:Nat->Prop)(code f t:Nat)(hS:fV w0 w rb c q lv R)(hn:q.s.d.length<=1000000000000):
 Calls prog 43 #[RP rb,.int .i64 code,.int .i64 f,.int .i64 t] w (ng w0 w rb c lv R (.tuple #[]) {q with s:=⟨q.s.t,q.s.d++[⟨code,f,t⟩]⟩}):=by
 obtain⟨nv,dv,L,hM,hL,hTr,rfl⟩:=hS;obtain⟨da,dc,hdv⟩:=(Reads.fJ (E:=ib) hM.told).shape;subst hdv
 have HQ:=eZ (λW v6 (h:PM w0 W rb c nv v6 lv q.row q.en L (q.s.d++[⟨code,f,t⟩]) q.st.reverse/\FP w W rb (jR nv (.slice da q.s.d.length dc) lv L) (jR nv v6 lv L))=>show ng w0 w rb c lv (jR nv (.slice da q.s.d.length dc) lv L) (.tuple #[]) {q with s:=⟨q.s.t,q.s.d++[⟨code,f,t⟩]⟩} (.returned (.tuple #[])) W from
  ⟨rfl,_,⟨_,_,_,h.1,hL,hTr,rfl⟩,h.2⟩)
 obtain⟨Q,hQ⟩:=fq (ng w0 w rb c lv (jR nv (.slice da q.s.d.length dc) lv L) (.tuple #[]) {q with s:=⟨q.s.t,q.s.d++[⟨code,f,t⟩]⟩});rw[hQ]at HQ⊢;have c5:=MR hM.box;obtain⟨D,hD⟩:=fq (q.s.d);rw[hD]at hM HQ hn c5;have HM:=eZ hM;have aa:=eZ (λo=>show(w.alloc o).ownsRow w0.heap.size 40 ib.k (.slice da D.length dc) D.length (ib.all D)from hM.told.alloc o);have aj:=eZ (show D.length+([(⟨code,f,t⟩:Fl.Dg)]).length<=maxLen by simp only[maxLen,Xz];omega);have ak:=eZ (show(D.length+([(⟨code,f,t⟩:Fl.Dg)]).length)*24<=140737488355328 by simp only[Xz];omega);have av:=eZ (vT (E:=ib) w (⟨code,f,t⟩:Fl.Dg) [.int .i64 code,.int .i64 f,.int .i64 t] 40 rfl);have hws:∀o,w0.heap.size<=(w.alloc o).heap.size:=λo=>jU hM.size (fo w o).size
 have ax:=eZ hws;obtain⟨N,hN⟩:=fq (D.length);have HN:=eZ hN;rw[hN]at c5 HM HQ aa;clear hM hL hTr hQ hD hn hws hN
 go_enter func43,ntmps43
 go_wp2_with (at_builtin;go_must (refine lG YE rfl (.tmp 12) (.tmp 17) rfl w0.heap.size _ D rfl (by rw[HN.out];exact aa.out _) _ [(⟨code,f,t⟩:Fl.Dg)] rfl av.out aj.out ak.out (ax.out _) ?_;intro v6 w6 hown6 af ae;obtain⟨a6,c6,hv6⟩:=(Reads.fJ (E:=ib) hown6).shape;obtain⟨n6,ag⟩:∃n6,(D++[(⟨code,f,t⟩:Fl.Dg)]).length=n6:=⟨_,rfl⟩;rw[ag]at hv6;clear ag;subst hv6;obtain⟨hb6,ah,ai⟩:=HM.out.more (fo w _) af hown6 ae;have ay:=MR hb6;have f56:=nH hb6 5;have HD:=eZ (HQ.out _ _ ⟨ah,ai⟩);clear hown6 af ae hb6 ah ai))
 go_end0
 exact HD.out
theorem Ql{L:List Ln}{k:Nat}{p:Ln}(hp:L[k]?=some p)(z:Int):(L.set k {p with nd:={p.nd with t:=max p.nd.t z}}).map Ln.nd=(L.map Ln.nd).set k {p.nd with t:=max p.nd.t z}:=by rw[EO]
theorem OB(w0 w:World)(rb:Nat)(c:Ctx)(nv dv lv:Value)(row en:Nat)(L:List Ln)(D:List Fl.Dg)(V:List Pr.Lv)(k jr:Nat)(h:PM w0 w rb c nv dv lv row en L D V)(hk:k<L.length)(hu:∀(i:Nat)(x:Nd),0<i->(L.map Ln.nd)[i]?=some x->0<=x.u/\x.u<i):
 Calls prog 62 #[RP rb,.int .i64 k,.int .i64 jr] w λe w'=>e=.returned (.tuple #[])/\∃L',PM w0 w' rb c nv dv lv row en L' D V/\L'.map Ln.nd=Pr.reach (L.map Ln.nd) k jr/\FP w w' rb (jR nv dv lv L) (jR nv dv lv L'):=by
 obtain⟨g,cap,rfl,-,-,-,-⟩:=jM h.nodes.row (by omega);obtain⟨F,hF⟩:=fq (Pr.reach (L.map Ln.nd) k jr);rw[hF];have HQ:=eZ (λW (h:∃L',PM w0 W rb c (.slice (some ⟨g,0,none⟩) L.length cap) dv lv row en L' D V/\L'.map Ln.nd=F/\FP w W rb (jR (.slice (some ⟨g,0,none⟩) L.length cap) dv lv L) (jR (.slice (some ⟨g,0,none⟩) L.length cap) dv lv L'))=>show(λe w'=>e=Ending.returned (.tuple #[])/\∃L',PM w0 w' rb c (.slice (some ⟨g,0,none⟩) L.length cap) dv lv row en L' D V/\L'.map Ln.nd=F/\FP w w' rb (jR (.slice (some ⟨g,0,none⟩) L.length cap) dv lv L) (jR (.slice (some ⟨g,0,none⟩) L.length cap) dv lv L')) (.returned (.tuple #[])) W from⟨rfl,h⟩);obtain⟨Q,hQ⟩:=fq ((λe w'=>e=Ending.returned (.tuple #[])/\∃L',PM w0 w' rb c (.slice (some ⟨g,0,none⟩) L.length cap) dv lv row en L' D V/\L'.map Ln.nd=F/\FP w w' rb (jR (.slice (some ⟨g,0,none⟩) L.length cap) dv lv L) (jR (.slice (some ⟨g,0,none⟩) L.length cap) dv lv L')));rw[hQ]at HQ⊢;obtain⟨N,hN⟩:=fq (L.length);rw[hN]at h hk HQ;obtain⟨R0,hR0⟩:=fq (jR (.slice (some ⟨g,0,none⟩) N cap) dv lv L);rw[hR0]at HQ;have hF:Pr.iR (k+1) (L.map Ln.nd) k jr=F:=hF;obtain⟨H0,ag,ah,ai⟩:=oN h hu hF hN;have aa:=eZ (show FP w w rb R0 (jR (.slice (some ⟨g,0,none⟩) N cap) dv lv L)by rw[hR0];exact FP.refl _ _ _);clear h hu hF hN hQ hR0
 go_enter func62,ntmps62
 go_wp2_with fail
 go_loopw [1] (λkv wr=>∃(k:Nat)(L:List Ln),kv=.int .i64 k/\k<N/\Hid (PM w0 wr rb c (.slice (some ⟨g,0,none⟩) N cap) dv lv row en L D V)/\Hid (∀(i:Nat)(x:Nd),0<i->(L.map Ln.nd)[i]?=some x->0<=x.u/\x.u<i)/\Hid (Pr.iR (k+1) (L.map Ln.nd) k jr=F)/\Hid (L.length=N)/\Hid (FP w wr rb R0 (jR (.slice (some ⟨g,0,none⟩) N cap) dv lv L))) (λkv _=>(intOf kv).toNat)
 case atStart=>exact⟨k,L,rfl,hk,H0,ag,ah,ai,aa⟩
 case round=>
  clear hk H0 ag ah ai aa;obtain⟨k,L,rfl,hk,HM,HU,HF,HN,ae⟩:=hrel;by_cases h0:k=0
  ·subst h0;have hF:=HF.out;rw[Pr.iR,eY rfl]at hF;have HD:=eZ (HQ.out wr ⟨L,HM.out,hF,ae.out⟩);clear hF hk;go_wp2_with fail
   go_end0
   exact HD.out
  obtain⟨p,hp⟩:=jB L k (by rw[HN.out];exact hk);have hx:(L.map Ln.nd)[k]?=some p.nd:=by rw[lS,hp];rfl
  obtain⟨hu1,hu2⟩:=HU.out k p.nd (by omega) hx;have hF:=HF.out;rw[Pr.iR,eX h0,hx]at hF;dsimp only at hF;have hrow:=HM.out.nodes.row;have c4:=Dk HM.out.box;have c2:wr.cell? ⟨g,k*6+2,none⟩=some (.int .i64 p.nd.t):=by
   have:=hrow.cells (g:=g) rfl _ _ ((iO gP L k p hp 2 (by decide)).trans rfl);rw[gQ,kU]at this;exact this
  have c3:wr.cell? ⟨g,k*6+3,none⟩=some (.int .i64 p.nd.u):=by
   have:=hrow.cells (g:=g) rfl _ _ ((iO gP L k p hp 3 (by decide)).trans rfl);rw[gQ,kU]at this;exact this
  obtain⟨g',cap',hv,-,hfz,-,-⟩:=jM hrow (by rw[HN.out];omega);have e1:=(ll hv).1;injection e1 with e1
  injection e1 with e1
  subst e1;have f2:=hfz (k*6+2);obtain⟨hM2,hF2⟩:=HM.out.setNode k 2 p {p.nd with t:=max p.nd.t (jr:Int)} (.int .i64 (max p.nd.t (jr:Int))) hp rfl rfl (by decide);obtain⟨m,hm⟩:=Vi hu1;rw[hm]at c3;have hmu:p.nd.u.toNat=m:=by omega
  rw[hmu]at hF;obtain⟨T,hT⟩:=fq (p.nd.t);have hmap:=Ql hp (jr:Int);obtain⟨L2,hL2⟩:=fq (L.set k {p with nd:={p.nd with t:=max p.nd.t (jr:Int)}});rw[hL2]at hM2 hF2 hmap;have hl2:L2.length=N:=by rw[<-hL2,lT];exact HN.out
  have af:∀(i:Nat)(x:Nd),0<i->(L2.map Ln.nd)[i]?=some x->0<=x.u/\x.u<i:=λi x hi hx'=>by
   rw[hmap,nW]at hx';split at hx'
   ·split at hx'
    ·rename_i e _;subst e;injection hx' with hx'
     subst hx';exact HU.out k p.nd hi hx
    cases hx'
   exact HU.out i x hi hx'
  have aj:Pr.iR (m+1) (L2.map Ln.nd) m jr=F:=by
   rw[hmap,<-hF];have ak:Pr.Ib ((L.map Ln.nd).set k {p.nd with t:=max p.nd.t (jr:Int)}):=λi x hi hx'=>by
    rw[<-hmap]at hx';exact af i x hi hx'
   exact(Pr.GM m _ _ _ _ ak (by rw[lT,jD,HN.out];omega) (by omega) (by omega))
  have c32:(wr.setCell ⟨g,k*6+2,none⟩ (.int .i64 (max T (jr:Int)))).cell? ⟨g,k*6+3,none⟩=some (.int .i64 (m:Int)):=tQ (by omega) c3;have aB:(wr.setCell ⟨g,k*6+2,none⟩ (.int .i64 (max T (jr:Int)))).cell? ⟨rb,4,none⟩=some (.slice (some ⟨g,0,none⟩) N cap):=by rw[<-hT];exact Dk hM2.box
  rw[hT]at c2 hM2 hF2;obtain⟨ax,av,ay,az,HL2⟩:=sP hM2 (ae.out.trans hF2) af aj hl2;have gk:(k:Int)<(N:Int):=by omega
  have gz:((k:Int) !=0)=true:=by simp;omega
  have aA:m<N:=by omega
  have hmk:m<k:=by omega
  clear hp hx hF hrow hv hfz hM2 hF2 hm hmu hT hmap hL2 hl2 af aj HM HU HF HN ae hu1 hu2 h0 c3;go_wp2_with fail
  go_roundw
  case rel=>exact⟨m,L2,rfl,aA,ax,ay,az,HL2,av⟩
  case measure=>simp[intOf];omega
end
section
open Go.RowKit
open Sq
open Ar
theorem U4(w0 w:World)(rb:Nat)(c:Ctx)(nv dv lv:Value)(row en:Nat)(L:List Ln)(D:List Fl.Dg)(V:List Pr.Lv)(i jr:Nat)(h:PM w0 w rb c nv dv lv row en L D V)(hi:i<L.length)(hu:Pr.Ib (L.map Ln.nd))(hkl:∀p∈L,p.nd.ks.length<=1000000000000)(hn:L.length<=1000000000000):
 Calls prog 130 #[RP rb,.int .i64 i,.int .i64 jr] w λe w'=>e=.returned (.int .i64 L.length)/\∃L',PM w0 w' rb c nv dv lv row en L' D V/\L'.map Ln.nd=Pr.hold (L.map Ln.nd) i jr/\FP w w' rb (jR nv dv lv L) (jR nv dv lv L'):=by
 obtain⟨g,cap,rfl,-,-,-,-⟩:=jM h.nodes.row (by omega);obtain⟨R0,hR0⟩:=fq (jR (.slice (some ⟨g,0,none⟩) L.length cap) dv lv L);obtain⟨F,hF⟩:=fq (Pr.hold (L.map Ln.nd) i jr);have HQ:=eZ (λW (h:∃L',PM w0 W rb c (.slice (some ⟨g,0,none⟩) L.length cap) dv lv row en L' D V/\L'.map Ln.nd=F/\FP w W rb R0 (jR (.slice (some ⟨g,0,none⟩) L.length cap) dv lv L'))=>show(λe w'=>e=Ending.returned (.int .i64 L.length)/\∃L',PM w0 w' rb c (.slice (some ⟨g,0,none⟩) L.length cap) dv lv row en L' D V/\L'.map Ln.nd=F/\FP w w' rb R0 (jR (.slice (some ⟨g,0,none⟩) L.length cap) dv lv L')) (.returned (.int .i64 L.length)) W from⟨rfl,h⟩);rw[hR0,hF];obtain⟨Q,hQ⟩:=fq ((λe w'=>e=Ending.returned (.int .i64 L.length)/\∃L',PM w0 w' rb c (.slice (some ⟨g,0,none⟩) L.length cap) dv lv row en L' D V/\L'.map Ln.nd=F/\FP w w' rb R0 (jR (.slice (some ⟨g,0,none⟩) L.length cap) dv lv L')));rw[hQ]at HQ⊢;clear hQ;obtain⟨p,hp⟩:=jB L i hi;have aF:=hkl p (iK hp);have hkr:=h.nodes.kids i p hp;obtain⟨ka,kc,af⟩:=(Reads.fJ (E:=encI) hkr).shape;obtain⟨kn,hkn⟩:=fq (p.nd.ks.length);rw[hkn]at af;have hx:(L.map Ln.nd)[i]?=some p.nd:=by rw[lS,hp];rfl
 have ag:∀(a':Option Addr)(n' c':Nat),(L.set i ⟨{p.nd with ks:=p.nd.ks++[(L.length:Int)]},a',n',c'⟩).map Ln.nd=Pr.oH (L.map Ln.nd) i:=λa' n' c'=>by
  unfold Pr.oH;rw[hx,EO,jD]
 have ak:Pr.Ib (Pr.oH (L.map Ln.nd) i):=by
  unfold Pr.oH;rw[hx];exact hu.set i p.nd _ hx rfl
 obtain⟨N,hN⟩:=fq (L.length);have HN:=eZ hN;rw[hN]at h hi HQ ag hR0 hn;have hF:Pr.reach (Pr.oH (L.map Ln.nd) i) i jr=F:=hF;have c4:=Dk h.box;have ck:w.cell? ⟨g,i*6+4,none⟩=some (.slice ka kn kc):=by
  have:=h.nodes.row.cells (g:=g) rfl _ _ ((iO gP L i p hp 4 (by decide)).trans rfl);rw[gQ,kU]at this;rw[<-af];exact this
 have av:=eZ (show p.nd.ks.length+1<=maxLen by simp only[maxLen];omega);have ax:=eZ (show(p.nd.ks.length+1)*8<=140737488355328 by omega);obtain⟨wx,hwx⟩:=fq ((w.alloc (.cells #[.int .i64 (N:Int)] 3)).drew);have hbx:Below w.heap.size w wx:=by rw[<-hwx];exact(fo w _).drew
 have aG:=eZ (show wx.ownsRow w0.heap.size 3 encI.k (.slice ka kn kc) p.nd.ks.length (encI.all p.nd.ks)by rw[<-af];exact fQ hkr hbx);have ah:∀jj c,(encI.all [(N:Int)])[jj]?=some c->wx.cell? ⟨w.heap.size,jj,none⟩=some c:=by
  intro jj c hj;rw[<-hwx];show(w.alloc _).cell? ⟨w.heap.size,jj,none⟩=_;rw[vH]
  simpa [mr.all,encI]using hj
 have ay:=eZ ah;have aH:=fu hbx c4;have aI:=fu hbx ck;have az:w0.heap.size<=wx.heap.size:=jU h.size hbx.size;obtain⟨aj,HP,aD,bf,HM,ai⟩:=kJ hwx hp af hkn h ag;obtain⟨aJ,HF,aV⟩:=jF ak hF hR0;have bg:(i:Int)<(N:Int):=by omega
 clear hkr af hkn ah hbx hwx hp h hu hkl hx ag ak hN hF hR0 aF hn
 go_enter func130,ntmps130
 go_upto_region 2 with fail
 refine gK (λwx=>wx.cell? ⟨rb,4,none⟩=some (.slice (some ⟨g,0,none⟩) N cap)/\wx.cell? ⟨g,i*6+4,none⟩=some (.slice ka kn kc)) 20 (by kernel_rfl) ?_;have hH:(λwx:World=>wx.cell? ⟨rb,4,none⟩=some (.slice (some ⟨g,0,none⟩) N cap)/\wx.cell? ⟨g,i*6+4,none⟩=some (.slice ka kn kc)) w.drew:=⟨fE c4,fE ck⟩
 refine ik 0 (.pointer (some ⟨rb,0,none⟩)) rfl (by kernel_rfl) rfl fC (λW hW=>by go_simp) hH ?_;refine ik 1 (.pointer (some ⟨rb,0,none⟩)) rfl (by kernel_rfl) rfl fC (λW hW=>by go_simp) hH ?_;refine ik 2 (.pointer (some ⟨rb,4,none⟩)) rfl (by kernel_rfl) rfl fC (λW hW=>by go_simp) hH ?_;refine ik 3 (.pointer (some ⟨rb,4,none⟩)) rfl (by kernel_rfl) rfl fC (λW hW=>by go_simp) hH ?_;refine ik 4 (.slice (some ⟨g,0,none⟩) N cap) rfl (by kernel_rfl) rfl fC (λW hW=>?_) hH ?_
 ·obtain⟨z0,z1⟩:=hW;go_simp
 refine ik 5 (.int .i64 (i:Int)) rfl (by kernel_rfl) rfl fC (λW hW=>by go_simp) hH ?_;refine ik 6 (.pointer (some ⟨rb,0,none⟩)) rfl (by kernel_rfl) rfl fC (λW hW=>by go_simp) hH ?_;refine ik 7 (.pointer (some ⟨rb,0,none⟩)) rfl (by kernel_rfl) rfl fC (λW hW=>by go_simp) hH ?_;refine ik 8 (.pointer (some ⟨rb,4,none⟩)) rfl (by kernel_rfl) rfl fC (λW hW=>by go_simp) hH ?_;refine ik 9 (.pointer (some ⟨rb,4,none⟩)) rfl (by kernel_rfl) rfl fC (λW hW=>by go_simp) hH ?_;refine ik 10 (.slice (some ⟨g,0,none⟩) N cap) rfl (by kernel_rfl) rfl fC (λW hW=>?_) hH ?_
 ·obtain⟨z0,z1⟩:=hW;go_simp
 refine ik 11 (.int .i64 (i:Int)) rfl (by kernel_rfl) rfl fC (λW hW=>by go_simp) hH ?_;refine ik 12 (.pointer (some ⟨g,i*6,none⟩)) rfl (by kernel_rfl) rfl fC (λW hW=>by go_simp) hH ?_;refine ik 13 (.pointer (some ⟨g,i*6+4,none⟩)) rfl (by kernel_rfl) rfl fC (λW hW=>by go_simp) hH ?_;refine ik 14 (.slice ka kn kc) rfl (by kernel_rfl) rfl fC (λW hW=>?_) hH ?_
 ·obtain⟨z0,z1⟩:=hW;go_simp
 refine ik 15 (.int .i64 (N:Int)) rfl (by kernel_rfl) rfl fC (λW hW=>by go_simp) hH ?_;refine mO 16 (by kernel_rfl) rfl λK hK=>?_
 go_simp;rw[aj.out];refine hK.out _ _ (λ_=>⟨aH,aI⟩) (λhH2=>?_);clear hK K;replace hH:=hH2 (by kernel_rfl);clear hH2;try simp only[Act.put,fK,fP,fO]
 refine mO 17 (by kernel_rfl) rfl λK hK=>?_
 refine nL Ra rfl (.tmp 27) (.tmp 29) rfl w0.heap.size (.slice ka kn kc) p.nd.ks rfl aG.out w.heap.size 1 [(N:Int)] rfl rfl ay.out av.out ax.out az ?_;intro v8 w8 aa aK aA;obtain⟨a8,c8,aL⟩:=(Reads.fJ (E:=encI) aa).shape;obtain⟨n8,aM⟩:=fq ((p.nd.ks++[(N:Int)]).length);rw[aM]at aL;clear aM;subst aL;have hgw:(w.alloc (.cells #[.int .i64 (N:Int)] 3)).grownBy w8 p.val.ownBlock:=(qV (fI _ (w.alloc (.cells #[.int .i64 (N:Int)] 3))).drew p.val.ownBlock).trans (by rw[aD.out];have:=aK;rw[<-aj.out]at this;exact this);have aB:(Value.slice a8 n8 c8).ownBlock=p.val.ownBlock\/(Value.slice a8 n8 c8).ownBlock=some (w.alloc (.cells #[.int .i64 (N:Int)] 3)).heap.size:=by rw[aD.out];have:=aA;rw[<-aj.out]at this;exact this
 obtain⟨aN,aC,aO,aP⟩:=HM.out.kid HP.out (N:Int) hgw aa aB;have c18:w8.cell? ⟨rb,4,none⟩=some (.slice (some ⟨g,0,none⟩) N cap):=Dk (aN.trans HM.out.box);have ae:=fU HM.out.nodes.row (w':=w8) (λg1 hg=>by have e:g=g1:=jl hg;rw[<-e];exact aC);have aW:w8.cell? ⟨g,i*6+4,none⟩=some (.slice ka kn kc):=by have h5:=ae.cells (g:=g) rfl _ _ ((iO gP L i p HP.out 4 (by decide)).trans rfl);rw[gQ,kU]at h5;rw[<-aD.out];exact h5
 obtain⟨gx,bn,aQ,-,hfx,-,-⟩:=jM (E:=gP) ae (by rw[HN.out];omega);have ex:=(ll aQ).1;injection ex with ex
 injection ex with ex
 have f48:w8.frozen? ⟨g,i*6+4,none⟩=false:=by rw[ex];exact hfx _
 have HD:=eZ (And.intro aO (show FP w _ rb R0 _ by rw[<-aV.out];exact aP));have aX:=eZ (ai.out a8 n8 c8);clear aa aK aA hgw aB aN aC aO aP ae aQ hfx ex;refine hK.out _ _ (λ_=>⟨c18,aW⟩) (λhH2=>?_);clear hK K;replace hH:=hH2 (by kernel_rfl);clear hH2;try simp only[Act.put,fK,fP,fO]
 refine iD 18 (.pointer (some ⟨g,i*6,none⟩)) rfl (by kernel_rfl) rfl fC (λW=>by go_simp) (λ_=>hH) ?_;refine ik 19 (.pointer (some ⟨g,i*6+4,none⟩)) rfl (by kernel_rfl) rfl fC (λW hW=>by go_simp) hH ?_;refine mO 20 (by kernel_rfl) rfl λK hK=>?_
 go_simp;refine hK.out _ _ (kC (by kernel_rfl)) (λ_=>?_);clear hK K;try simp only[Act.put,fK,fP,fO]
 refine gH (by kernel_rfl) ?_ _;generalize aY:w8.setCell ⟨g,i*6+4,none⟩ (.slice a8 n8 c8)=w9 at HD aX⊢;obtain⟨aR,aS⟩:=HD.out;have aT:=eZ (OB w0 w9 rb c _ dv lv row en _ D V i jr aR (by rw[lT,HN.out];exact hi) (by rw[ai.out];exact aJ.out));have aU:=eZ aS;clear aR aS HD aY HM HP aG ay aH aI c4 ck av ax aj az;go_wp2_with fail
 refine aT.out.mono ?_;rintro e aZ ⟨rfl,L',hM',hL',hF'⟩;have HD:=eZ (HQ.out aZ ⟨L',hM',by rw[hL',ai.out];exact HF.out,aU.out.trans hF'⟩);clear hM' hL' hF' aT aU;go_wp2_with fail
 exact HD.out
end
section
open Go.RowKit
open Sq
open Ar
theorem qw:∀(f:Nat)(l:List Nd)(k:Nat)(z:Int)(i:Nat)(x':Nd),(Pr.iR f l k z)[i]?=some x'->∃x,l[i]?=some x/\x'.u=x.u/\x'.ks=x.ks
 |0,l,_,_,i,x'=>λh=>⟨x',h,rfl,rfl⟩
 |f+1,l,k,z,i,x'=>λh=>by
  rw[Pr.iR]at h;by_cases h0:k=0
  ·rw[eY h0]at h;exact⟨x',h,rfl,rfl⟩
  rw[eX h0]at h;cases hk:l[k]? with
  |none=>rw[hk]at h;exact⟨x',h,rfl,rfl⟩
  |some y=>
   rw[hk]at h;obtain⟨x,h1,h2,h3⟩:=qw f _ _ z i x' h;rw[nW]at h1;split at h1
   ·split at h1
    ·rename_i e _;subst e;injection h1 with h1
     subst h1;exact⟨y,hk,h2,h3⟩
    cases h1
   exact⟨x,h1,h2,h3⟩
theorem CP{t:List Nd}{up:Nat}{z:Int}{i:Nat}{x':Nd}(h:(Pr.hold t up z)[i]?=some x'):∃x,t[i]?=some x/\x'.u=x.u/\x'.ks.length<=x.ks.length+1:=by
 obtain⟨x,h1,h2,h3⟩:=qw _ _ _ _ i x' h;unfold Pr.oH at h1;cases hp:t[up]? with
 |none=>rw[hp]at h1;exact⟨x,h1,h2,by rw[h3];omega⟩
 |some p=>
  rw[hp]at h1;rw[nW]at h1;split at h1
  ·split at h1
   ·rename_i e _;subst e;injection h1 with h1
    subst h1;exact⟨p,hp,h2,by rw[h3];simp⟩
   cases h1
  exact⟨x,h1,h2,by rw[h3];omega⟩
structure Zg(m up:Nat)(q:List Nd):Prop where
 up:∀(i:Nat)(x:Nd),q[i]?=some x->0<=x.u/\x.u<(m+i:Nat)
 kb:∀x∈q,x.ks.length<=m+q.length
theorem Tr.more{t q:List Nd}{up:Nat}{z:Int}(h:Tr t)(hq:Zg t.length up q)(h0:0<q.length):Tr (Pr.hold t up z++q):=by
 have hl:=Pr.lY t up z;refine⟨λi x hi hx=>?_,λx hx=>?_⟩
 ·rcases kS i t.length with h1|h1
  ·rw[oD (by omega)]at hx;obtain⟨y,g1,g2,_⟩:=CP hx;have:=h.up i y hi g1;omega
  rw[oM (by omega),hl]at hx;have:=hq.up _ x hx;omega
 rw[iJ,hl];rcases mU.1 hx with hx|hx
 ·obtain⟨i,hi⟩:=lh hx;obtain⟨y,g1,_,g3⟩:=CP hi;have:=h.kb y (iK g1);omega
 exact hq.kb x hx
theorem Tr.add{t:List Nd}{up:Nat}{k f z:Int}(h:Tr t)(hu:up<t.length):Tr (Pr.add t up k f z):=
 h.more ⟨λi x hx=>by
  obtain⟨hi,hx'⟩:=gD.1 hx;simp at hi;subst hi;simp at hx';subst hx';dsimp only;omega,λx hx=>by
  have hx:x=_:=vF.1 hx;subst hx
  exact ic _⟩ (by simp)
theorem Nh(w0 w:World)(rb:Nat)(c:Ctx)(q:Pr.QS)(lv:Value)(R:Nat->Prop)(up k f t:Nat)(hS:fV w0 w rb c q lv R)(hup:up<q.s.t.length)(hn:q.s.t.length<=900000000000):
 Calls prog 93 #[RP rb,.int .i64 up,.int .i64 k,.int .i64 f,.int .i64 t] w (ng w0 w rb c lv R (.int .i64 q.s.t.length) {q with s:=⟨Pr.add q.s.t up k f t,q.s.d⟩}):=by
 obtain⟨nv,dv,L,hM,hL,hTr,rfl⟩:=hS;have hLn:L.length=q.s.t.length:=by rw[<-hL,jD]
 have aa:=U4 w0 w rb c nv dv lv q.row q.en L q.s.d q.st.reverse up t hM (by omega) (by rw[hL];exact hTr.up) (λp hp=>by
  have:=hTr.kb p.nd (by rw[<-hL];exact Ru hp);omega) (by omega)
 obtain⟨R0,hR0⟩:=fq (jR nv dv lv L);rw[hR0]at aa⊢;have af:=hTr.add (k:=(k:Int)) (f:=(f:Int)) (z:=(t:Int)) hup
 have HQ:=eZ (λW ah L' (h:PM w0 W rb c ah dv lv q.row q.en L' q.s.d q.st.reverse/\L'.map Ln.nd=Pr.add q.s.t up k f t/\FP w W rb R0 (jR ah dv lv L'))=>show ng w0 w rb c lv R0 (.int .i64 q.s.t.length) {q with s:=⟨Pr.add q.s.t up k f t,q.s.d⟩} (.returned (.int .i64 q.s.t.length)) W from
  ⟨rfl,_,⟨_,_,L',h.1,h.2.1,af,rfl⟩,h.2.2⟩)
 obtain⟨Q,hQ⟩:=fq (ng w0 w rb c lv R0 (.int .i64 q.s.t.length) {q with s:=⟨Pr.add q.s.t up k f t,q.s.d⟩});rw[hQ]at HQ⊢;rw[hL]at aa;obtain⟨N,hN⟩:=fq (q.s.t.length);rw[hLn,hN]at aa;rw[hN]at HQ hn;obtain⟨ai,HN⟩:=fT aa hN;clear hM hL hLn hTr af hQ aa hR0 hup hN
 go_enter func93,ntmps93
 go_wp2_with fail
 refine ai.out.mono ?_;rintro e w1 ⟨rfl,L',hM',hL',hF'⟩;have ae:L'.length=N:=by
  have:=congrArg List.length hL';rw[jD,Pr.lY]at this;rw[this];exact HN.out
 obtain⟨a,cap,rfl⟩:=(Reads.fJ (E:=gP) hM'.nodes.row).shape;have c4:=Dk hM'.box;obtain⟨pn,hpn⟩:∃pn:Ln,(⟨⟨k,f,t,up,[],false⟩,none,0,0⟩:Ln)=pn:=⟨_,rfl⟩
 have hpc:gP.cells pn=[.int .i64 k,.int .i64 f,.int .i64 t,.int .i64 up,.slice none 0 0,.bool false]:=by rw[<-hpn];rfl
 have hmap:(L'++[pn]).map Ln.nd=Pr.add q.s.t up k f t:=by rw[wy,hL',<-hpn];rfl
 have aB:=eZ (show Own w1 w0.heap.size L' [pn]by rw[<-hpn];exact Own.one _ _ _ _ rfl);have aC:=eZ (show∀k',¬∃p∈[pn],p.val.ownBlock=some k' by rw[<-hpn];rintro k' ⟨p,hp,e⟩;rw[vF.1 hp]at e;cases e);have aD:=eZ (show L'.length+[pn].length<=maxLen by simp only[maxLen,jh,EL];omega);have aF:=eZ (show(L'.length+[pn].length)*64<=140737488355328 by simp only[jh,EL];omega);obtain⟨aG,aj,HF⟩:=jF hpc hmap hF';have ak:=eZ (λo=>show(w1.alloc o).ownsRow w0.heap.size 38 gP.k (.slice a L'.length cap) L'.length (gP.all L')from hM'.nodes.row.alloc o);have aH:=eZ (λo=>show w0.heap.size<=(w1.alloc o).heap.size from jU hM'.size (fo w1 o).size);have av:=eZ ae;rw[ae]at hM' c4 hF';have HM:=eZ hM';clear hM' hL' hF' hpc hmap hpn ai ae;go_wp2_with (at_builtin;go_must (refine lG Hl rfl (.tmp 20) (.tmp 26) rfl w0.heap.size _ L' rfl (by rw[<-av.out];exact ak.out _) _ [pn] rfl (vT w1 pn _ 38 aG.out) aD.out aF.out (aH.out _) ?_;intro v6 w6 hown6 ax ag;obtain⟨a6,c6,hv6⟩:=(Reads.fJ (E:=gP) hown6).shape;obtain⟨n6,ay⟩:∃n6,(L'++[pn]).length=n6:=⟨_,rfl⟩;rw[ay]at hv6;clear ay;subst hv6;obtain⟨hb6,az,aA⟩:=HM.out.push aB.out (fo w1 _) ax hown6 ag;have c46:=Dk hb6;have f46:=nH hb6 4;have HD:=eZ (HQ.out _ _ _ ⟨az,aj.out,HF.out.trans (by rw[av.out];exact FP.less aA (λk' hk'=>absurd hk' (aC.out k')))⟩);clear hown6 ax ag hb6 az aA))
 exact HD.out
end
section
open Go.RowKit
open Sq
open Ar
theorem Kh(l:List Tk):∀(j i:Nat),i<j->Fl.cnt (Fl.raw l i)=true->Fl.back l j (i+1)=Fl.back l j i
 |0,i=>λh _=>absurd h (qJ _)
 |j+1,i=>λh1 h2=>by
  rw[Fl.back,Fl.back];by_cases hc:Fl.cnt (Fl.raw l j)=false
  ·have hij:i≠j:=λe=>by rw[e,hc]at h2;cases h2
   rw[eY ⟨by omega,hc⟩,eY ⟨by omega,hc⟩];exact Kh l j i (by omega) h2
  rw[eX (λh=>hc h.2),eX (λh=>hc h.2)]
theorem xW(w0 w:World)(rb:Nat)(c:Ctx)(q:Pr.QS)(lv:Value)(R:Nat->Prop)(up code a b:Nat)(hS:fV w0 w rb c q lv R)(hup:up<q.s.t.length)(hab:a<=b)(hb:b<=c.l.length)(hn:q.s.t.length<=900000000000)(hd:q.s.d.length<=1000000000000):
 Calls prog 63 #[RP rb,.int .i64 up,.int .i64 code,.int .i64 a,.int .i64 b] w (ng w0 w rb c lv R (.tuple #[]) {q with s:=Pr.fault c.l q.s up code a b}):=by
 obtain⟨k1,k2,k3⟩:=hS.tok;have HC:=eZ (xe rb c.tv c.l a b w k1 k2 hab hb k3);have hge:=Ps.kQ c.l a b;have hle:=Ps.lo_le c.l hab;have hcn:Ps.lo c.l a b<b->Fl.cnt (Fl.raw c.l (Ps.lo c.l a b))=true:=λh=>Ps.qD c.l h
 obtain⟨Q,hQ⟩:=fq (ng w0 w rb c lv R (.tuple #[]) {q with s:=Pr.fault c.l q.s up code a b});rw[hQ];unfold Pr.fault at hQ;dsimp only at hQ;obtain⟨x,hx⟩:=fq (Ps.lo c.l a b);rw[hx]at HC hge hle hcn hQ;by_cases hlt:x<b
 ·rw[eY hlt]at hQ;have hcx:=hcn hlt;have ae:=Kh c.l b x hlt hcx;have hbg:=Ps.oV c.l b x x (fB _) hlt hcx;have hbl:=Fl.iV c.l b x;have aa:=F5 rb c.tv c.l b (x+1) w k1 k2 hb k3 (by omega) (by omega) ⟨x+1,fB _,by omega,by rw[jH];exact hcx⟩;rw[ae]at aa;obtain⟨e,he⟩:=fq (Fl.back c.l b x);rw[he]at hbg hbl aa hQ;obtain⟨y,rfl⟩:∃y,e=y+1:=⟨e-1,by omega⟩
  rw[jH]at hQ;obtain⟨tx,htx⟩:=jB c.l x (by omega);obtain⟨ty,hty⟩:=jB c.l y (by omega);have ef:Fl.mM c.l x=tx.2.1:=by unfold Fl.mM;rw[htx]
  have et:Fl.too c.l y=ty.2.2:=by unfold Fl.too;rw[hty]
  rw[ef,et]at hQ;obtain⟨ta,tc,af⟩:=k2.shape;rw[af]at k1 k2;obtain⟨tb,off,rfl,-,x1,-⟩:=iZ k2 x tx htx;obtain⟨av,off',he2,-,-,y2⟩:=iZ k2 y ty hty;injection he2 with he2
  injection he2 with e1 e2
  subst e1 e2;obtain⟨F,hF⟩:=fq (tx.2.1);obtain⟨T,hT⟩:=fq (ty.2.2);rw[hF]at x1 hQ;rw[hT]at y2 hQ;have ag:=eZ (λW (hW:Below w.heap.size w W)=>Fb w0 W rb c q lv R code F T (hS.below hW) hd);obtain⟨ah,HQ⟩:=fT aa hQ;have HA:=eZ (λW R' (h:fV w0 W rb c {q with s:=⟨q.s.t,q.s.d++[⟨code,F,T⟩]⟩} lv R')=>Nh w0 W rb c _ lv R' up 11 x (y+1) h hup hn);obtain⟨N,hN⟩:=fq (c.l.length);rw[hN]at k1 hb k3;have gx:(x:Int)<(N:Int):=by omega
  have gy:(y:Int)<(N:Int):=by omega
  have ak:(x:Int)<(b:Int):=by omega
  have gw:IntKind.i64.wrap (((y+1:Nat):Int)-1)=(y:Int):=by
   rw[show((y+1:Nat):Int)-1=(y:Int)by omega];exact qL _ (by omega)
  have ax:IntKind.i64.wrap ((y:Int)+1-1)=(y:Int):=by
   rw[show(y:Int)+1-1=(y:Int)by omega];exact qL _ (by omega)
  have d1:=fE k1;have dx:=fE x1;have dy:=fE y2;clear hcn hx hQ hcx ae he htx hty ef et k2 hF hT aa af hS hN hlt hn hd hup hbg hbl hge hle hab hb
  go_enter func63,ntmps63
  go_wp2_with fail
  refine HC.out.mono ?_;rintro e w1 ⟨rfl,rfl⟩;go_wp2_with fail
  refine ah.out.mono ?_;rintro e w1 ⟨rfl,rfl⟩;go_upto_region 3 with fail
  refine iA 19 (by kernel_rfl) (by kernel_rfl) ?_;simp only[uA,vG,wh,lQ]
  repeat (go_big_quiet_step (fail))
  refine EX ?_;go_wp2_with fail
  refine(ag.out w.drew (fI _ w).drew).mono ?_;rintro e w1 ⟨rfl,R1,hS1,hF1⟩;obtain⟨ai,aj⟩:=fT (HA.out w1 R1 hS1) hF1;clear hS1 hF1 HA ag ah HC k1 x1 y2 d1 dx dy;go_wp2_with fail
  refine ai.out.mono ?_;rintro e w2 ⟨rfl,R2,hS2,hF2⟩;have HD:=eZ (show Q (.returned (.tuple #[])) w2 by rw[<-HQ.out];exact⟨rfl,R2,hS2,(FP.below (fI _ w).drew).trans (aj.out.trans hF2)⟩);clear hS2 hF2 HQ ai aj;go_wp2_with fail
  go_end0
  exact HD.out
 rw[eX hlt]at hQ;have HD:=eZ (show Q (.returned (.tuple #[])) w by rw[<-hQ];exact⟨rfl,R,hS,FP.refl _ _ _⟩);have ak:¬(x:Int)<(b:Int):=by omega
 clear hcn hx hQ hS k1 k2 k3 hn hd hup hge hle hab hb hlt
 go_enter func63,ntmps63
 go_wp2_with fail
 refine HC.out.mono ?_;rintro e w1 ⟨rfl,rfl⟩;go_wp2_with fail
 go_end0
 exact HD.out
end
section
open Go.RowKit
open Sq
open Ar
section
variable {w0 w:World}{rb:Nat}{c:Ctx}{q:Pr.QS}{lv:Value}{R:Nat->Prop}{h:Pr.Lv}{tl:List Pr.Lv}
theorem X9{w:World}{B gl n cap:Nat}(hown:w.ownsRow B 91 5 (.slice (some ⟨gl,0,none⟩) n cap) ((h::tl).reverse).length (pg.all (h::tl).reverse)):∀j u,(nz h)[j]?=some u->w.cell? ⟨gl,tl.length*5+j,none⟩=some u:=λj u hu=>by
 have hj:j<5:=(gD.1 hu).1
 have hh:((h::tl).reverse)[tl.length]?=some h:=by
  rw[Hr,oM (by simp),Db,uC];rfl
 have:=hown.cells (g:=gl) rfl _ _ ((iO pg _ tl.length h hh j hj).trans hu);rw[gQ,kU]at this;exact this
theorem fV.top(hS:fV w0 w rb c q lv R)(hst:q.st=h::tl):∃gl cap,lv=.slice (some ⟨gl,0,none⟩) (tl.length+1) cap/\(∀o,w.frozen? ⟨gl,o,none⟩=false)/\(∀j u,(nz h)[j]?=some u->w.cell? ⟨gl,tl.length*5+j,none⟩=some u)/\w.cell? ⟨rb,8,none⟩=some (.slice (some ⟨gl,0,none⟩) (tl.length+1) cap)/\R gl:=by
 obtain⟨nv,dv,L,hM,hL,hTr,rfl⟩:=hS;have hl:=hM.levels;rw[hst]at hl;obtain⟨gl,cap,hv,_,hf,_,_⟩:=jM (E:=pg) hl (by simp);have hlen:((h::tl).reverse).length=tl.length+1:=by simp
 rw[hlen]at hv;have c8:=Yy hM.box;subst hv;exact⟨gl,cap,rfl,hf,X9 hl,c8,.inr (.inr (.inl rfl))⟩
theorem fV.DI{gl n cap:Nat}(hS:fV w0 w rb c q (.slice (some ⟨gl,0,none⟩) n cap) R)(hst:q.st=h::tl)(j:Nat)(u:Value)(h':Pr.Lv)(hc:nz h'=(nz h).set j u)(hj:j<5):
 fV w0 (w.setCell ⟨gl,tl.length*5+j,none⟩ u) rb c {q with st:=h'::tl} (.slice (some ⟨gl,0,none⟩) n cap) R/\FP w (w.setCell ⟨gl,tl.length*5+j,none⟩ u) rb R R:=by
 obtain⟨nv,dv,L,hM,hL,hTr,rfl⟩:=hS;have hgR:jR nv dv (.slice (some ⟨gl,0,none⟩) n cap) L gl:=.inr (.inr (.inl rfl));have hr:=hM.rows hgR;have st:∀k,k≠gl->(w.setCell ⟨gl,tl.length*5+j,none⟩ u).heap[k]?=w.heap[k]?:=λk hk=>jf _ _ _ _ hk
 have hlv:=hM.levels;have hh:(q.st.reverse)[tl.length]?=some h:=by
  rw[hst,Hr,oM (by simp),Db,uC];rfl
 have hset:=rX (E:=pg) hlv tl.length j h h' u hh hc hj;have hrev:q.st.reverse.set tl.length h'=(h'::tl).reverse:=by
  rw[hst,Hr,Hr,Ht _ _ (by simp),Db,uC];rfl
 rw[hrev]at hset
 refine⟨⟨nv,dv,L,⟨hM.lu.setCell (p:=⟨gl,tl.length*5+j,none⟩) hr.1 u,hM.ctx,hM.low,(st rb (λe=>hr.2.2 e.symm)).trans hM.box,hM.nodes.same (λg hg=>st g (λe=>?_)),fU hM.told (λg hg=>st g (λe=>fH hlv hM.told (by decide) gl rfl (e▸hg))),hset⟩,hL,hTr,rfl⟩,
  uP (w6:=w) (fI _ _) (x:=.slice none 0 0) ⟨rfl,rfl,rfl,fB _,λ_ _ _=>rfl⟩ (λg e=>by cases e) (λk hk=>.inl hk) (.inr hgR) _ u⟩
 rcases hg with hg|⟨p,hp,hg⟩
 ·exact fH hlv hM.nodes.row (by decide) gl rfl (e▸hg)
 obtain⟨a,ha⟩:=lh hp;exact fH hlv (hM.nodes.kids a p ha) (by decide) gl rfl (e▸hg)
theorem fV.WI(hS:fV w0 w rb c q lv R)(x:Pr.Lv)(o:Obj)(ho:o=.cells (nz x).toArray 91):
 ∃R',fV w0 ((w.alloc o).setCell ⟨rb,8,none⟩ (.slice (some ⟨w.heap.size,0,none⟩) 1 1)) rb c {q with st:=[x]} (.slice (some ⟨w.heap.size,0,none⟩) 1 1) R'/\FP w ((w.alloc o).setCell ⟨rb,8,none⟩ (.slice (some ⟨w.heap.size,0,none⟩) 1 1)) rb R R':=by
 obtain⟨nv,dv,L,hM,hL,hTr,rfl⟩:=hS;have hM1:=hM.below (fo w o);have hown:(w.alloc o).ownsRow w0.heap.size 91 5 (.slice (some ⟨w.heap.size,0,none⟩) 1 1) [x].length (pg.all [x]):=by
  rw[ho];exact JW pg w _ _ [x] _ (by simp[mr.all];rfl) (by simp) hM.size
 refine⟨_,⟨nv,dv,L,PM.toCell (C:=jN c nv dv lv q.row q.en) hM1.lu hM1.ctx hM1.low hM1.box rfl hM1.nodes hM1.told hown,hL,hTr,rfl⟩,?_,λk h1 h2 h3=>?_,λk hk=>?_⟩
 ·have:((w.alloc o).setCell ⟨rb,8,none⟩ (.slice (some ⟨w.heap.size,0,none⟩) 1 1)).heap.size=w.heap.size+1:=by simp
  omega
 ·rw[jf _ _ _ _ h2];exact(fo w o).block k h1
 rcases hk with hk|hk|hk|hk
 ·exact .inl (.inl hk)
 ·exact .inl (.inr (.inl hk))
 ·have hk:some w.heap.size=some k:=hk;injection hk with hk
  exact .inr (by omega)
 exact .inl (.inr (.inr (.inr hk)))
theorem fV.U5(hS:fV w0 w rb c q lv R):∃R',fV w0 (w.setCell ⟨rb,8,none⟩ (.slice none 0 0)) rb c {q with st:=[]} (.slice none 0 0) R'/\FP w (w.setCell ⟨rb,8,none⟩ (.slice none 0 0)) rb R R':=by
 obtain⟨nv,dv,L,hM,hL,hTr,rfl⟩:=hS;refine⟨_,⟨nv,dv,L,PM.toCell (C:=jN c nv dv lv q.row q.en) hM.lu hM.ctx hM.low hM.box rfl hM.nodes hM.told (kY pg _ _),hL,hTr,rfl⟩,?_,λk h1 h2 h3=>jf _ _ _ _ h2,λk hk=>?_⟩
 ·have:(w.setCell ⟨rb,8,none⟩ (.slice none 0 0)).heap.size=w.heap.size:=by simp
  omega
 rcases hk with hk|hk|hk|hk
 ·exact .inl (.inl hk)
 ·exact .inl (.inr (.inl hk))
 ·cases hk
 exact .inl (.inr (.inr (.inr hk)))
end
theorem vO(w:World)(rb gl m cap:Nat)(c8:w.cell? ⟨rb,8,none⟩=some (.slice (some ⟨gl,0,none⟩) (m+1) cap))(hm:m<=1000000):
 Calls prog 66 #[RP rb] w λe w'=>e=.returned (.pointer (some ⟨gl,m*5,none⟩))/\∃n,w'=w.drewN n:=by
 have gw:IntKind.i64.wrap (((m+1:Nat):Int)-1)=(m:Int):=by
  rw[show((m+1:Nat):Int)-1=(m:Int)by omega];exact qL _ (by omega)
 have aa:IntKind.i64.wrap ((m:Int)+1-1)=(m:Int):=by
  rw[show(m:Int)+1-1=(m:Int)by omega];exact qL _ (by omega)
 have ae:IntKind.i64.wrap (m:Int)=(m:Int):=qL _ (by omega);have af:wrap64 (m:Int)=(m:Int):=uF _ (by omega);have g1:(m:Int)<(m:Int)+1:=by omega
 have g2:(m:Int)<((m+1:Nat):Int):=by omega
 clear hm
 go_enter func66,ntmps66
 go_wp2_with fail
 go_big_quiet (fail)
 go_wp2_with fail
 go_ret;exact⟨rfl,nq,rfl⟩
theorem Nv(w:World)(gl o:Nat)(h:Pr.Lv)(hc:∀j u,(nz h)[j]?=some u->w.cell? ⟨gl,o+j,none⟩=some u):
 Calls prog 67 #[.pointer (some ⟨gl,o,none⟩)] w λe w'=>e=.returned (.int .i64 (Pr.free h:Nat))/\w=w':=by
 have c1:=hc 1 _ rfl;have c3:=hc 3 _ rfl;have c4:=hc 4 _ rfl;unfold Pr.free;cases e:h.full with
 |true=>
  rw[e]at c4;clear hc e
  go_enter func67,ntmps67
  go_wp2_with fail
  go_ret;exact⟨rfl,rfl⟩
 |false=>
  rw[e]at c4;clear hc e
  go_enter func67,ntmps67
  go_wp2_with fail
  go_ret;exact⟨rfl,rfl⟩
theorem WJ(w:World)(gl o:Nat)(h:Pr.Lv)(fG:Int)(hc:∀j u,(nz h)[j]?=some u->w.cell? ⟨gl,o+j,none⟩=some u):
 Calls prog 68 #[.pointer (some ⟨gl,o,none⟩),.int .i64 fG] w λe w'=>e=.returned (.bool (!h.full&&decide (h.fG<fG)))/\w=w':=by
 have c2:=hc 2 _ rfl;have c4:=hc 4 _ rfl;cases e:h.full with
 |true=>
  rw[e]at c4;clear hc e
  go_enter func68,ntmps68
  go_wp2_with fail
  go_ret;exact⟨rfl,rfl⟩
 |false=>
  rw[e]at c4;clear hc e
  go_enter func68,ntmps68
  go_wp2_with fail
  go_ret;exact⟨by simp,rfl⟩
end
section
open Go.RowKit
open Sq
open Ar
theorem fV.c8{w0 w:World}{rb:Nat}{c:Ctx}{q:Pr.QS}{lv:Value}{R:Nat->Prop}(hS:fV w0 w rb c q lv R):∃a cap,lv=.slice a q.st.length cap/\w.cell? ⟨rb,8,none⟩=some (.slice a q.st.length cap)/\(∀o,w.frozen? ⟨rb,o,none⟩=false):=by
 obtain⟨nv,dv,L,hM,hL,hTr,rfl⟩:=hS;obtain⟨a,cap,hv⟩:=(Reads.fJ (E:=pg) hM.levels).shape;rw[Db]at hv;have h8:=Yy hM.box;subst hv;exact⟨a,cap,rfl,h8,hM.free⟩
theorem Ap(w0 w:World)(rb:Nat)(c:Ctx)(q:Pr.QS)(lv:Value)(R:Nat->Prop)(i:Nat)(hS:fV w0 w rb c q lv R)(h0:0<q.s.t.length)(hn:q.s.t.length<=900000000000)(hi:i<=100000):
 Calls prog 60 #[RP rb,.int .i64 i] w (qM w0 w rb c R (.tuple #[]) (Pr.fM q i)):=by
 obtain⟨Q,hQ⟩:=fq (qM w0 w rb c R (.tuple #[]) (Pr.fM q i));rw[hQ];unfold Pr.fM at hQ;obtain⟨a,cap,rfl,c8,-⟩:=hS.c8;cases hst:q.st with
 |nil=>
  rw[hst]at hQ c8;dsimp only at hQ;have hA:=Nh w0 w rb c q _ R 0 2 i (i+1) hS h0 hn;obtain⟨N,hN⟩:=fq (q.s.t.length);rw[hN]at hA hQ;obtain⟨HA,HQ⟩:=fT hA hQ;have gw:wrap64 ((i:Int)+1)=((i+1:Nat):Int):=by rw[uF _ (by omega)];omega
  have hl0:([]:List Pr.Lv).length=0:=rfl;rw[hl0]at c8;clear hA hQ hS hst hN h0 hn hi hl0
  go_enter func60,ntmps60
  go_wp2_with fail
  refine HA.out.mono ?_;rintro e w1 ⟨rfl,R1,hS1,hF1⟩;obtain⟨a1,k1,-,aa,f81⟩:=(hS1.below (fo w1 (.cells #[.int .i64 2,.int .i64 (N:Int),.int .i64 (-1),.int .i64 (N:Int),.bool false] 91))).c8;have f8:=f81 8;obtain⟨R2,hS2,hF2⟩:=hS1.WI ⟨2,N,-1,N,false⟩ (.cells #[.int .i64 2,.int .i64 (N:Int),.int .i64 (-1),.int .i64 (N:Int),.bool false] 91) rfl;have HD:=eZ (show Q (.returned (.tuple #[])) _ by rw[<-HQ.out];exact⟨rfl,_,R2,hS2,hF1.trans hF2⟩);clear hS1 hF1 hS2 hF2 HA HQ f81;go_wp2_with fail
  try go_end0
  exact HD.out
 |cons x r=>
  rw[hst]at hQ c8;dsimp only at hQ;have HD:=eZ (show Q (.returned (.tuple #[])) w by rw[<-hQ];exact⟨rfl,_,R,hS,FP.refl _ _ _⟩);obtain⟨M,hM⟩:=fq ((x::r).length);have hM0:0<M:=by rw[<-hM];simp
  rw[hM]at c8;have g:((M:Int)==0)=false:=by simp;omega
  clear hQ hS hst hM hM0 h0 hn hi
  go_enter func60,ntmps60
  go_wp2_with fail
  try go_end0
  exact HD.out
abbrev Di(e:Rw.E):Value:=.agg #[.bool e.dash,.int .i64 e.fG,.int .i64 e.from',.int .i64 e.bu]
theorem Uc(w:World)(e:Rw.E):Calls prog 101 #[Di e] w λr w'=>r=.returned (.int .i64 (Ps.kindOf e:Nat))/\Below w.heap.size w w':=by
 obtain⟨d,fG,f,t⟩:=e;have HB:=eZ (fo w (.cells #[.bool d,.int .i64 fG,.int .i64 (f:Int),.int .i64 (t:Int)] 97));unfold Ps.kindOf;cases d with
 |true=>
  go_enter func101,ntmps101
  go_wp2_with fail
  go_ret;exact⟨rfl,HB.out⟩
 |false=>
  go_enter func101,ntmps101
  go_wp2_with fail
  go_ret;exact⟨rfl,HB.out⟩
end
end Go.Proofs.YtmkkdjpebbdikaaGreatDoor

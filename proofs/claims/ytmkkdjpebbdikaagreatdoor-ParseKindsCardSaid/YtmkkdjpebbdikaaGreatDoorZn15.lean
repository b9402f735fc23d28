import Derived.Test.YtmkkdjpebbdikaaGreatDoorZn09
import Derived.Test.YtmkkdjpebbdikaaGreatDoorZn13
set_option linter.all false
set_option maxHeartbeats 16000000
set_option maxRecDepth 100000
namespace Go.Proofs.YtmkkdjpebbdikaaGreatDoor
open Go.RowKit Go.Proofs.Tryz
namespace Sq
open Go.RowKit
section
variable {α:Type}{E:mr α}{w:World}
theorem nL{P:Program}{t e:TypeId}{bytes:Nat}(T:Ty P E t e bytes){ops:Array Oper}{o:Oper}{act:Act}{K:Act->World->Prop}{Q:Exit->Act->World->Prop}{G:Prop}(hgd:o.guard=none)(x y:Operand)
 (ho:o.op=.call {callee:=.builtin .append,args:=#[x,y],argTypes:=#[t,t]})
 (base:Nat) (v:Value) (l:List α) (hs:act.eval x=v) (hown:w.ownsRow base e E.k v l.length (E.all l)) (b m:Nat) (us:List α) (hm:us.length=m) (hy:act.eval y=.slice (some ⟨b,0,none⟩) m m)
 (hnew:∀j c,(E.all us)[j]?=some c->w.cell? ⟨b,j,none⟩=some c) (hmax:l.length+m<=maxLen) (hlen:(l.length+m)*bytes<=140737488355328) (hbase:base<=w.heap.size)
 (h:∀v' w',w'.ownsRow base e E.k v' (l++us).length (E.all (l++us))->w.grownBy w' v.ownBlock->(v'.ownBlock=v.ownBlock\/v'.ownBlock=some w.heap.size)->K (act.put o.dst v') w'):
 if Region.wanted o (yielded ops act.tmps)=true then Oper.wp P o act w K Q else G:=by
 obtain⟨i,z,hi,hz,hsz,hby,hzs⟩:=T.parts;have hw:Region.wanted o (yielded ops act.tmps)=true:=by simp[Region.wanted,hgd]
 rw[eY hw];obtain⟨v',w',hrun,q1,q2,_,q3⟩:=run_append_own_at (P:=P) (w:=w) base t o.type e i z E.k bytes T.ht hi hz hsz hby hzs E.pos v l.length (E.all l) hown ⟨b,0,none⟩ m m (E.all us) (by rw[kX,hm]) (λj c hj=>by rw[gQ,kU];exact hnew j c hj) (uL E us) hmax hlen hbase;unfold Oper.wp execOp;simp only[ho,resolve,invoke,builtin,VE,VF,VG,Vr,wB,Ho,hs,hy,hrun];exact h v' w' (by rw[uK,iJ,hm];exact q1) q2 q3
theorem fU{w':World}{B e size n:Nat}{v:Value}{xs:List Value}(h:w.ownsRow B e size v n xs)(hk:∀g,v.ownBlock=some g->w'.heap[g]?=w.heap[g]?):w'.ownsRow B e size v n xs:=by
 obtain⟨h1,h2⟩:=h;refine⟨h1,?_⟩;rcases h2 with h2|⟨g,cap,cur,hv,hg,hh,hr⟩
 ·exact .inl h2
 exact .inr ⟨g,cap,cur,hv,hg,(hk g (by rw[hv];rfl)).trans hh,hr⟩
end
end Sq
section
open Go.RowKit
open Sq
open Ar
def Ou(x:Fl.Dg):List Value:=[.int .i64 x.code,.int .i64 x.f,.int .i64 x.t]
def ib:mr Fl.Dg:=⟨Ou,3,by decide,λ_=>rfl,λx u hu=>by
 cases hu with
 |head=>rfl
 |tail _ hu=>cases hu with
  |head=>rfl
  |tail _ hu=>cases hu with
   |head=>rfl
   |tail _ hu=>cases hu⟩
theorem YE:Ty prog ib 32 40 24:=Ty.of (z:=.agg #[.int .i64 0,.int .i64 0,.int .i64 0]) underlying32 (by kernel_rfl) (by kernel_rfl) rfl (λw=>by kernel_rfl)
def jT(nv dv:Value)(L:List Ln)(g:Nat):Prop:=nv.ownBlock=some g\/dv.ownBlock=some g\/∃p∈L,p.val.ownBlock=some g
structure FP(w w':World)(rb:Nat)(R R':Nat->Prop):Prop where
 size:w.heap.size<=w'.heap.size
 block:∀k,k<w.heap.size->k≠rb->¬R k->w'.heap[k]?=w.heap[k]?
 rows:∀k,R' k->R k\/w.heap.size<=k
theorem FP.trans{a b c:World}{rb:Nat}{R R' aa:Nat->Prop}(h:FP a b rb R R')(g:FP b c rb R' aa):FP a c rb R aa :=
 ⟨jU h.size g.size,λk hk hr hn=>(g.block k (wC hk h.size) hr (λh2=>(h.rows k h2).elim hn (λh3=>absurd hk (RI.2 h3)))).trans (h.block k hk hr hn),
  λk hk=>(g.rows k hk).elim (λh2=>h.rows k h2) (λh2=>.inr (jU h.size h2))⟩
theorem FP.below{w w':World}{rb:Nat}{R:Nat->Prop}(h:Below w.heap.size w w'):FP w w' rb R R:=⟨h.size,λk hk _ _=>h.block k hk,λk hk=>.inl hk⟩
theorem FP.refl(w:World)(rb:Nat)(R:Nat->Prop):FP w w rb R R:=FP.below (fI _ _)
theorem fF{w:World}{B e s n rb:Nat}{v:Value}{xs:List Value}{C:Array Value}{T:TypeId}{fr:Nat×Nat}(h:w.ownsRow B e s v n xs)(hb:w.heap[rb]?=some (.cells C T fr))(hne:e≠T):v.ownBlock≠some rb:=λhg=>by
 rcases h.2 with⟨h1,_⟩|⟨b,cap,cur,hv,_,hh,_⟩
 ·rw[h1]at hg;cases hg
 rw[hv]at hg;obtain rfl:b=rb:=by simpa [Value.ownBlock]using hg
 rw[hh]at hb;injection hb with hb
 injection hb with _ h3
 exact hne h3
structure RM(w0 w:World)(rb:Nat)(tv nv dv:Value)(l:List Tk)(L:List Ln)(D:List Fl.Dg):Prop where
 lu:Below w0.heap.size w0 w
 toks:Reads iU w0 tv l
 size:l.length<=100000
 low:w0.heap.size<=rb
 box:w.heap[rb]?=some (.cells #[tv,nv,dv] 154 (0,0))
 nodes:OT w w0.heap.size nv L
 told:w.ownsRow w0.heap.size 40 3 dv D.length (ib.all D)
section
variable {w0 w w':World}{rb:Nat}{tv nv dv:Value}{l:List Tk}{L:List Ln}{D:List Fl.Dg}
theorem RM.lt(h:RM w0 w rb tv nv dv l L D):rb<w.heap.size:=il h.box
theorem RM.cells(h:RM w0 w rb tv nv dv l L D):w.cell? ⟨rb,0,none⟩=some tv/\w.cell? ⟨rb,1,none⟩=some nv/\w.cell? ⟨rb,2,none⟩=some dv:=
 ⟨(gG h.box 0).trans rfl,(gG h.box 1).trans rfl,(gG h.box 2).trans rfl⟩
theorem RM.rt(h:RM w0 w rb tv nv dv l L D):RT w rb tv l:=⟨h.cells.1,h.toks.below h.lu,h.size⟩
theorem RM.rows(h:RM w0 w rb tv nv dv l L D){g:Nat}(hg:jT nv dv L g):w0.heap.size<=g/\g<w.heap.size/\g≠rb:=by
 rcases hg with hg|hg|⟨p,hp,hg⟩
 ·exact⟨(h.nodes.row.lt g hg).1,(h.nodes.row.lt g hg).2,λe=>fF h.nodes.row h.box (by decide) (e▸hg)⟩
 ·exact⟨(h.told.lt g hg).1,(h.told.lt g hg).2,λe=>fF h.told h.box (by decide) (e▸hg)⟩
 obtain⟨i,hi⟩:=lh hp;have hk:=h.nodes.kids i p hi;exact⟨(hk.lt g hg).1,(hk.lt g hg).2,λe=>fF hk h.box (by decide) (e▸hg)⟩
theorem RM.keep(h:RM w0 w rb tv nv dv l L D)(hb:Below w0.heap.size w0 w')(hk:∀g,g=rb\/jT nv dv L g->w'.heap[g]?=w.heap[g]?):RM w0 w' rb tv nv dv l L D:=
 ⟨hb,h.toks,h.size,h.low,(hk rb (.inl rfl)).trans h.box,⟨fU h.nodes.row (λg hg=>hk g (.inr (.inl hg))),λi p hp=>fU (h.nodes.kids i p hp) (λg hg=>hk g (.inr (.inr (.inr ⟨p,iK hp,hg⟩)))),h.nodes.apart⟩,
  fU h.told (λg hg=>hk g (.inr (.inr (.inl hg))))⟩
theorem RM.below(h:RM w0 w rb tv nv dv l L D)(hb:Below w.heap.size w w'):RM w0 w' rb tv nv dv l L D:=
 h.keep (h.lu.trans (hb.mono h.lu.size)) (λg hg=>hb.block g (hg.elim (λe=>e▸h.lt) (λh2=>(h.rows h2).2.1)))
theorem RM.store(h:RM w0 w rb tv nv dv l L D){b:Nat}(h0:w0.heap.size<=b)(hr:b≠rb)(hn:¬jT nv dv L b)(o:Nat)(u:Value):RM w0 (w.setCell ⟨b,o,none⟩ u) rb tv nv dv l L D:=
 h.keep (h.lu.setCell (p:=⟨b,o,none⟩) h0 u) (λg hg=>jf _ _ _ _ (λe=>hg.elim (λh2=>hr (e.symm.trans h2)) (λh2=>hn ((show g=b from e)▸h2))))
theorem RM.TM{aa:Value}{L':List Ln}(h:RM w0 w rb tv nv dv l L D)(hb:Below w0.heap.size w0 w')(hx:w'.heap[rb]?=some (.cells #[tv,nv,dv] 154 (0,0)))(hO:OT w' w0.heap.size aa L')(hT:w'.ownsRow w0.heap.size 40 3 dv D.length (ib.all D)):
 RM w0 (w'.setCell ⟨rb,1,none⟩ aa) rb tv aa dv l L' D:=by
 have st:∀g,g≠rb->(w'.setCell ⟨rb,1,none⟩ aa).heap[g]?=w'.heap[g]?:=λg hg=>jf _ _ _ _ hg
 refine⟨hb.setCell (p:=⟨rb,1,none⟩) h.low _,h.toks,h.size,h.low,?_,⟨fU hO.row (λg hg=>st g (λe=>fF hO.row hx (by decide) (e▸hg))),λi p hp=>fU (hO.kids i p hp) (λg hg=>st g (λe=>fF (hO.kids i p hp) hx (by decide) (e▸hg))),hO.apart⟩,
  fU hT (λg hg=>st g (λe=>fF hT hx (by decide) (e▸hg)))⟩
 exact qb hx aa
theorem RM.Wz{aa:Value}{D':List Fl.Dg}(h:RM w0 w rb tv nv dv l L D)(hb:Below w0.heap.size w0 w')(hx:w'.heap[rb]?=some (.cells #[tv,nv,dv] 154 (0,0)))(hO:OT w' w0.heap.size nv L)(hT:w'.ownsRow w0.heap.size 40 3 aa D'.length (ib.all D')):
 RM w0 (w'.setCell ⟨rb,2,none⟩ aa) rb tv nv aa l L D':=by
 have st:∀g,g≠rb->(w'.setCell ⟨rb,2,none⟩ aa).heap[g]?=w'.heap[g]?:=λg hg=>jf _ _ _ _ hg
 refine⟨hb.setCell (p:=⟨rb,2,none⟩) h.low _,h.toks,h.size,h.low,?_,⟨fU hO.row (λg hg=>st g (λe=>fF hO.row hx (by decide) (e▸hg))),λi p hp=>fU (hO.kids i p hp) (λg hg=>st g (λe=>fF (hO.kids i p hp) hx (by decide) (e▸hg))),hO.apart⟩,
  fU hT (λg hg=>st g (λe=>fF hT hx (by decide) (e▸hg)))⟩
 exact qb hx aa
end
def RS(w0 w:World)(rb:Nat)(tv:Value)(l:List Tk)(s:Fl.fV)(R:Nat->Prop):Prop:=
 ∃nv dv L,RM w0 w rb tv nv dv l L s.d/\L.map Ln.nd=s.q/\R=jT nv dv L
section
variable {w0 w w':World}{rb:Nat}{tv:Value}{l:List Tk}{s:Fl.fV}{R:Nat->Prop}
theorem RS.below(h:RS w0 w rb tv l s R)(hb:Below w.heap.size w w'):RS w0 w' rb tv l s R:=by
 obtain⟨nv,dv,L,h1,h2,h3⟩:=h;exact⟨nv,dv,L,h1.below hb,h2,h3⟩
theorem RS.rt(h:RS w0 w rb tv l s R):RT w rb tv l:=by
 obtain⟨nv,dv,L,h1,h2,h3⟩:=h;exact h1.rt
theorem RS.lu(h:RS w0 w rb tv l s R):Below w0.heap.size w0 w:=by
 obtain⟨nv,dv,L,h1,h2,h3⟩:=h;exact h1.lu
theorem RS.lt(h:RS w0 w rb tv l s R):w0.heap.size<=rb/\rb<w.heap.size:=by
 obtain⟨nv,dv,L,h1,h2,h3⟩:=h;exact⟨h1.low,h1.lt⟩
theorem RS.rows(h:RS w0 w rb tv l s R){g:Nat}(hg:R g):w0.heap.size<=g/\g<w.heap.size/\g≠rb:=by
 obtain⟨nv,dv,L,h1,h2,rfl⟩:=h;exact h1.rows hg
theorem RS.store(h:RS w0 w rb tv l s R){b:Nat}(h0:w0.heap.size<=b)(hr:b≠rb)(hn:¬R b)(o:Nat)(u:Value):RS w0 (w.setCell ⟨b,o,none⟩ u) rb tv l s R:=by
 obtain⟨nv,dv,L,h1,h2,rfl⟩:=h;exact⟨nv,dv,L,h1.store h0 hr hn o u,h2,rfl⟩
end
section
variable {w0 w w':World}{rb:Nat}{tv nv dv:Value}{l:List Tk}{L:List Ln}{D:List Fl.Dg}
theorem jT.set{i:Nat}{p p':Ln}{k:Nat}(hv:p'.val=p.val)(hp:L[i]?=some p)(h:jT nv dv (L.set i p') k):jT nv dv L k:=by
 rcases h with h|h|⟨q,hq,h⟩
 ·exact .inl h
 ·exact .inr (.inl h)
 refine .inr (.inr ?_);obtain⟨j,hj⟩:=lh hq;rw[nW]at hj;split at hj
 ·split at hj
  ·injection hj with hj
   subst hj;exact⟨p,iK hp,hv▸h⟩
  cases hj
 exact⟨q,iK hj,h⟩
theorem RM.setNode{g n cap:Nat}(h:RM w0 w rb tv (.slice (some ⟨g,0,none⟩) n cap) dv l L D)(i j:Nat)(p:Ln)(nd:Nd)(u:Value)(hp:L[i]?=some p)(hks:nd.ks=p.nd.ks)(hc:lN {p with nd:=nd}=(lN p).set j u)(hj:j<6):
 RM w0 (w.setCell ⟨g,i*6+j,none⟩ u) rb tv (.slice (some ⟨g,0,none⟩) n cap) dv l (L.set i {p with nd:=nd}) D/\
 FP w (w.setCell ⟨g,i*6+j,none⟩ u) rb (jT (.slice (some ⟨g,0,none⟩) n cap) dv L) (jT (.slice (some ⟨g,0,none⟩) n cap) dv (L.set i {p with nd:=nd})):=by
 have hg:jT (.slice (some ⟨g,0,none⟩) n cap) dv L g:=.inl rfl;have hr:=h.rows hg;have st:∀k,k≠g->(w.setCell ⟨g,i*6+j,none⟩ u).heap[k]?=w.heap[k]?:=λk hk=>jf _ _ _ _ hk
 have hd:dv.ownBlock≠some g:=λe=>fH h.nodes.row h.told (by decide) g rfl e
 refine⟨⟨h.lu.setCell (p:=⟨g,i*6+j,none⟩) hr.1 u,h.toks,h.size,h.low,(st rb (λe=>hr.2.2 e.symm)).trans h.box,h.nodes.set i j p nd u hp hks hc hj,fU h.told (λk hk=>st k (λe=>hd (e▸hk)))⟩,
  ⟨?_,λk _ _ hn=>st k (λe=>hn (e▸hg)),λk hk=>.inl (jT.set (p:=p) (p':={p with nd:=nd}) rfl hp hk)⟩⟩
 exact(fI 0 w|>.setCell (p:=⟨g,i*6+j,none⟩) (ic _) u).size
end
def Goes(w0 w:World)(rb:Nat)(tv:Value)(l:List Tk)(R:Nat->Prop)(v:Value)(s:Fl.fV)(e:Ending)(w':World):Prop:=
 e=.returned v/\∃R',RS w0 w' rb tv l s R'/\FP w w' rb R R'
end
section
open Go.RowKit
open Sq
open Ar
section
variable {w0 w w6:World}{rb:Nat}{tv nv dv:Value}{l:List Tk}{L:List Ln}{D:List Fl.Dg}{o:Obj}
theorem RM.push{v6:Value}{p:Ln}(h:RM w0 w rb tv nv dv l L D)(hv:p.val=.slice none 0 0)(hks:p.nd.ks=[])(hg:(w.alloc o).grownBy w6 nv.ownBlock)(hown:w6.ownsRow w0.heap.size 38 6 v6 (L++[p]).length (gP.all (L++[p])))
 (hat:v6.ownBlock=nv.ownBlock\/v6.ownBlock=some (w.alloc o).heap.size):
 Below w0.heap.size w0 w6/\w6.heap[rb]?=some (.cells #[tv,nv,dv] 154 (0,0))/\
 RM w0 (w6.setCell ⟨rb,1,none⟩ v6) rb tv v6 dv l (L++[p]) D/\FP w (w6.setCell ⟨rb,1,none⟩ v6) rb (jT nv dv L) (jT v6 dv (L++[p])):=by
 have hsz:(w.alloc o).heap.size=w.heap.size+1:=size_alloc w o;have hoff:nv.ownBlock≠some rb:=fF h.nodes.row h.box (by decide);have aa:w6.heap[rb]?=some (.cells #[tv,nv,dv] 154 (0,0)):=
  ((hg.block rb (by rw[hsz];exact RH h.lt) (λe=>hoff e.symm)).trans ((fo w o).block rb h.lt)).trans h.box
 have hO:=h.nodes.push (p:=p) (by rw[hks,hv];exact kY encI _ _) (λj q _ gg hgg=>by rw[hv]at hgg;cases hgg) hg hown;have hT:=(h.told.alloc o).kept hg (mG (fH h.nodes.row h.told (by decide)));have hb6:Below w0.heap.size w0 w6:=(h.lu.alloc h.lu.size o).grown hg (by rw[hsz];have:=h.lu.size;omega) (λq hq=>(h.nodes.row.lt q hq).1);refine⟨hb6,aa,h.TM hb6 aa hO hT,?_,λk hk1 hk2 hn=>?_,λk hk=>?_⟩
 ·have h1:=hg.size;have h2:(w6.setCell ⟨rb,1,none⟩ v6).heap.size=w6.heap.size:=by simp
  omega
 ·rw[jf _ _ _ _ hk2,hg.block k (by omega) (λe=>hn (.inl e.symm)),(fo w o).block k hk1]
 rcases hk with hk|hk|⟨q,hq,hk⟩
 ·rcases hat with e|e
  ·exact .inl (.inl (e▸hk))
  rw[e]at hk;injection hk with hk
  exact .inr (by omega)
 ·exact .inl (.inr (.inl hk))
 rw[mU]at hq;rcases hq with hq|hq
 ·exact .inl (.inr (.inr ⟨q,hq,hk⟩))
 simp at hq;subst hq;rw[hv]at hk;cases hk
theorem RM.kid{g n cap i:Nat}{p:Ln}{a':Option Addr}{n' c':Nat}(h:RM w0 w rb tv (.slice (some ⟨g,0,none⟩) n cap) dv l L D)(hp:L[i]?=some p)(z:Int)(hg:(w.alloc o).grownBy w6 p.val.ownBlock)
 (hown:w6.ownsRow w0.heap.size 3 1 (.slice a' n' c') (p.nd.ks++[z]).length (encI.all (p.nd.ks++[z]))) (hat:(Value.slice a' n' c').ownBlock=p.val.ownBlock\/(Value.slice a' n' c').ownBlock=some (w.alloc o).heap.size):
 w6.heap[rb]?=w.heap[rb]?/\w6.heap[g]?=w.heap[g]? /\
 RM w0 (w6.setCell ⟨g,i*6+4,none⟩ (.slice a' n' c')) rb tv (.slice (some ⟨g,0,none⟩) n cap) dv l (L.set i ⟨{p.nd with ks:=p.nd.ks++[z]},a',n',c'⟩) D/\
 FP w (w6.setCell ⟨g,i*6+4,none⟩ (.slice a' n' c')) rb (jT (.slice (some ⟨g,0,none⟩) n cap) dv L) (jT (.slice (some ⟨g,0,none⟩) n cap) dv (L.set i ⟨{p.nd with ks:=p.nd.ks++[z]},a',n',c'⟩)):=by
 have hsz:(w.alloc o).heap.size=w.heap.size+1:=size_alloc w o;have hpk:=h.nodes.kids i p hp;have hoff:p.val.ownBlock≠some rb:=fF hpk h.box (by decide);have hgr:=h.rows (.inl rfl:jT (.slice (some ⟨g,0,none⟩) n cap) dv L g);have aa:p.val.ownBlock≠some g:=λe=>fH hpk h.nodes.row (by decide) g e rfl
 have b1:w6.heap[rb]?=w.heap[rb]?:=(hg.block rb (by rw[hsz];exact RH h.lt) (λe=>hoff e.symm)).trans ((fo w o).block rb h.lt);have b2:w6.heap[g]?=w.heap[g]?:=(hg.block g (by rw[hsz];exact RH hgr.2.1) (λe=>aa e.symm)).trans ((fo w o).block g hgr.2.1);have st:∀k,k≠g->(w6.setCell ⟨g,i*6+4,none⟩ (.slice a' n' c')).heap[k]?=w6.heap[k]?:=λk hk=>jf _ _ _ _ hk
 have hb6:Below w0.heap.size w0 w6:=(h.lu.alloc h.lu.size o).grown hg (by rw[hsz];have:=h.lu.size;omega) (λq hq=>(hpk.lt q hq).1);have hT:=(h.told.alloc o).kept hg (mG (fH hpk h.told (by decide)));have hdg:dv.ownBlock≠some g:=λe=>fH h.nodes.row h.told (by decide) g rfl e
 refine⟨b1,b2,⟨hb6.setCell (p:=⟨g,i*6+4,none⟩) hgr.1 _,h.toks,h.size,h.low,((st rb (λe=>hgr.2.2 e.symm)).trans b1).trans h.box,h.nodes.kid hp z hg hown hat,fU hT (λk hk=>st k (λe=>hdg (e▸hk)))⟩,?_,λk hk1 hk2 hn=>?_,λk hk=>?_⟩
 ·have h1:=hg.size;have h2:(w6.setCell ⟨g,i*6+4,none⟩ (.slice a' n' c')).heap.size=w6.heap.size:=by simp
  omega
 ·rw[st k (λe=>hn (.inl (by rw[e];rfl))),hg.block k (by omega) (λe=>hn (.inr (.inr ⟨p,iK hp,e.symm⟩))),(fo w o).block k hk1]
 rcases hk with hk|hk|⟨q,hq,hk⟩
 ·exact .inl (.inl hk)
 ·exact .inl (.inr (.inl hk))
 obtain⟨j,hj⟩:=lh hq;rw[nW]at hj;split at hj
 ·split at hj
  ·injection hj with hj
   subst hj;rcases hat with e|e
   ·exact .inl (.inr (.inr ⟨p,iK hp,e▸hk⟩))
   have hk:(Value.slice a' n' c').ownBlock=some k:=hk;rw[e]at hk;injection hk with hk
   exact .inr (by omega)
  cases hj
 exact .inl (.inr (.inr ⟨q,iK hj,hk⟩))
theorem RM.more{v6:Value}{x:Fl.Dg}(h:RM w0 w rb tv nv dv l L D)(hg:(w.alloc o).grownBy w6 dv.ownBlock)(hown:w6.ownsRow w0.heap.size 40 3 v6 (D++[x]).length (ib.all (D++[x])))
 (hat:v6.ownBlock=dv.ownBlock\/v6.ownBlock=some (w.alloc o).heap.size):
 Below w0.heap.size w0 w6/\w6.heap[rb]?=some (.cells #[tv,nv,dv] 154 (0,0))/\
 RM w0 (w6.setCell ⟨rb,2,none⟩ v6) rb tv nv v6 l L (D++[x])/\FP w (w6.setCell ⟨rb,2,none⟩ v6) rb (jT nv dv L) (jT nv v6 L):=by
 have hsz:(w.alloc o).heap.size=w.heap.size+1:=size_alloc w o;have hoff:dv.ownBlock≠some rb:=fF h.told h.box (by decide);have aa:w6.heap[rb]?=some (.cells #[tv,nv,dv] 154 (0,0)):=
  ((hg.block rb (by rw[hsz];exact RH h.lt) (λe=>hoff e.symm)).trans ((fo w o).block rb h.lt)).trans h.box
 have hO:OT w6 w0.heap.size nv L:=⟨(h.nodes.row.alloc o).kept hg (mG (fH h.told h.nodes.row (by decide))),λi p hp=>((h.nodes.kids i p hp).alloc o).kept hg (mG (fH h.told (h.nodes.kids i p hp) (by decide))),h.nodes.apart⟩
 have hb6:Below w0.heap.size w0 w6:=(h.lu.alloc h.lu.size o).grown hg (by rw[hsz];have:=h.lu.size;omega) (λq hq=>(h.told.lt q hq).1);refine⟨hb6,aa,h.Wz hb6 aa hO hown,?_,λk hk1 hk2 hn=>?_,λk hk=>?_⟩
 ·have h1:=hg.size;have h2:(w6.setCell ⟨rb,2,none⟩ v6).heap.size=w6.heap.size:=by simp
  omega
 ·rw[jf _ _ _ _ hk2,hg.block k (by omega) (λe=>hn (.inr (.inl e.symm))),(fo w o).block k hk1]
 rcases hk with hk|hk|⟨q,hq,hk⟩
 ·exact .inl (.inl hk)
 ·rcases hat with e|e
  ·exact .inl (.inr (.inl (e▸hk)))
  rw[e]at hk;injection hk with hk
  exact .inr (by omega)
 exact .inl (.inr (.inr ⟨q,hq,hk⟩))
end
end
section
open Go.RowKit
open Sq
open Ar
theorem zS(w0 w:World)(rb:Nat)(tv:Value)(l:List Tk)(s:Fl.fV)(R:Nat->Prop)(i t:Nat)(hS:RS w0 w rb tv l s R)(hi:i<s.q.length)(hn:s.q.length<=1000000):
 Calls prog 164 #[RP rb,.int .i64 i,.int .i64 t] w (Goes w0 w rb tv l R (.int .i64 t) ⟨Fl.mV s.q i t,s.d⟩):=by
 obtain⟨nv,dv,L,hM,hL,rfl⟩:=hS;have hLn:L.length=s.q.length:=by rw[<-hL,jD]
 obtain⟨p,hp⟩:=jB L i (by omega);obtain⟨g,cap,rfl,hB,hfz,hc1,hc2⟩:=jM hM.nodes.row (by omega);obtain⟨hS2,hF⟩:=hM.setNode i 2 p {p.nd with t:=(t:Int)} (.int .i64 t) hp rfl rfl (by decide);have c1:=hM.cells.2.1;have c2:w.cell? ⟨g,i*6+2,none⟩=some (.int .i64 p.nd.t):=by
  have:=hM.nodes.row.cells (g:=g) rfl _ _ ((iO gP L i p hp 2 (by decide)).trans rfl);rw[gQ,kU]at this;exact this
 have hq:(L.set i {p with nd:={p.nd with t:=(t:Int)}}).map Ln.nd=Fl.mV s.q i t:=by
  have hx:s.q[i]?=some p.nd:=by rw[<-hL,lS,hp];rfl
  unfold Fl.mV;rw[hx,<-hL,EO]
 have HD:=eZ (show Goes w0 w rb tv l (jT (.slice (some ⟨g,0,none⟩) L.length cap) dv L) (.int .i64 t) ⟨Fl.mV s.q i t,s.d⟩ (.returned (.int .i64 t)) (w.setCell ⟨g,i*6+2,none⟩ (.int .i64 t))from⟨rfl,_,⟨_,_,_,hS2,hq,rfl⟩,hF⟩);have fz:=hfz (i*6+2);obtain⟨N,hN⟩:=fq (L.length);rw[hN]at HD c1 hLn⊢;have hii:(i:Int)<(N:Int):=by omega
 have hNs:N<=1000000:=by omega
 clear hM hL hLn hp hS2 hF hq hB hfz hc1 hc2 hi hn hN;obtain⟨Q,hQ⟩:=fq (Goes w0 w rb tv l (jT (.slice (some ⟨g,0,none⟩) N cap) dv L) (.int .i64 t) ⟨Fl.mV s.q i t,s.d⟩);rw[hQ]at HD⊢;clear hQ
 go_enter func164,ntmps164
 go_wp2_with fail
 exact HD.out
end
section
open Go.RowKit
open Sq
open Ar
theorem U1(w0 w:World)(rb:Nat)(tv:Value)(l:List Tk)(s:Fl.fV)(R:Nat->Prop)(code i j:Nat)(hS:RS w0 w rb tv l s R)(hi:i<l.length)(hj:j<l.length)(hn:s.d.length<=1000000):
 Calls prog 168 #[RP rb,.int .i64 code,.int .i64 i,.int .i64 (j+1:Nat)] w (Goes w0 w rb tv l R (.tuple #[]) ⟨s.q,s.d++[⟨code,Fl.mM l i,Fl.too l j⟩]⟩):=by
 obtain⟨nv,dv,L,hM,hL,rfl⟩:=hS;obtain⟨x,hx⟩:=jB l i hi;obtain⟨y,hy⟩:=jB l j hj;have ef:Fl.mM l i=x.2.1:=by unfold Fl.mM;rw[hx]
 have et:Fl.too l j=y.2.2:=by unfold Fl.too;rw[hy]
 rw[ef,et];have hts:=hM.toks;obtain⟨ta,tc,rfl⟩:=hts.shape;obtain⟨tb,off,rfl,-,ai,-⟩:=iZ hts i x hx;obtain⟨aO,off',he,-,-,y20⟩:=iZ hts j y hy;injection he with he
 injection he with e1 e2
 subst e1 e2;obtain⟨F,hF⟩:=fq (x.2.1);obtain⟨T,hT⟩:=fq (y.2.2);rw[hF]at ai⊢;rw[hT]at y20⊢;have x1:=fu hM.lu ai;have y2:=fu hM.lu y20;obtain⟨c0,c1,c2⟩:=hM.cells;have hls:=hM.size;have hown0:=hM.told;obtain⟨da,dc,hdv⟩:=(Reads.fJ (E:=ib) hown0).shape;subst hdv
 have HQ:=eZ (λW (h:∃v6,RM w0 W rb (.slice (some ⟨tb,off,none⟩) l.length tc) nv v6 l L (s.d++[⟨code,F,T⟩])/\FP w W rb (jT nv (.slice da s.d.length dc) L) (jT nv v6 L))=>show Goes w0 w rb (.slice (some ⟨tb,off,none⟩) l.length tc) l (jT nv (.slice da s.d.length dc) L) (.tuple #[]) ⟨s.q,s.d++[⟨code,F,T⟩]⟩ (.returned (.tuple #[])) W from by
  obtain⟨v6,h1,h2⟩:=h
  exact⟨rfl,_,⟨_,_,_,h1,hL,rfl⟩,h2⟩)
 obtain⟨Q,hQ⟩:=fq (Goes w0 w rb (.slice (some ⟨tb,off,none⟩) l.length tc) l (jT nv (.slice da s.d.length dc) L) (.tuple #[]) ⟨s.q,s.d++[⟨code,F,T⟩]⟩);rw[hQ]at HQ⊢;obtain⟨HM,ak⟩:=fT hM hown0;obtain⟨DN,af⟩:=fq (s.d.length);have aD:=eZ (show s.d.length+1<=maxLen by simp only[maxLen];omega);have aF:=eZ (show(s.d.length+1)*24<=140737488355328 by omega);have aP:=eZ af;rw[af]at c2 HM HQ ak;obtain⟨N,hN⟩:=fq (l.length);rw[hN]at c0 hi hj hls HM HQ;have gi:(i:Int)<(N:Int):=by omega
 have gj:(j:Int)<(N:Int):=by omega
 have gw:IntKind.i64.wrap (((j+1:Nat):Int)-1)=(j:Int):=by
  rw[show((j+1:Nat):Int)-1=(j:Int)by omega];exact qL _ (by omega)
 have aG:IntKind.i64.wrap (j:Int)=(j:Int):=qL _ (by omega);have aQ:IntKind.i64.wrap ((j:Int)+1-1)=(j:Int):=by
  rw[show(j:Int)+1-1=(j:Int)by omega];exact aG
 obtain⟨wx,hwx⟩:=fq ((w.alloc (.cells #[.int .i64 code,.int .i64 F,.int .i64 T] 40)).drew);have hbx:Below w.heap.size w wx:=by rw[<-hwx];exact(fo w _).drew
 have aR:=eZ hbx;have aH:=eZ (show wx.ownsRow w0.heap.size 40 ib.k (.slice da DN dc) s.d.length (ib.all s.d)by rw[<-af];exact fQ hown0 hbx);have ae:∀jj c,(ib.all [(⟨code,F,T⟩:Fl.Dg)])[jj]?=some c->wx.cell? ⟨w.heap.size,jj,none⟩=some c:=by
  intro jj c hj;rw[<-hwx];show(w.alloc _).cell? ⟨w.heap.size,jj,none⟩=_;rw[vH]
  simpa [mr.all,ib,Ou]using hj
 have av:=eZ ae;have aI:=fu hbx c0;have aJ:=fu hbx c2;have aK:=fu hbx x1;have aL:=fu hbx y2;have hws:w0.heap.size<=wx.heap.size:=jU hM.lu.size hbx.size;have aj:=eZ hwx;clear hM hL hts hown0 af hN hQ hx hy ef et hF hT hwx ae hbx hi hj
 go_enter func168,ntmps168
 go_upto_region 0 with fail
 refine gK (λwx=>wx.cell? ⟨rb,0,none⟩=some (.slice (some ⟨tb,off,none⟩) N tc)/\wx.cell? ⟨rb,2,none⟩=some (.slice da DN dc)/\wx.cell? ⟨tb,off+i*3+1,none⟩=some (.int .i64 (F:Int))/\wx.cell? ⟨tb,off+j*3+2,none⟩=some (.int .i64 (T:Int))) 28 (by kernel_rfl) ?_;have hH:(λwx:World=>wx.cell? ⟨rb,0,none⟩=some (.slice (some ⟨tb,off,none⟩) N tc)/\wx.cell? ⟨rb,2,none⟩=some (.slice da DN dc)/\wx.cell? ⟨tb,off+i*3+1,none⟩=some (.int .i64 (F:Int))/\wx.cell? ⟨tb,off+j*3+2,none⟩=some (.int .i64 (T:Int))) w.drew:=⟨fE c0,fE c2,fE x1,fE y2⟩
 refine ik 0 (.pointer (some ⟨rb,0,none⟩)) rfl (by kernel_rfl) rfl fC (λW hW=>by go_simp) hH ?_;refine ik 1 (.pointer (some ⟨rb,0,none⟩)) rfl (by kernel_rfl) rfl fC (λW hW=>by go_simp) hH ?_;refine ik 2 (.pointer (some ⟨rb,0,none⟩)) rfl (by kernel_rfl) rfl fC (λW hW=>by go_simp) hH ?_;refine ik 3 (.pointer (some ⟨rb,2,none⟩)) rfl (by kernel_rfl) rfl fC (λW hW=>by go_simp) hH ?_;refine ik 4 (.slice da DN dc) rfl (by kernel_rfl) rfl fC (λW hW=>?_) hH ?_
 ·obtain⟨z0,z1,z2,z3⟩:=hW;go_simp
 refine ik 5 (.int .i64 (code:Int)) rfl (by kernel_rfl) rfl fC (λW hW=>by go_simp) hH ?_;refine ik 6 (.pointer (some ⟨rb,0,none⟩)) rfl (by kernel_rfl) rfl fC (λW hW=>by go_simp) hH ?_;refine ik 7 (.pointer (some ⟨rb,0,none⟩)) rfl (by kernel_rfl) rfl fC (λW hW=>by go_simp) hH ?_;refine ik 8 (.pointer (some ⟨rb,0,none⟩)) rfl (by kernel_rfl) rfl fC (λW hW=>by go_simp) hH ?_;refine ik 9 (.slice (some ⟨tb,off,none⟩) N tc) rfl (by kernel_rfl) rfl fC (λW hW=>?_) hH ?_
 ·obtain⟨z0,z1,z2,z3⟩:=hW;go_simp
 refine ik 10 (.int .i64 (i:Int)) rfl (by kernel_rfl) rfl fC (λW hW=>by go_simp) hH ?_;refine ik 11 (.pointer (some ⟨tb,off+i*3,none⟩)) rfl (by kernel_rfl) rfl fC (λW hW=>by go_simp) hH ?_;refine ik 12 (.pointer (some ⟨tb,off+i*3+1,none⟩)) rfl (by kernel_rfl) rfl fC (λW hW=>by go_simp) hH ?_;refine ik 13 (.int .i64 (F:Int)) rfl (by kernel_rfl) rfl fC (λW hW=>?_) hH ?_
 ·obtain⟨z0,z1,z2,z3⟩:=hW;go_simp
 refine ik 14 (.pointer (some ⟨rb,0,none⟩)) rfl (by kernel_rfl) rfl fC (λW hW=>by go_simp) hH ?_;refine ik 15 (.pointer (some ⟨rb,0,none⟩)) rfl (by kernel_rfl) rfl fC (λW hW=>by go_simp) hH ?_;refine ik 16 (.pointer (some ⟨rb,0,none⟩)) rfl (by kernel_rfl) rfl fC (λW hW=>by go_simp) hH ?_;refine ik 17 (.slice (some ⟨tb,off,none⟩) N tc) rfl (by kernel_rfl) rfl fC (λW hW=>?_) hH ?_
 ·obtain⟨z0,z1,z2,z3⟩:=hW;go_simp
 refine ik 18 (.int .i64 ((j+1:Nat):Int)) rfl (by kernel_rfl) rfl fC (λW hW=>by go_simp) hH ?_;refine ik 19 (.int .i64 (j:Int)) rfl (by kernel_rfl) rfl fC (λW hW=>by go_simp) hH ?_;refine ik 20 (.pointer (some ⟨tb,off+j*3,none⟩)) rfl (by kernel_rfl) rfl fC (λW hW=>by go_simp) hH ?_;refine ik 21 (.pointer (some ⟨tb,off+j*3+2,none⟩)) rfl (by kernel_rfl) rfl fC (λW hW=>by go_simp) hH ?_;refine ik 22 (.int .i64 (T:Int)) rfl (by kernel_rfl) rfl fC (λW hW=>?_) hH ?_
 ·obtain⟨z0,z1,z2,z3⟩:=hW;go_simp
 refine ik 23 (.agg #[.int .i64 (code:Int),.int .i64 (F:Int),.int .i64 (T:Int)]) rfl (by kernel_rfl) rfl fC (λW hW=>by go_simp) hH ?_;refine mO 24 (by kernel_rfl) rfl λK hK=>?_
 go_simp;rw[aj.out];refine hK.out _ _ (λ_=>⟨aI,aJ,aK,aL⟩) (λhH2=>?_);clear hK K;replace hH:=hH2 (by kernel_rfl);clear hH2;try simp only[Act.put,fK,fP,fO]
 refine mO 25 (by kernel_rfl) rfl λK hK=>?_
 refine nL YE rfl (.tmp 12) (.tmp 32) rfl w0.heap.size (.slice da DN dc) s.d rfl aH.out w.heap.size 1 [(⟨code,F,T⟩:Fl.Dg)] rfl rfl av.out aD.out aF.out hws ?_;intro v6 w6 hown6 ax ag;obtain⟨a6,c6,hv6⟩:=(Reads.fJ (E:=ib) hown6).shape;obtain⟨n6,ay⟩:=fq ((s.d++[(⟨code,F,T⟩:Fl.Dg)]).length);rw[ay]at hv6;clear ay;subst hv6;have hgf:=(qV ((fo w (.cells #[.int .i64 code,.int .i64 F,.int .i64 T] 40)).size|>λ_=>(fI _ (w.alloc (.cells #[.int .i64 code,.int .i64 F,.int .i64 T] 40))).drew) (Value.slice da DN dc).ownBlock)
 have hgw:(w.alloc (.cells #[.int .i64 code,.int .i64 F,.int .i64 T] 40)).grownBy w6 (Value.slice da DN dc).ownBlock:=hgf.trans (by have:=ax;rw[<-aj.out]at this;exact this);have ah:(Value.slice a6 n6 c6).ownBlock=(Value.slice da DN dc).ownBlock\/(Value.slice a6 n6 c6).ownBlock=some (w.alloc (.cells #[.int .i64 code,.int .i64 F,.int .i64 T] 40)).heap.size:=by have:=ag;rw[<-aj.out]at this;exact this
 obtain⟨hb6,aa,az,aA⟩:=HM.out.more hgw hown6 ah;have aM:w6.cell? ⟨rb,2,none⟩=some (.slice da DN dc):=(gG aa 2).trans rfl;have f26:w6.frozen? ⟨rb,2,none⟩=false:=nH aa 2;have aN:w6.cell? ⟨rb,0,none⟩=some (.slice (some ⟨tb,off,none⟩) N tc):=(gG aa 0).trans rfl;have aB:w6.cell? ⟨tb,off+i*3+1,none⟩=some (.int .i64 (F:Int)):=fu hb6 ai;have aC:w6.cell? ⟨tb,off+j*3+2,none⟩=some (.int .i64 (T:Int)):=fu hb6 y20;have HD:=eZ (HQ.out _ ⟨_,az,aA⟩);clear hown6 ax ag hgf hgw ah aa az aA hb6;refine hK.out _ _ (λ_=>⟨aN,aM,aB,aC⟩) (λhH2=>?_);clear hK K;replace hH:=hH2 (by kernel_rfl);clear hH2;try simp only[Act.put,fK,fP,fO]
 refine iD 26 (.pointer (some ⟨rb,0,none⟩)) rfl (by kernel_rfl) rfl fC (λW=>by go_simp) (λ_=>hH) ?_;refine ik 27 (.pointer (some ⟨rb,2,none⟩)) rfl (by kernel_rfl) rfl fC (λW hW=>by go_simp) hH ?_;refine mO 28 (by kernel_rfl) rfl λK hK=>?_
 go_simp;refine hK.out _ _ (kC (by kernel_rfl)) (λ_=>?_);clear hK K;try simp only[Act.put,fK,fP,fO]
 refine gH (by kernel_rfl) ?_ _;go_wp2_with fail
 go_end0
 exact HD.out
end
section
open Go.RowKit
open Sq
open Ar
theorem Sj(w0 w:World)(rb:Nat)(tv:Value)(l:List Tk)(s:Fl.fV)(R:Nat->Prop)(up:Int)(k f:Nat)(hS:RS w0 w rb tv l s R)(hu1:-1<=up)(hu2:up<s.q.length)(hn:s.q.length<=1000000)(hkl:∀x∈s.q,x.ks.length<=1000000):
 Calls prog 165 #[RP rb,.int .i64 up,.int .i64 k,.int .i64 f] w (Goes w0 w rb tv l R (.int .i64 s.q.length) ⟨Fl.iB s.q up k f,s.d⟩):=by
 obtain⟨nv,dv,L,hM,hL,rfl⟩:=hS;have hLn:L.length=s.q.length:=by rw[<-hL,jD]
 have aK:∀p∈L,p.nd.ks.length<=1000000:=λp hp=>hkl p.nd (by rw[<-hL];exact Ru hp)
 obtain⟨a,cap,rfl⟩:=(Reads.fJ (E:=gP) hM.nodes.row).shape;obtain⟨pn,hpn⟩:∃pn:Ln,(⟨⟨k,f,0,up,[],false⟩,none,0,0⟩:Ln)=pn:=⟨_,rfl⟩
 have hq0:up<0->(L++[pn]).map Ln.nd=Fl.iB s.q up k f:=λh=>by
  unfold Fl.iB;rw[eY h,wy,hL,<-hpn];rfl
 have hq1:∀(i:Nat)(p:Ln)(a':Option Addr)(n' c':Nat),up=(i:Int)->(L++[pn])[i]?=some p->((L++[pn]).set i ⟨{p.nd with ks:=p.nd.ks++[(L.length:Int)]},a',n',c'⟩).map Ln.nd=Fl.iB s.q up k f:=λi p a' n' c' hi hp=>by
  subst hi;have hil:i<L.length:=by omega
  have hp0:L[i]?=some p:=by rw[oD hil]at hp;exact hp
  have hx:s.q[i]?=some p.nd:=by rw[<-hL,lS,hp0];rfl
  unfold Fl.iB;rw[eX (by omega),jk,hx,EO,wy,hL,<-hpn,<-hLn];rfl
 have HQ:=eZ (λW (h:∃av ax L',RM w0 W rb tv av ax l L' s.d/\L'.map Ln.nd=Fl.iB s.q up k f/\FP w W rb (jT (.slice a L.length cap) dv L) (jT av ax L'))=>show Goes w0 w rb tv l (jT (.slice a L.length cap) dv L) (.int .i64 s.q.length) ⟨Fl.iB s.q up k f,s.d⟩ (.returned (.int .i64 s.q.length)) W from by
  obtain⟨av,ax,L',h1,h2,h3⟩:=h
  exact⟨rfl,_,⟨av,ax,L',h1,h2,rfl⟩,h3⟩)
 obtain⟨Q,hQ⟩:=fq (Goes w0 w rb tv l (jT (.slice a L.length cap) dv L) (.int .i64 s.q.length) ⟨Fl.iB s.q up k f,s.d⟩);rw[hQ]at HQ⊢;clear hQ;rw[<-hLn]at HQ hu2 hn;have hown0:=hM.nodes.row;have ai:=eZ hown0;have c1:=hM.cells.2.1;have aL:=eZ (show L.length+[pn].length<=maxLen by simp only[maxLen,jh,EL];omega);have aM:=eZ (show(L.length+[pn].length)*64<=140737488355328 by simp only[jh,EL];omega);have hpc:gP.cells pn=[.int .i64 k,.int .i64 f,.int .i64 0,.int .i64 up,.slice none 0 0,.bool false]:=by rw[<-hpn];rfl
 obtain⟨aN,aF,aG,aH,aO,HM⟩:=kJ hpc hpn hq0 hq1 aK hM;have hws:w0.heap.size<=(w.alloc (.cells #[.int .i64 k,.int .i64 f,.int .i64 0,.int .i64 up,.slice none 0 0,.bool false] 38)).heap.size:=by rw[size_alloc];have:=hM.lu.size;omega
 obtain⟨N,hN⟩:=fq (L.length);have HN:=eZ hN;rw[hN]at c1 hu2 hn ai HM HQ aH;clear hM hL hLn hkl aK hq0 hq1 hown0 hpc hpn hN
 go_enter func165,ntmps165
 go_upto_region 3 with(at_builtin;go_must (refine lG Hl rfl (.tmp 18) (.tmp 23) rfl w0.heap.size _ L rfl ((by rw[HN.out];exact ai.out:w.ownsRow w0.heap.size 38 gP.k (.slice a N cap) L.length (gP.all L)).alloc _) _ [pn] rfl (vT w pn _ 38 aN.out) aL.out aM.out hws ?_;intro v6 w6 hown6 aP az;obtain⟨g6,ae,hv6,aQ,aR,aS,bG⟩:=jM hown6 (by simp);rw[show(L++[pn]).length=N+1 from by rw[iJ,HN.out];rfl]at hv6 aS;subst hv6;obtain⟨hb6,af,aT,aU⟩:=HM.out.push (p:=pn) (by rw[<-aF.out]) (by rw[<-aF.out]) aP hown6 az;have c16:w6.cell? ⟨rb,1,none⟩=some (.slice a N cap):=(gG af 1).trans rfl;have f16:w6.frozen? ⟨rb,1,none⟩=false:=nH af 1;have aa:=eZ aT;have ay:=eZ aU;clear hown6 aP az hb6 af aT aU aQ aR))
 obtain⟨w7,hw7⟩:=fq (w6.setCell ⟨rb,1,none⟩ (.slice (some ⟨g6,0,none⟩) (N+1) ae));rw[hw7]at aa ay⊢;have c17:=aa.out.cells.2.1;clear hw7 c16 f16 c1 ai HM hws aL aM aN;by_cases hu:up<0
 ·obtain rfl:up=-1:=by omega
  have HD:=eZ (HQ.out w7 ⟨_,_,_,aa.out,aG.out hu,ay.out⟩);clear aG aH HQ aa ay aF;go_wp2_with fail
  exact HD.out
 obtain⟨i,rfl⟩:∃i:Nat,up=(i:Int):=⟨up.toNat,by omega⟩
 have bK:((i:Int) !=-1)=true:=by simp
 have bH:((i:Int)==-1)=false:=by simp
 have hi:i<N+1:=by omega
 have aA:(L++[pn]).length=N+1:=by rw[iJ,HN.out];rfl
 obtain⟨p,hp⟩:=jB (L++[pn]) i (by rw[aA];exact hi);have bI:p.nd.ks.length<=1000000:=by
  have h0:=hp;rw[oD (by rw[HN.out];omega)]at h0;exact aO.out p (iK h0)
 have hkr:=aa.out.nodes.kids i p hp;obtain⟨ka,kc,aj⟩:=(Reads.fJ (E:=encI) hkr).shape;obtain⟨kn,hkn⟩:=fq (p.nd.ks.length);rw[hkn]at aj;have aV:w7.cell? ⟨g6,i*6+4,none⟩=some (.slice ka kn kc):=by
  have:=aa.out.nodes.row.cells (g:=g6) rfl _ _ ((iO gP (L++[pn]) i p hp 4 (by decide)).trans rfl);rw[gQ,kU]at this;rw[<-aj];exact this
 have aW:=eZ (show p.nd.ks.length+1<=maxLen by simp only[maxLen];omega);have aX:=eZ (show(p.nd.ks.length+1)*8<=140737488355328 by omega);obtain⟨wx,hwx⟩:=fq ((w7.alloc (.cells #[.int .i64 (N:Int)] 3)).drew);have hbx:Below w7.heap.size w7 wx:=by rw[<-hwx];exact(fo w7 _).drew
 have bC:=eZ (show wx.ownsRow w0.heap.size 3 encI.k (.slice ka kn kc) p.nd.ks.length (encI.all p.nd.ks)by rw[<-aj];exact fQ hkr hbx);have ak:∀jj c,(encI.all [(N:Int)])[jj]?=some c->wx.cell? ⟨w7.heap.size,jj,none⟩=some c:=by
  intro jj c hj;rw[<-hwx];show(w7.alloc _).cell? ⟨w7.heap.size,jj,none⟩=_;rw[vH]
  simpa [mr.all,encI]using hj
 have aY:=eZ ak;have bD:=fu hbx c17;have bE:=fu hbx aV;have aZ:w0.heap.size<=wx.heap.size:=jU aa.out.lu.size hbx.size;obtain⟨aI,HP,aJ,bL⟩:=oN hwx hp aj hkn;have hgr:=(aa.out.rows (.inl rfl:jT (.slice (some ⟨g6,0,none⟩) (N+1) ae) dv (L++[pn]) g6))
 have bM:(i:Int)<(N:Int)+1:=by omega
 have bJ:(i:Int)<((N+1:Nat):Int):=by omega
 clear hkr aj hkn ak hbx hwx hp aA aG aO;go_upto_region 4 with fail
 refine gK (λwx=>wx.cell? ⟨rb,1,none⟩=some (.slice (some ⟨g6,0,none⟩) (N+1) ae)/\wx.cell? ⟨g6,i*6+4,none⟩=some (.slice ka kn kc)) 18 (by kernel_rfl) ?_;have hH:(λwx:World=>wx.cell? ⟨rb,1,none⟩=some (.slice (some ⟨g6,0,none⟩) (N+1) ae)/\wx.cell? ⟨g6,i*6+4,none⟩=some (.slice ka kn kc)) w7.drew:=⟨fE c17,fE aV⟩
 refine ik 0 (.pointer (some ⟨rb,0,none⟩)) rfl (by kernel_rfl) rfl fC (λW hW=>by go_simp) hH ?_;refine ik 1 (.pointer (some ⟨rb,0,none⟩)) rfl (by kernel_rfl) rfl fC (λW hW=>by go_simp) hH ?_;refine ik 2 (.pointer (some ⟨rb,1,none⟩)) rfl (by kernel_rfl) rfl fC (λW hW=>by go_simp) hH ?_;refine ik 3 (.slice (some ⟨g6,0,none⟩) (N+1) ae) rfl (by kernel_rfl) rfl fC (λW hW=>?_) hH ?_
 ·obtain⟨z0,z1⟩:=hW;go_simp
 refine ik 4 (.int .i64 (i:Int)) rfl (by kernel_rfl) rfl fC (λW hW=>by go_simp) hH ?_;refine ik 5 (.pointer (some ⟨rb,0,none⟩)) rfl (by kernel_rfl) rfl fC (λW hW=>by go_simp) hH ?_;refine ik 6 (.pointer (some ⟨rb,0,none⟩)) rfl (by kernel_rfl) rfl fC (λW hW=>by go_simp) hH ?_;refine ik 7 (.pointer (some ⟨rb,1,none⟩)) rfl (by kernel_rfl) rfl fC (λW hW=>by go_simp) hH ?_;refine ik 8 (.slice (some ⟨g6,0,none⟩) (N+1) ae) rfl (by kernel_rfl) rfl fC (λW hW=>?_) hH ?_
 ·obtain⟨z0,z1⟩:=hW;go_simp
 refine ik 9 (.int .i64 (i:Int)) rfl (by kernel_rfl) rfl fC (λW hW=>by go_simp) hH ?_;refine ik 10 (.pointer (some ⟨g6,i*6,none⟩)) rfl (by kernel_rfl) rfl fC (λW hW=>by go_simp) hH ?_;refine ik 11 (.pointer (some ⟨g6,i*6+4,none⟩)) rfl (by kernel_rfl) rfl fC (λW hW=>by go_simp) hH ?_;refine ik 12 (.slice ka kn kc) rfl (by kernel_rfl) rfl fC (λW hW=>?_) hH ?_
 ·obtain⟨z0,z1⟩:=hW;go_simp
 refine ik 13 (.int .i64 (N:Int)) rfl (by kernel_rfl) rfl fC (λW hW=>by go_simp) hH ?_;refine mO 14 (by kernel_rfl) rfl λK hK=>?_
 go_simp;rw[aI.out];refine hK.out _ _ (λ_=>⟨bD,bE⟩) (λhH2=>?_);clear hK K;replace hH:=hH2 (by kernel_rfl);clear hH2;try simp only[Act.put,fK,fP,fO]
 refine mO 15 (by kernel_rfl) rfl λK hK=>?_
 refine nL Ra rfl (.tmp 41) (.tmp 43) rfl w0.heap.size (.slice ka kn kc) p.nd.ks rfl bC.out w7.heap.size 1 [(N:Int)] rfl rfl aY.out aW.out aX.out aZ ?_;intro v8 w8 ag bf aB;obtain⟨a8,c8,bg⟩:=(Reads.fJ (E:=encI) ag).shape;obtain⟨n8,bn⟩:=fq ((p.nd.ks++[(N:Int)]).length);rw[bn]at bg;clear bn;subst bg;have hgw:(w7.alloc (.cells #[.int .i64 (N:Int)] 3)).grownBy w8 p.val.ownBlock:=(qV (fI _ (w7.alloc (.cells #[.int .i64 (N:Int)] 3))).drew p.val.ownBlock).trans (by rw[aJ.out];have:=bf;rw[<-aI.out]at this;exact this);have aC:(Value.slice a8 n8 c8).ownBlock=p.val.ownBlock\/(Value.slice a8 n8 c8).ownBlock=some (w7.alloc (.cells #[.int .i64 (N:Int)] 3)).heap.size:=by rw[aJ.out];have:=aB;rw[<-aI.out]at this;exact this
 obtain⟨bq,aD,bz,bA⟩:=aa.out.kid HP.out (N:Int) hgw ag aC;have c18:w8.cell? ⟨rb,1,none⟩=some (.slice (some ⟨g6,0,none⟩) (N+1) ae):=(gG (bq.trans aa.out.box) 1).trans rfl;have ah:=fU aa.out.nodes.row (w':=w8) (λg hg=>by have e:g6=g:=jl hg;rw[<-e];exact aD);have bF:w8.cell? ⟨g6,i*6+4,none⟩=some (.slice ka kn kc):=by have h5:=ah.cells (g:=g6) rfl _ _ ((iO gP (L++[pn]) i p HP.out 4 (by decide)).trans rfl);rw[gQ,kU]at h5;rw[<-aJ.out];exact h5
 obtain⟨gx,bN,bB,-,hfx,-,-⟩:=jM (E:=gP) ah (by rw[iJ,HN.out];simp);have ex:=(ll bB).1;injection ex with ex
 injection ex with ex
 have f48:w8.frozen? ⟨g6,i*6+4,none⟩=false:=by rw[ex];exact hfx _
 have HD:=eZ (HQ.out _ ⟨_,_,_,bz,aH.out i p a8 n8 c8 rfl HP.out,ay.out.trans bA⟩);clear ag bf aB hgw aC bq aD bz bA ah bB hfx ex;refine hK.out _ _ (λ_=>⟨c18,bF⟩) (λhH2=>?_);clear hK K;replace hH:=hH2 (by kernel_rfl);clear hH2;try simp only[Act.put,fK,fP,fO]
 refine iD 16 (.pointer (some ⟨g6,i*6,none⟩)) rfl (by kernel_rfl) rfl fC (λW=>by go_simp) (λ_=>hH) ?_;refine ik 17 (.pointer (some ⟨g6,i*6+4,none⟩)) rfl (by kernel_rfl) rfl fC (λW hW=>by go_simp) hH ?_;refine mO 18 (by kernel_rfl) rfl λK hK=>?_
 go_simp;refine hK.out _ _ (kC (by kernel_rfl)) (λ_=>?_);clear hK K;try simp only[Act.put,fK,fP,fO]
 refine gH (by kernel_rfl) ?_ _;go_wp2_with fail
 exact HD.out
end
section
open Go.RowKit
open Sq
open Ar
structure Room(s:Fl.fV):Prop where
 q:s.q.length<=900000
 d:s.d.length<=900000
 kb:Fl.KB s.q
theorem Room.kids{s:Fl.fV}(h:Room s):∀x∈s.q,x.ks.length<=1000000:=λx hx=>by
 obtain⟨i,hi⟩:=lh hx;have:=h.kb i x hi;have:=h.q;omega
theorem Nu(w0 w:World)(rb:Nat)(tv:Value)(l:List Tk)(s:Fl.fV)(R:Nat->Prop)(up:Int)(k f t:Nat)(hS:RS w0 w rb tv l s R)(hu1:-1<=up)(hu2:up<s.q.length)(hr:Room s):
 Calls prog 154 #[RP rb,.int .i64 up,.int .i64 k,.int .i64 f,.int .i64 t] w (Goes w0 w rb tv l R (.int .i64 t) ⟨Fl.jm s.q up k f t,s.d⟩):=by
 have HA:=eZ (Sj w0 w rb tv l s R up k f hS hu1 hu2 (by have:=hr.q;omega) hr.kids);have HR:=eZ (λw1 R1 (h:RS w0 w1 rb tv l ⟨Fl.iB s.q up k f,s.d⟩ R1)=>zS w0 w1 rb tv l ⟨Fl.iB s.q up k f,s.d⟩ R1 s.q.length t h (by show _<(Fl.iB s.q up k f).length;rw[Fl.iL];omega) (by show(Fl.iB s.q up k f).length<=_;rw[Fl.iL];have:=hr.q;omega));obtain⟨N,hN⟩:=fq (s.q.length);have HQ:=eZ (λw2 R1 R2 w1 (h1:FP w w1 rb R R1)(h2:RS w0 w2 rb tv l ⟨Fl.mV (Fl.iB s.q up k f) s.q.length t,s.d⟩ R2)(h3:FP w1 w2 rb R1 R2)=>show Goes w0 w rb tv l R (.int .i64 t) ⟨Fl.jm s.q up k f t,s.d⟩ (.returned (.int .i64 t)) w2 from⟨rfl,R2,h2,h1.trans h3⟩);obtain⟨Q,hQ⟩:=fq (Goes w0 w rb tv l R (.int .i64 t) ⟨Fl.jm s.q up k f t,s.d⟩);rw[hQ]at HQ⊢;rw[hN]at HA HR HQ;clear hS hu2 hr hN hQ
 go_enter func154,ntmps154
 go_wp2_with fail
 refine HA.out.mono ?_;rintro e w1 ⟨rfl,R1,hS1,hF1⟩;obtain⟨HR1,aa⟩:=fT (HR.out w1 R1 hS1) hF1;clear hS1 hF1 HR HA;go_wp2_with fail
 refine HR1.out.mono ?_;rintro e w2 ⟨rfl,R2,hS2,hF2⟩;have HD:=eZ (HQ.out w2 R1 R2 w1 aa.out hS2 hF2);clear hS2 hF2 HR1 aa HQ;go_wp2_with fail
 exact HD.out
theorem Ov(w0 w:World)(rb:Nat)(tv:Value)(l:List Tk)(s:Fl.fV)(R:Nat->Prop)(up:Int)(code f t:Nat)(hS:RS w0 w rb tv l s R)(hu1:-1<=up)(hu2:up<s.q.length)(hr:Room s)(hd:s.d.length<900000)(hf:f<l.length)(ht0:0<t)(ht:t<=l.length):
 Calls prog 156 #[RP rb,.int .i64 up,.int .i64 code,.int .i64 f,.int .i64 t] w (Goes w0 w rb tv l R (.int .i64 t) (Fl.o9 l s up f t code)):=by
 obtain⟨j,rfl⟩:∃j,t=j+1:=⟨t-1,by omega⟩
 have HA:=eZ (U1 w0 w rb tv l s R code f j hS hf (by omega) (by have:=hr.d;omega));obtain⟨T,hT⟩:=fq (j+1);have HQ:=eZ (λw2 R1 R2 w1 (h1:FP w w1 rb R R1)(h2:RS w0 w2 rb tv l ⟨Fl.jm s.q up 11 f (j+1),s.d++[⟨code,Fl.mM l f,Fl.too l j⟩]⟩ R2)(h3:FP w1 w2 rb R1 R2)=>show Goes w0 w rb tv l R (.int .i64 (j+1:Nat)) (Fl.o9 l s up f (j+1) code) (.returned (.int .i64 (j+1:Nat))) w2 from⟨rfl,R2,by unfold Fl.o9;rw[jH];exact h2,h1.trans h3⟩);obtain⟨Q,hQ⟩:=fq (Goes w0 w rb tv l R (.int .i64 (j+1:Nat)) (Fl.o9 l s up f (j+1) code));rw[hQ]at HQ⊢;have HL:=eZ (λw1 R1 (h:RS w0 w1 rb tv l ⟨s.q,s.d++[⟨code,Fl.mM l f,Fl.too l j⟩]⟩ R1)=>Nu w0 w1 rb tv l ⟨s.q,s.d++[⟨code,Fl.mM l f,Fl.too l j⟩]⟩ R1 up 11 f (j+1) h hu1 hu2 ⟨hr.q,by show(s.d++_).length<=_;rw[iJ];have:=hd;simp;omega,hr.kb⟩);rw[hT]at HA HL HQ⊢;clear hS hu2 hr hd hQ hf ht0 ht hT
 go_enter func156,ntmps156
 go_wp2_with fail
 refine HA.out.mono ?_;rintro e w1 ⟨rfl,R1,hS1,hF1⟩;obtain⟨HR1,aa⟩:=fT (HL.out w1 R1 hS1) hF1;clear hS1 hF1 HL HA;go_wp2_with fail
 refine HR1.out.mono ?_;rintro e w2 ⟨rfl,R2,hS2,hF2⟩;have HD:=eZ (HQ.out w2 R1 R2 w1 aa.out hS2 hF2);clear hS2 hF2 HR1 aa HQ;go_wp2_with fail
 exact HD.out
def Cap(w:World)(b:Nat)(v:Value)(t:TypeId):Prop:=w.heap[b]?=some (.cells #[v] t (0,0))
theorem Cap.cell{w:World}{b:Nat}{v:Value}{t:TypeId}(h:Cap w b v t):w.cell? ⟨b,0,none⟩=some v:=(gG h 0).trans rfl
theorem Cap.free{w:World}{b:Nat}{v:Value}{t:TypeId}(h:Cap w b v t):w.frozen? ⟨b,0,none⟩=false:=nH h 0
theorem Cap.lt{w:World}{b:Nat}{v:Value}{t:TypeId}(h:Cap w b v t):b<w.heap.size:=il h
theorem Cap.fp{w w':World}{b rb:Nat}{v:Value}{t:TypeId}{R R':Nat->Prop}(h:Cap w b v t)(hF:FP w w' rb R R')(hr:b≠rb)(hn:¬R b):Cap w' b v t/\¬R' b:=
 ⟨(hF.block b h.lt hr hn).trans h,λh2=>(hF.rows b h2).elim hn (λh3=>absurd h.lt (RI.2 h3))⟩
theorem Cap.set{w:World}{b:Nat}{v:Value}{t:TypeId}(h:Cap w b v t)(u:Value):Cap (w.setCell ⟨b,0,none⟩ u) b u t:=qb h u
theorem Cap.far{w:World}{b b' o:Nat}{v u:Value}{t:TypeId}(h:Cap w b v t)(hne:b≠b'):Cap (w.setCell ⟨b',o,none⟩ u) b v t:=(jf _ _ _ _ hne).trans h
theorem Ow(w0 w:World)(rb:Nat)(tv:Value)(l:List Tk)(s:Fl.fV)(R:Nat->Prop)(b5 b13 b14 c f t:Nat)(hS:RS w0 w rb tv l s R)(hc:c<s.q.length)(hr:Room s)(hd:s.d.length<900000)(hf:f<l.length)(ht0:0<t)(ht:t<=l.length)
 (h5:Cap w b5 (RP rb) 174) (ae:Cap w b13 (.int .i64 c) 3) (aa:Cap w b14 (.int .i64 f) 3) (n14:¬R b14) (MS:b14≠rb):
 Calls prog 171 #[.int .i64 t,.pointer (some ⟨b5,0,none⟩),.pointer (some ⟨b13,0,none⟩),.pointer (some ⟨b14,0,none⟩)] w
  (λe w'=>e=.returned (.tuple #[])/\∃w1 R',RS w0 w1 rb tv l (Fl.o9 l s c f t 8) R'/\FP w w1 rb R R'/\w'=w1.setCell ⟨b14,0,none⟩ (.int .i64 t)):=by
 have HA:=eZ (Ov w0 w rb tv l s R c 8 f t hS (by omega) (by omega) hr hd hf ht0 ht);have c5:=h5.cell;have c13:=ae.cell;have c14:=aa.cell;have af:=eZ aa;clear hS hc hr hd hf ht0 ht h5 ae aa
 go_enter func171,ntmps171
 go_wp2_with fail
 refine HA.out.mono ?_;rintro e w1 ⟨rfl,R1,hS1,hF1⟩;have hk:=(af.out.fp hF1 MS n14).1;have d14:=hk.cell;have f14:=hk.free;obtain⟨ag,ah⟩:=fT hS1 hF1;clear hS1 hF1 hk HA af c5 c13 c14;go_wp2_with fail
 go_end0
 exact⟨rfl,w1,R1,ag.out,ah.out,rfl⟩
end
section
open Go.RowKit Go.Shelf Go.Sort
open Sq
open Fl
instance Zd:Inhabited Dg:=⟨⟨0,0,0⟩⟩
def KZ(x y:Int):Int:=if x<y then -1 else if y<x then 1 else 0
def Xq(x y z:Int):Int:=if x≠0 then x else if y≠0 then y else z
def U8(a b:Dg):Int:=Xq (KZ a.f b.f) (KZ a.t b.t) (KZ a.code b.code)
theorem wZ(a b:Dg):ltOf U8 a b=Ps.less a b:=by
 unfold ltOf;rw[nP,M4,Ps.pN];unfold U8 Xq KZ;constructor
 ·repeat' split
  all_goals (intro h;omega)
 repeat' split
 all_goals omega
theorem YR:SWO (ltOf U8) where
 irrefl x:=by rw[wZ];exact Ps.Ag x
 trans x y z h1 h2:=by rw[wZ]at*;exact Ps.AZ h1 h2
 ntrans x y z h1 h2:=by
  rw[wZ]at*;rw[KG,ne_eq,Ps.pN]at*;omega
theorem Ed(x:Int)(w:World):Calls prog 76 #[.int .i64 x] w λe w'=>e=.returned (.bool false)/\w=w':=by
 have h:(x !=x)=false:=by simp
 go_enter func76,ntmps76
 go_wp2;go_ret;exact⟨by simp,rfl⟩
theorem WA(x y:Int)(w:World):Calls prog 49 #[.int .i64 x,.int .i64 y] w λe w'=>e=.returned (.int .i64 (KZ x y))/\w'=w:=by
 unfold KZ;by_cases h1:x<y
 ·rw[eY h1]
  go_enter func49,ntmps49
  go_wp2_with ((with_reducible refine(Ed _ _).mono ?_);rintro e w' ⟨rfl,rfl⟩)
  go_ret;exact⟨rfl,rfl⟩
 rw[eX h1];by_cases h2:y<x
 ·rw[eY h2]
  go_enter func49,ntmps49
  go_wp2_with ((with_reducible refine(Ed _ _).mono ?_);rintro e w' ⟨rfl,rfl⟩)
  go_ret;exact⟨rfl,rfl⟩
 rw[eX h2]
 go_enter func49,ntmps49
 go_wp2_with ((with_reducible refine(Ed _ _).mono ?_);rintro e w' ⟨rfl,rfl⟩)
 go_ret;exact⟨rfl,rfl⟩
theorem TP(x y z:Int)(b:Nat)(w:World)(h0:w.cell? ⟨b,0,none⟩=some (.int .i64 x))(h1:w.cell? ⟨b,1,none⟩=some (.int .i64 y))(h2:w.cell? ⟨b,2,none⟩=some (.int .i64 z)):
 Calls prog 48 #[.slice (some ⟨b,0,none⟩) 3 3] w λe w'=>e=.returned (.int .i64 (Xq x y z))/\w=w':=by
 obtain⟨R,hR⟩:=fq (Xq x y z);rw[hR];have HR:=eZ (show(if x≠0 then x else if y≠0 then y else z)=R from hR);clear hR
 go_enter func48,ntmps48
 go_wp2
 go_loop [8] (λis=>∃k:Nat,is=.int .i64 k/\k<=3/\Hid ((1<=k->x=0)/\(2<=k->y=0)/\(3<=k->z=0))) (λis=>3-(intOf is).toNat)
 case atStart=>exact⟨0,rfl,by omega,eZ ⟨by omega,by omega,by omega⟩⟩
 case round=>
  obtain⟨k,rfl,hk,HX⟩:=hrel
  match k,hk with
  |0,_=>
   by_cases hz:x=0
   ·have b1:(x !=0)=false:=by simp[hz]
    have HZ:=eZ hz;clear hz;go_wp2
    go_round
    case rel=>exact⟨1,rfl,by omega,eZ ⟨λ_=>HZ.out,by omega,by omega⟩⟩
    case measure=>simp[intOf]
   have b1:(x !=0)=true:=by simp[hz]
   have e:=HR.out;rw[eY hz]at e;have HZ:=eZ e;clear e hz;go_wp2;go_ret;exact⟨by rw[HZ.out];rfl,rfl⟩
  |1,_=>
   have hx0:=HX.out.1 (fB _);have e:=HR.out;rw[eX (by simp[hx0])]at e;obtain⟨HE,HX0⟩:=fT e hx0;clear e hx0;by_cases hz:y=0
   ·have b1:(y !=0)=false:=by simp[hz]
    have HZ:=eZ hz;clear hz;go_wp2
    go_round
    case rel=>exact⟨2,rfl,by omega,eZ ⟨λ_=>HX0.out,λ_=>HZ.out,by omega⟩⟩
    case measure=>simp[intOf]
   have b1:(y !=0)=true:=by simp[hz]
   have e:=HE.out;rw[eY hz]at e;have HZ:=eZ e;clear e hz;go_wp2;go_ret;exact⟨by rw[HZ.out];rfl,rfl⟩
  |2,_=>
   have hx0:=HX.out.1 (by omega);have hy0:=HX.out.2.1 (fB _);have e:=HR.out;rw[eX (by simp[hx0]),eX (by simp[hy0])]at e;obtain⟨HE,HX0,aa⟩:=jF e hx0 hy0;clear e hx0 hy0;by_cases hz:z=0
   ·have b1:(z !=0)=false:=by simp[hz]
    have HZ:=eZ hz;clear hz;go_wp2
    go_round
    case rel=>exact⟨3,rfl,by omega,eZ ⟨λ_=>HX0.out,λ_=>aa.out,λ_=>HZ.out⟩⟩
    case measure=>simp[intOf]
   have b1:(z !=0)=true:=by simp[hz]
   clear hz;go_wp2;go_ret;exact⟨by rw[HE.out];rfl,rfl⟩
  |3,_=>
   have hx0:=HX.out.1 (by omega);have hy0:=HX.out.2.1 (by omega);have hz0:=HX.out.2.2 (fB _);have e:=HR.out;rw[eX (by simp[hx0]),eX (by simp[hy0]),hz0]at e;have HE:=eZ e;clear e hx0 hy0 hz0;go_wp2;go_ret;exact⟨by rw[<-HE.out];rfl,rfl⟩
theorem WB{W:World}{n:Nat}{x y z:Value}{t:TypeId}(hn:n=W.heap.size):(W.alloc (.cells #[x,y,z] t)).cell? ⟨n,0,none⟩=some x:=by subst hn;rw[vH];rfl
theorem WC{W:World}{n:Nat}{x y z:Value}{t:TypeId}(hn:n=W.heap.size):(W.alloc (.cells #[x,y,z] t)).cell? ⟨n,1,none⟩=some y:=by subst hn;rw[vH];rfl
theorem WE{W:World}{n:Nat}{x y z:Value}{t:TypeId}(hn:n=W.heap.size):(W.alloc (.cells #[x,y,z] t)).cell? ⟨n,2,none⟩=some z:=by subst hn;rw[vH];rfl
theorem TQ(a b:Dg)(w:World):
 Calls prog 47 #[.agg (ib.cells a).toArray,.agg (ib.cells b).toArray] w λe w'=>e=.returned (.int .i64 (U8 a b))/\∃q os',w'=grow (w.drewN q) os':=by
 obtain⟨ac,af,at'⟩:=a;obtain⟨bc,bf,bt⟩:=b;show Calls prog 47 #[.agg #[.int .i64 (ac:Int),.int .i64 (af:Int),.int .i64 (at':Int)],.agg #[.int .i64 (bc:Int),.int .i64 (bf:Int),.int .i64 (bt:Int)]] w _;obtain⟨R,hR⟩:=fq (U8 ⟨ac,af,at'⟩ ⟨bc,bf,bt⟩);have hd:Xq (KZ af bf) (KZ at' bt) (KZ ac bc)=R:=hR;have HD:=eZ hd;rw[hR];clear hd hR
 go_enter func47,ntmps47
 go_wp2_with fail
 refine iA 15 (by kernel_rfl) (by kernel_rfl) ?_;simp only[uA,vG,wh,lQ]
 repeat (go_big_quiet_step (exact(WA _ _ _) _))
 refine EX ?_;obtain⟨x,hx⟩:=fq (KZ (af:Int) bf);obtain⟨y,hy⟩:=fq (KZ (at':Int) bt);obtain⟨z,hz⟩:=fq (KZ (ac:Int) bc);rw[hx,hy,hz]at HD;rw[hx,hy,hz];clear hx hy hz;have HO:=eZ (λb W h0 h1 h2=>by have h:=TP x y z b W h0 h1 h2;rw[HD.out]at h;exact h);clear HD;go_wp2_with fail
 refine(HO.out _ _ ?c0 ?c1 ?c2).mono ?_
 case c0=>exact WB (by simp)
 case c1=>exact WC (by simp)
 case c2=>exact WE (by simp)
 rintro e w2 ⟨rfl,rfl⟩;go_wp2;go_ret;refine⟨rfl,?_⟩
 first
  |exact⟨0,_,by simp only[alloc_eq_grow,grow_grow];rfl⟩
  |exact⟨1,_,by simp only[alloc_eq_grow,grow_grow];rfl⟩
  |exact⟨2,_,by simp only[alloc_eq_grow,grow_grow];rfl⟩
end
section
open Go.RowKit Go.Shelf Go.Sort
open Sq
open Fl
theorem F4(d:Array Dg):(flatK ib.cells 3 d).toList=ib.all d.toList:=by
 refine sN (λt=>?_);have hs:=size_flatK ib.cells 3 d;by_cases ht:t<d.size*3
 ·have h1:=get_flatK ib.cells 3 d t ht;have hj:t/3<d.size:=by omega
  have h2:=iO ib d.toList (t/3) d[t/3] (by rw[EJ,MV hj]) (t%3) (by show t%3<3;omega);have h2:(ib.all d.toList)[t/3*3+t%3]?=(ib.cells d[t/3])[t%3]?:=h2;rw[show t/3*3+t%3=t by omega]at h2;rw[h2,EJ,MV (by rw[hs];exact ht)];rw[Hz _ t (by rw[hs];exact ht),Hz d (t/3) hj]at h1;rw[h1];have hl:(ib.cells d[t/3]).length=3:=ib.len _;rw[Hz _ (t%3) (by rw[hl];omega),mR (by rw[hl];omega)]
 rw[EJ,Vd (by rw[hs];omega),rC (by rw[kX];show d.toList.length*3<=t;rw[KF];omega)]
theorem Qc(F c:Array Value)(h:F.size<=c.size):(putCells id 0 F c).toList.take F.size=F.toList:=by
 refine sN (λt=>?_);by_cases ht:t<F.size
 ·rw[rD ht,EJ,EJ];unfold putCells;rw[Array.getElem?_mapIdx,MV (show t<c.size by omega),yJ,eY ⟨ic _,by omega⟩,BC,Hz F t ht,MV ht];rfl
 rw[rC (by rw[kD];omega),EJ,Vd (by omega)]
theorem Ka(w:World)(g m:Nat)(d:Array Dg)(os:Array Obj)(k:Nat)(hk:k<w.heap.size):
 (sortWorldK ib.cells 3 w g 0 m d os).heap[k]?=if g=k then(w.heap[k]?).map (onCells (putCells id 0 (flatK ib.cells 3 d)))else w.heap[k]?:=by
 show((w.heap.modify g (onCells (putCells id 0 (flatK ib.cells 3 d))))++os)[k]?=_;rw[Array.getElem?_append_left (by rw[Array.size_modify];exact hk),Array.getElem?_modify]
theorem Qd(w:World)(g m:Nat)(d:Array Dg)(os:Array Obj):w.grownBy (sortWorldK ib.cells 3 w g 0 m d os) (some g) where
 os:=rfl
 tape:=rfl
 output:=rfl
 size:=by
  show w.heap.size<=((w.heap.modify g (onCells (putCells id 0 (flatK ib.cells 3 d))))++os).size;rw[Array.size_append,Array.size_modify];omega
 block:=λk hk hne=>by
  rw[Ka w g m d os k hk,eX (λe=>hne (by rw[e]))]
theorem GY{d d':Array Dg}(h:SortedIn (ltOf U8) 0 d.size d')(hs:d'.size=d.size):d'.toList.Pairwise (λa b=>Ps.less b a=false):=by
 rw[Rz];intro i j hi hj hij;rw[KF]at hi hj;have h1:=h i j (ic _) hij (by omega);rw[wZ,Hz d' j hj,Hz d' i hi]at h1
 simpa using h1
def Sorted(w:World)(B:Nat)(dv:Value)(D:List Dg)(e:Ending)(w':World):Prop:=
 e=.returned dv/\∃D',D'.Perm D/\D'.Pairwise (λa b=>Ps.less b a=false)/\w'.ownsRow B 40 3 dv D'.length (ib.all D')/\w.grownBy w' dv.ownBlock
theorem Ji(w:World)(r:Option Nat):w.grownBy w r:=⟨rfl,rfl,rfl,fB _,λ_ _ _=>rfl⟩
theorem TR(w:World)(B:Nat)(dv:Value)(D:List Dg)(h:w.ownsRow B 40 3 dv D.length (ib.all D))(hn:D.length<=1000000000000):
 Calls prog 26 #[dv] w (Sorted w B dv D):=by
 have key:Calls prog 46 #[dv,.func (.func 47) #[] #[]] w (λe w'=>e=.returned (.tuple #[])/\Sorted w B dv D (.returned dv) w'):=by
  rcases h.2 with⟨rfl,h0⟩|⟨g,cap,cur,rfl,hB,hg,hc1,hc2,hcs,htk⟩
  ·have hD:D=[]:=List.length_eq_zero_iff.1 h0;subst hD;have hcon:=AnyF.slices_SortFunc_none JC none 0 (.func (.func 47) #[] #[]) w
   change Calls prog 46 _ _ _ at hcon
   refine hcon.mono ?_;rintro e w' ⟨rfl,rfl⟩;exact⟨rfl,rfl,[],.refl _,.nil,h,Ji _ _⟩
  have hlen:(flatK ib.cells 3 D.toArray).size=D.length*3:=by rw[size_flatK];simp
  have ae:(flatK ib.cells 3 D.toArray).toList=ib.all D:=by rw[F4]
  have hle:D.length*3<=cur.size:=by rw[hcs];exact Hy 3 hc1
  have hgl:g<w.heap.size:=by
   rcases kS g w.heap.size with h1|h1
   ·exact h1
   rw[Vd h1]at hg;cases hg
  have hH:HoldsK ib.cells 3 w g 0 D.toArray:=by
   intro j hj;rw[hlen]at hj;rw[kU];refine⟨?_,nH hg j⟩;have h1:w.cell? ⟨g,j,none⟩=cur[j]?:=gG hg j;rw[h1];have h2:cur[j]?=(ib.all D)[j]?:=by
    rw[<-htk,rD hj,EJ]
   rw[h2,<-ae,EJ,MV (by rw[hlen];exact hj),Hz _ j (by rw[hlen];exact hj)];rfl
  have eg:∀args w,(callFunc 47 args).run prog w=.ok (.enter 47 args) w:=enters_of func47 (by kernel_rfl) rfl;have hcon:=AnyQ.slices_SortFunc JC 3 isAgg40 sizeOf40 ib.cells (λx=>ib.len x) (λx v hv=>ib.one x v hv) U8 YR 47 #[] g 0 cap D.toArray w eg (λm os dk _ x y=>TQ x y _) hH hgl (by simp;omega)
  change Calls prog 46 _ _ _ at hcon
  have hsz:D.toArray.size=D.length:=by simp
  rw[hsz]at hcon;refine hcon.mono ?_;rintro e w' ⟨rfl,d',m,os,hp,hs,rfl⟩;have hds:d'.size=D.length:=by rw[hp.1];simp
  refine⟨rfl,rfl,d'.toList,?_,?_,⟨by rw[kX];rfl,.inr ⟨g,cap,putCells id 0 (flatK ib.cells 3 d') cur,?_,hB,?_,?_,hc2,?_,?_⟩⟩,Qd w g m d' os⟩
  ·have h3:=hp.2.2;rw[<-hsz]at h3;have e1:d'.extract 0 D.toArray.size=d':=by rw[hsz,<-hds];simp
   have e2:D.toArray.extract 0 D.toArray.size=D.toArray:=by simp
   rw[e1,e2]at h3;exact h3
  ·exact GY (d:=D.toArray) (by rw[hsz];exact hs) (by rw[hsz];exact hds)
  ·rw[show d'.toList.length=D.length by rw[KF,hds]]
  ·rw[Ka w g m d' os g hgl,eY rfl,hg];rfl
  ·rw[KF,hds];exact hc1
  ·show(Array.mapIdx _ cur).size=_;rw[Array.size_mapIdx];exact hcs
  rw[KF];have hfs:(flatK ib.cells 3 d').size=d'.size*3:=size_flatK _ _ _;rw[<-hfs,Qc _ _ (by rw[hfs,hds];exact hle),F4]
 obtain⟨Q,hQ⟩:∃Q:World->Prop,(λw'=>Sorted w B dv D (.returned dv) w')=Q:=⟨_,rfl⟩
 have aa:Calls prog 46 #[dv,.func (.func 47) #[] #[]] w (λe w'=>e=.returned (.tuple #[])/\Q w'):=by
  rw[<-hQ];exact key
 have hR:(Sorted w B dv D)=λe w'=>e=.returned dv/\Q w':=by
  rw[<-hQ];funext e w';unfold Sorted;simp
 rw[hR];have HK:=eZ aa;clear key aa hR hQ h hn
 go_enter func26,ntmps26
 go_wp2_with fail
 refine HK.out.mono ?_;rintro e w2 ⟨rfl,hq⟩;have HQ:=eZ hq;clear hq HK;go_wp2;go_ret;exact⟨rfl,HQ.out⟩
end
end Go.Proofs.YtmkkdjpebbdikaaGreatDoor

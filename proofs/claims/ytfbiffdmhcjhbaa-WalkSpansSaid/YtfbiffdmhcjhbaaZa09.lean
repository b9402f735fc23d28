import Derived.Test.YtfbiffdmhcjhbaaZa05
import Derived.Test.YtfbiffdmhcjhbaaZa06
import Derived.Test.YtfbiffdmhcjhbaaZa07
import Derived.Test.YtfbiffdmhcjhbaaZa08
import Derived.WalkMore
set_option linter.all false
set_option maxHeartbeats 16000000
set_option maxRecDepth 100000
namespace Go.Proofs.Ytfbiffdmhcjhbaa
open Go.RowKit Try
def yK:=@Below.heap_setCell
section
open Go.RowKit
open Sg
open Sq
abbrev Tk:=Nat×Nat×Nat
def Kb(x:Tk):List Value:=[.int .i64 x.1,.int .i64 x.2.1,.int .i64 x.2.2]
def qB:qP Tk:=⟨Kb,3,by decide,λ_=>rfl,λx u hu=>by
 cases hu with
 |head=>rfl
 |tail _ hu=>cases hu with
  |head=>rfl
  |tail _ hu=>cases hu with
   |head=>rfl
   |tail _ hu=>cases hu⟩
theorem XG:Ty prog qB 25 73 24:=Ty.of (z:=.agg #[.int .i64 0,.int .i64 0,.int .i64 0]) underlying25 (by kernel_rfl) (by kernel_rfl) rfl (λw=>by kernel_rfl)
theorem o8{w:World}{a:Option Addr}{cap:Nat}{l:List Tk}(h:Reads qB w (.slice a l.length cap) l)(j:Nat)(x:Tk)(hj:l[j]?=some x):
 ∃b off,a=some ⟨b,off,none⟩/\w.cell? ⟨b,off+j*3,none⟩=some (.int .i64 x.1)/\w.cell? ⟨b,off+j*3+1,none⟩=some (.int .i64 x.2.1)/\w.cell? ⟨b,off+j*3+2,none⟩=some (.int .i64 x.2.2):=by
 obtain⟨b,off,h1,h2⟩:=h.at_ j x hj;exact⟨b,off,h1,h2 0 _ rfl,h2 1 _ rfl,h2 2 _ rfl⟩
section
variable {w w':World}{b:Nat}{v:Value}
abbrev Row(w:World)(b:Nat)(v:Value)(l:List Tk):Prop:=w.ownsRow (b+1) 73 3 v l.length (qB.all l)
theorem qw{l:List Tk}(h:Row w b v l)(o:Nat)(u:Value):Row (w.setCell ⟨b,o,none⟩ u) b v l:=UJ h (a:=⟨b,o,none⟩) (by simp) u
theorem oL{B:Nat}{a:World}(h:Below B a w)(hB:B<=b)(o:Nat)(u:Value):Below B a (w.setCell ⟨b,o,none⟩ u):=h.setCell (p:=⟨b,o,none⟩) hB u
theorem Sk(W:World)(x:Tk)(t:TypeId):∀j c,(qB.all [x])[j]?=some c->(W.alloc (.cells #[.int .i64 x.1,.int .i64 x.2.1,.int .i64 x.2.2] t)).cell? ⟨W.heap.size,j,none⟩=some c:=by
 intro j c hj;rw[wh]
 simpa [qP.all,qB,Kb]using hj
theorem _root_.Go.RowKit.Below.Cy{B C:Nat}{a m c:World}(h:Below B a m)(hC:C<=B)(h2:Below C m c):Below C a c:=(h.mono hC).trans h2
end
def Gives(L:List Nat)(w:World)(e:Ending)(w':World):Prop:=
 ∃u,e=.returned u/\w'.ownsRow w.heap.size 73 3 u (Sc.tokens L).length (qB.all (Sc.tokens L))/\Below w.heap.size w w'
end
namespace Sq
open Go.RowKit
section
variable {α:Type}{E:qP α}{w:World}
theorem nU{P:Program}{t e:TypeId}{bytes:Nat}(T:Ty P E t e bytes){ops:Array Oper}{o:Oper}{act:Act}{K:Act->World->Prop}{Q:Exit->Act->World->Prop}{G:Prop}(hgd:o.guard=none)(x y:Operand)
 (ho:o.op=.call {callee:=.builtin .append,args:=#[x,y],argTypes:=#[t,t]})
 (base:Nat) (v:Value) (l:List α) (hs:act.eval x=v) (hown:w.ownsRow base e E.k v l.length (E.all l)) (b m:Nat) (us:List α) (hm:us.length=m) (hy:act.eval y=.slice (some ⟨b,0,none⟩) m m)
 (hnew:∀j c,(E.all us)[j]?=some c->w.cell? ⟨b,j,none⟩=some c) (hmax:l.length+m<=maxLen) (hlen:(l.length+m)*bytes<=140737488355328) (hbase:base<=w.heap.size)
 (h:∀v' w',w'.ownsRow base e E.k v' (l++us).length (E.all (l++us))->w.grownBy w' v.ownBlock->(v'.ownBlock=v.ownBlock\/v'.ownBlock=some w.heap.size)->K (act.put o.dst v') w'):
 if Region.wanted o (yielded ops act.tmps)=true then Oper.wp P o act w K Q else G:=by
 obtain⟨i,z,hi,hz,hsz,hby,hzs⟩:=T.parts;have hw:Region.wanted o (yielded ops act.tmps)=true:=by simp[Region.wanted,hgd]
 rw[gu hw];obtain⟨v',w',hrun,q1,q2,_,q3⟩:=run_append_own_at (P:=P) (w:=w) base t o.type e i z E.k bytes T.ht hi hz hsz hby hzs E.pos v l.length (E.all l) hown ⟨b,0,none⟩ m m (E.all us) (by rw[pK,hm]) (λj c hj=>by rw[nX,qz];exact hnew j c hj) (xX E us) hmax hlen hbase;unfold Oper.wp execOp;simp only[ho,resolve,invoke,builtin,Sem.run_bind,Sem.run_pure,Result.andThen_ok,List.map_toArray,wU,DD,hs,hy,hrun];exact h v' w' (by rw[uZ,oq,hm];exact q1) q2 q3
theorem oC{w':World}{B e size n:Nat}{v:Value}{xs:List Value}(h:w.ownsRow B e size v n xs)(hk:∀g,v.ownBlock=some g->w'.heap[g]?=w.heap[g]?):w'.ownsRow B e size v n xs:=by
 obtain⟨h1,h2⟩:=h;refine⟨h1,?_⟩;rcases h2 with h2|⟨g,cap,cur,hv,hg,hh,hr⟩
 ·exact .inl h2
 exact .inr ⟨g,cap,cur,hv,hg,(hk g (by rw[hv];rfl)).trans hh,hr⟩
end
end Sq
section
open Go.RowKit
open Sq
open Ar
def xz(x:Fl.Dg):List Value:=[.int .i64 x.code,.int .i64 x.f,.int .i64 x.t]
def nJ:qP Fl.Dg:=⟨xz,3,by decide,λ_=>rfl,λx u hu=>by
 cases hu with
 |head=>rfl
 |tail _ hu=>cases hu with
  |head=>rfl
  |tail _ hu=>cases hu with
   |head=>rfl
   |tail _ hu=>cases hu⟩
theorem QT:Ty prog nJ 29 87 24:=Ty.of (z:=.agg #[.int .i64 0,.int .i64 0,.int .i64 0]) underlying29 (by kernel_rfl) (by kernel_rfl) rfl (λw=>by kernel_rfl)
structure FP(w w':World)(rb:Nat)(R R':Nat->Prop):Prop where
 size:w.heap.size<=w'.heap.size
 block:∀k,k<w.heap.size->k≠rb->¬R k->w'.heap[k]?=w.heap[k]?
 rows:∀k,R' k->R k\/w.heap.size<=k
theorem FP.trans{a b c:World}{rb:Nat}{R R' aa:Nat->Prop}(h:FP a b rb R R')(g:FP b c rb R' aa):FP a c rb R aa :=
 ⟨qy h.size g.size,λk hk hr hn=>(g.block k (Rk hk h.size) hr (λh2=>(h.rows k h2).elim hn (λh3=>absurd hk (Nat.not_lt.2 h3)))).trans (h.block k hk hr hn),
  λk hk=>(g.rows k hk).elim (λh2=>h.rows k h2) (λh2=>.inr (qy h.size h2))⟩
theorem FP.below{w w':World}{rb:Nat}{R:Nat->Prop}(h:Below w.heap.size w w'):FP w w' rb R R:=⟨h.size,λk hk _ _=>h.block k hk,λk hk=>.inl hk⟩
theorem FP.refl(w:World)(rb:Nat)(R:Nat->Prop):FP w w rb R R:=FP.below (mF _ _)
theorem mV{w:World}{B e s n rb:Nat}{v:Value}{xs:List Value}{C:Array Value}{T:TypeId}{fr:Nat×Nat}(h:w.ownsRow B e s v n xs)(hb:w.heap[rb]?=some (.cells C T fr))(hne:e≠T):v.ownBlock≠some rb:=λhg=>by
 rcases h.2 with⟨h1,_⟩|⟨b,cap,cur,hv,_,hh,_⟩
 ·rw[h1]at hg;cases hg
 rw[hv]at hg;obtain rfl:b=rb:=by simpa [Value.ownBlock]using hg
 rw[hh]at hb;injection hb with hb
 injection hb with _ h3
 exact hne h3
end
section
open Go.RowKit
open Sq
open Ar
open Fl (Tk)
theorem OT.same{w w':World}{B:Nat}{v:Value}{L:List Ln}(h:OT w B v L)(hk:∀g,(v.ownBlock=some g\/∃p∈L,p.val.ownBlock=some g)->w'.heap[g]?=w.heap[g]?):OT w' B v L:=
 ⟨oC h.row (λg hg=>hk g (.inl hg)),λi p hp=>oC (h.kids i p hp) (λg hg=>hk g (.inr ⟨p,sI hp,hg⟩)),h.apart⟩
theorem OT.off{w:World}{B rb:Nat}{v:Value}{L:List Ln}{C:Array Value}{T:TypeId}{fr:Nat×Nat}(h:OT w B v L)(hb:w.heap[rb]?=some (.cells C T fr))(h1:3≠T)(h2:37≠T):∀g,(v.ownBlock=some g\/∃p∈L,p.val.ownBlock=some g)->g≠rb:=by
 rintro g hg rfl;rcases hg with hg|⟨p,hp,hg⟩
 ·exact mV h.row hb h2 hg
 obtain⟨i,hi⟩:=yG hp;exact mV (h.kids i p hi) hb h1 hg
abbrev Fg(tv nv dv:Value)(e:Nat):Array Value:=#[tv,nv,dv,.int .i64 (e:Int)]
structure GM(w0 w:World)(rb:Nat)(tv nv dv:Value)(e:Nat)(l:List Tk)(L:List Ln)(D:List Fl.Dg):Prop where
 qK:Below w0.heap.size w0 w
 toks:Reads qB w0 tv l
 size:l.length<=100000
 ends:e<=l.length
 low:w0.heap.size<=rb
 box:w.heap[rb]?=some (.cells (Fg tv nv dv e) 58 (0,0))
 nodes:OT w w0.heap.size nv L
 told:w.ownsRow w0.heap.size 87 3 dv D.length (nJ.all D)
abbrev DR(dv:Value):Nat->Prop:=λg=>dv.ownBlock=some g
section
variable {w0 w w' wq w6:World}{rb:Nat}{tv nv dv:Value}{e:Nat}{l:List Tk}{L:List Ln}{D:List Fl.Dg}
theorem GM.lt(h:GM w0 w rb tv nv dv e l L D):rb<w.heap.size:=nQ h.box
theorem GM.cell(h:GM w0 w rb tv nv dv e l L D)(i:Nat)(u:Value)(hu:(Fg tv nv dv e)[i]?=some u):w.cell? ⟨rb,i,none⟩=some u:=(nz h.box i).trans hu
theorem GM.free(h:GM w0 w rb tv nv dv e l L D)(o:Nat):w.frozen? ⟨rb,o,none⟩=false:=oI h.box o
theorem GM.keep(h:GM w0 w rb tv nv dv e l L D)(hb:Below w0.heap.size w0 w')(hk:∀g,(g=rb\/dv.ownBlock=some g\/nv.ownBlock=some g\/∃p∈L,p.val.ownBlock=some g)->w'.heap[g]?=w.heap[g]?):GM w0 w' rb tv nv dv e l L D:=
 ⟨hb,h.toks,h.size,h.ends,h.low,(hk rb (.inl rfl)).trans h.box,h.nodes.same (λg hg=>hk g (.inr (.inr hg))),oC h.told (λg hg=>hk g (.inr (.inl hg)))⟩
theorem GM.rows(h:GM w0 w rb tv nv dv e l L D){g:Nat}(hg:g=rb\/dv.ownBlock=some g\/nv.ownBlock=some g\/∃p∈L,p.val.ownBlock=some g):w0.heap.size<=g/\g<w.heap.size:=by
 rcases hg with rfl|hg|hg|⟨p,hp,hg⟩
 ·exact⟨h.low,h.lt⟩
 ·exact h.told.lt g hg
 ·exact h.nodes.row.lt g hg
 obtain⟨i,hi⟩:=yG hp;exact(h.nodes.kids i p hi).lt g hg
theorem GM.below(h:GM w0 w rb tv nv dv e l L D)(hb:Below w.heap.size w w'):GM w0 w' rb tv nv dv e l L D:=
 h.keep (h.qK.trans (hb.mono h.qK.size)) (λg hg=>hb.block g (h.rows hg).2)
theorem GM.far{k o:Nat}{u:Value}{C:Array Value}{T:TypeId}{fr:Nat×Nat}(h:GM w0 w rb tv nv dv e l L D)(h0:w0.heap.size<=k)(hb:w.heap[k]?=some (.cells C T fr))(h1:3≠T)(h2:37≠T)(h3:87≠T)(h4:58≠T):GM w0 (w.setCell ⟨k,o,none⟩ u) rb tv nv dv e l L D:=by
 refine h.keep (h.qK.setCell (p:=⟨k,o,none⟩) h0 u) (λg hg=>yK _ _ _ _ ?_);rintro rfl;rcases hg with hg|hg|hg
 ·subst hg;rw[h.box]at hb;injection hb with hb
  injection hb with _ hT
  exact h4 hT
 ·exact mV h.told hb h3 hg
 exact h.nodes.off hb h1 h2 _ hg rfl
theorem GM.toTree{aa:Value}{L':List Ln}(h:GM w0 w rb tv nv dv e l L D)(hb:Below w.heap.size w w')(hO:OT w' w0.heap.size aa L'):
 GM w0 (w'.setCell ⟨rb,1,none⟩ aa) rb tv aa dv e l L' D/\FP w (w'.setCell ⟨rb,1,none⟩ aa) rb (DR dv) (DR dv):=by
 have h2:=h.below hb;have st:∀g,g≠rb->(w'.setCell ⟨rb,1,none⟩ aa).heap[g]?=w'.heap[g]?:=λg hg=>yK _ _ _ _ hg
 refine⟨⟨h2.qK.setCell (p:=⟨rb,1,none⟩) h.low _,h.toks,h.size,h.ends,h.low,uq h2.box aa,hO.same (λg hg=>st g (hO.off h2.box (by decide) (by decide) g hg)),oC h2.told (λg hg=>st g (λe'=>mV h2.told h2.box (by decide) (e' ▸hg)))⟩,
  ⟨?_,λk hk hr _=>(st k hr).trans (hb.block k hk),λk hk=>.inl hk⟩⟩
 have h1:=hb.size;have h3:(w'.setCell ⟨rb,1,none⟩ aa).heap.size=w'.heap.size:=by simp
 omega
theorem GM.toEnd(h:GM w0 w rb tv nv dv e l L D)(e':Nat)(he:e'<=l.length):
 GM w0 (w.setCell ⟨rb,3,none⟩ (.int .i64 (e':Int))) rb tv nv dv e' l L D/\FP w (w.setCell ⟨rb,3,none⟩ (.int .i64 (e':Int))) rb (DR dv) (DR dv):=by
 have st:∀g,g≠rb->(w.setCell ⟨rb,3,none⟩ (.int .i64 (e':Int))).heap[g]?=w.heap[g]?:=λg hg=>yK _ _ _ _ hg
 refine⟨⟨h.qK.setCell (p:=⟨rb,3,none⟩) h.low _,h.toks,h.size,he,h.low,uq h.box _,h.nodes.same (λg hg=>st g (h.nodes.off h.box (by decide) (by decide) g hg)),oC h.told (λg hg=>st g (λe'=>mV h.told h.box (by decide) (e' ▸hg)))⟩,
  ⟨?_,λk hk hr _=>st k hr,λk hk=>.inl hk⟩⟩
 simp
theorem GM.more{v6:Value}{x:Fl.Dg}(h:GM w0 w rb tv nv dv e l L D)(hq:Below w.heap.size w wq)(hg:wq.grownBy w6 dv.ownBlock)(hown:w6.ownsRow w0.heap.size 87 3 v6 (D++[x]).length (nJ.all (D++[x])))
 (hat:v6.ownBlock=dv.ownBlock\/v6.ownBlock=some wq.heap.size):
 w6.heap[rb]?=some (.cells (Fg tv nv dv e) 58 (0,0))/\
 GM w0 (w6.setCell ⟨rb,2,none⟩ v6) rb tv nv v6 e l L (D++[x])/\FP w (w6.setCell ⟨rb,2,none⟩ v6) rb (DR dv) (DR v6):=by
 have h2:=h.below hq;have hoff:dv.ownBlock≠some rb:=mV h2.told h2.box (by decide);have aa:w6.heap[rb]?=some (.cells (Fg tv nv dv e) 58 (0,0)):=(hg.block rb h2.lt (λe'=>hoff e'.symm)).trans h2.box
 have hO:OT w6 w0.heap.size nv L:=h2.nodes.same (λg hgg=>hg.block g (h2.rows (.inr (.inr hgg))).2 (λe'=>by
  rcases hgg with hgg|⟨p,hp,hgg⟩
  ·exact nV h2.nodes.row h2.told (by decide) g hgg e'.symm
  obtain⟨i,hi⟩:=yG hp
  exact nV (h2.nodes.kids i p hi) h2.told (by decide) g hgg e'.symm))
 have hb6:Below w0.heap.size w0 w6:=h2.qK.grown hg h2.qK.size (λq hq=>(h2.told.lt q hq).1);have st:∀g,g≠rb->(w6.setCell ⟨rb,2,none⟩ v6).heap[g]?=w6.heap[g]?:=λg hg=>yK _ _ _ _ hg
 refine⟨aa,⟨hb6.setCell (p:=⟨rb,2,none⟩) h.low _,h.toks,h.size,h.ends,h.low,uq aa v6,hO.same (λg hg=>st g (hO.off aa (by decide) (by decide) g hg)),oC hown (λg hg=>st g (λe'=>mV hown aa (by decide) (e' ▸hg)))⟩,
  ⟨?_,λk hk hr hn=>?_,λk hk=>?_⟩⟩
 ·have h1:=hg.size;have h3:=hq.size;have h4:(w6.setCell ⟨rb,2,none⟩ v6).heap.size=w6.heap.size:=by simp
  omega
 ·rw[st k hr,hg.block k (Rk hk hq.size) (λe'=>hn e'.symm),hq.block k hk]
 rcases hat with e'|e'
 ·exact .inl (e'.symm.trans hk)
 have hk:v6.ownBlock=some k:=hk;rw[e']at hk;injection hk with hk
 have:=hq.size;exact .inr (by omega)
end
def GS(w0 w:World)(rb:Nat)(tv:Value)(e:Nat)(l:List Tk)(s:Fl.St)(R:Nat->Prop):Prop:=
 ∃nv dv L,GM w0 w rb tv nv dv e l L s.d/\L.map Ln.nd=s.t/\R=DR dv
section
variable {w0 w w':World}{rb:Nat}{tv:Value}{e:Nat}{l:List Tk}{s:Fl.St}{R:Nat->Prop}
theorem GS.below(h:GS w0 w rb tv e l s R)(hb:Below w.heap.size w w'):GS w0 w' rb tv e l s R:=by
 obtain⟨nv,dv,L,h1,h2,h3⟩:=h;exact⟨nv,dv,L,h1.below hb,h2,h3⟩
theorem GS.qK(h:GS w0 w rb tv e l s R):Below w0.heap.size w0 w:=by
 obtain⟨nv,dv,L,h1,h2,h3⟩:=h;exact h1.qK
theorem GS.far{k o:Nat}{u:Value}{C:Array Value}{T:TypeId}{fr:Nat×Nat}(h:GS w0 w rb tv e l s R)(h0:w0.heap.size<=k)(hb:w.heap[k]?=some (.cells C T fr))(h1:3≠T)(h2:37≠T)(h3:87≠T)(h4:58≠T):GS w0 (w.setCell ⟨k,o,none⟩ u) rb tv e l s R:=by
 obtain⟨nv,dv,L,g1,g2,g3⟩:=h;exact⟨nv,dv,L,g1.far h0 hb h1 h2 h3 h4,g2,g3⟩
theorem GS.off{k:Nat}{C:Array Value}{T:TypeId}{fr:Nat×Nat}(h:GS w0 w rb tv e l s R)(hb:w.heap[k]?=some (.cells C T fr))(h3:87≠T)(h4:58≠T):¬R k/\k≠rb:=by
 obtain⟨nv,dv,L,g1,g2,rfl⟩:=h;refine⟨λhg=>mV g1.told hb h3 hg,?_⟩;rintro rfl;rw[g1.box]at hb;injection hb with hb
 injection hb with _ hT
 exact h4 hT
theorem GS.toks(h:GS w0 w rb tv e l s R):w.cell? ⟨rb,0,none⟩=some tv/\w.cell? ⟨rb,3,none⟩=some (.int .i64 (e:Int))/\Reads qB w tv l/\e<=l.length/\l.length<=100000:=by
 obtain⟨nv,dv,L,h1,h2⟩:=h;exact⟨h1.cell 0 _ rfl,h1.cell 3 _ rfl,h1.toks.below h1.qK,h1.ends,h1.size⟩
end
def nE(w0 w:World)(rb:Nat)(tv:Value)(e:Nat)(l:List Tk)(R:Nat->Prop)(v:Value)(s:Fl.St)(en:Ending)(w':World):Prop:=
 en=.returned v/\∃R',GS w0 w' rb tv e l s R'/\FP w w' rb R R'
end
section
open Go.RowKit
open Sq
open Fl (Tk raw kd p9 cnt ends opens nL nR begins back blanks mG)
namespace Fl
theorem rP{l:List Tk}{i:Nat}{x:Tk}(h:l[i]?=some x):raw l i=x.1:=by unfold raw;rw[h]
theorem WC{l:List Tk}{e i:Nat}{x:Tk}(h:l[i]?=some x)(hi:i<e):kd l e i=if x.1=20\/x.1=21 then 0 else x.1:=by
 unfold kd;rw[rP h];by_cases h2:x.1=20\/x.1=21
 ·rw[gu h2,gu (.inr h2)]
 rw[fu h2,fu (λh3=>h3.elim (by omega) h2)]
theorem Kc{l:List Tk}{e i:Nat}(hi:e<=i):kd l e i=0:=by unfold kd;rw[gu (.inl hi)]
theorem rZ(p:Nat->Bool)(n i:Nat)(h:i<n):p9 p (n-i) i=if p i=true then p9 p (n-(i+1)) (i+1)else i:=by
 rw[show n-i=(n-(i+1))+1 by omega,p9]
theorem tL(p:Nat->Bool)(n i:Nat)(h:n<=i):p9 p (n-i) i=i:=by rw[Nat.sub_eq_zero_of_le h,p9]
theorem Eo(l:List Tk)(i m:Nat):back l (i+1) m=if m<i+1/\cnt (raw l i)=false then back l i m else i+1:=rfl
end Fl
abbrev RG(rb:Nat):Value:=.pointer (some ⟨rb,0,none⟩)
structure GT(w:World)(rb:Nat)(tv:Value)(e:Nat)(l:List Tk):Prop where
 cell:w.cell? ⟨rb,0,none⟩=some tv
 last:w.cell? ⟨rb,3,none⟩=some (.int .i64 (e:Int))
 reads:Reads qB w tv l
 ends:e<=l.length
 size:l.length<=100000
theorem GS.gt{w0 w:World}{rb:Nat}{tv:Value}{e:Nat}{l:List Tk}{s:Fl.St}{R:Nat->Prop}(h:GS w0 w rb tv e l s R):GT w rb tv e l:=⟨h.toks.1,h.toks.2.1,h.toks.2.2.1,h.toks.2.2.2.1,h.toks.2.2.2.2⟩
theorem Fh(k:Nat)(w:World):Calls prog 89 #[.int .i64 k] w λe w'=>e=.returned (.bool (opens k))/\w=w':=by
 go_enter func89,ntmps89
 go_wp2;all_goals (go_ret;refine⟨congrArg (λb=>Ending.returned (.bool b)) ?_,rfl⟩)
 all_goals (rw[zS];simp[opens]at*;try omega)
theorem JG(k:Nat)(w:World):Calls prog 97 #[.int .i64 k] w λe w'=>e=.returned (.bool (ends k))/\w=w':=by
 go_enter func97,ntmps97
 go_wp2;all_goals (go_ret;refine⟨congrArg (λb=>Ending.returned (.bool b)) ?_,rfl⟩)
 all_goals (rw[zS];simp[ends]at*;try omega)
theorem Rt(k:Nat)(w:World):Calls prog 38 #[.int .i64 k] w λe w'=>e=.returned (.bool (cnt k))/\w=w':=by
 go_enter func38,ntmps38
 go_wp2;all_goals (go_ret;refine⟨congrArg (λb=>Ending.returned (.bool b)) ?_,rfl⟩)
 all_goals (rw[zS];simp[cnt]at*;try omega)
theorem NQ(k:Nat)(w:World):Calls prog 83 #[.int .i64 k] w λe w'=>e=.returned (.bool (nL k))/\w=w':=by
 go_enter func83,ntmps83
 go_wp2;all_goals (go_ret;refine⟨congrArg (λb=>Ending.returned (.bool b)) ?_,rfl⟩)
 all_goals (rw[zS];simp[nL]at*;try omega)
theorem Sl(k:Nat)(w:World):Calls prog 101 #[.int .i64 k] w λe w'=>e=.returned (.bool (begins k))/\w=w':=by
 have h1:=NQ k w;have h2:=Fh k w;have e0:begins k=((k==12||k==14)||nL k||opens k||k==18):=rfl;rw[e0];obtain⟨a,ha⟩:=my (nL k);obtain⟨b,hb⟩:=my (opens k);rw[ha]at h1⊢;rw[hb]at h2⊢;obtain⟨H1,H2⟩:=mR h1 h2;clear h1 h2 ha hb e0;by_cases q1:k=12
 ·subst q1
  go_enter func101,ntmps101
  go_wp2_with fail
  go_ret;exact⟨rfl,rfl⟩
 by_cases q2:k=14
 ·subst q2
  go_enter func101,ntmps101
  go_wp2_with fail
  go_ret;exact⟨rfl,rfl⟩
 have g1:((k:Int)==12)=false:=by simp;omega
 have g2:((k:Int)==14)=false:=by simp;omega
 have g3:(k==12||k==14)=false:=by simp;omega
 rw[g3]
 go_enter func101,ntmps101
 cases a<;>cases b
 ·go_wp2_with (first|(refine H1.out.mono ?_;rintro e w1 ⟨rfl,rfl⟩)|(refine H2.out.mono ?_;rintro e w1 ⟨rfl,rfl⟩))
  go_ret;refine⟨congrArg (λb=>Ending.returned (.bool b)) ?_,rfl⟩;rw[zS];simp;try omega
 all_goals
  go_wp2_with (first|(refine H1.out.mono ?_;rintro e w1 ⟨rfl,rfl⟩)|(refine H2.out.mono ?_;rintro e w1 ⟨rfl,rfl⟩))
  go_ret;exact⟨rfl,rfl⟩
theorem D9(rb:Nat)(tv:Value)(e:Nat)(l:List Tk)(i:Nat)(w:World)(h:GT w rb tv e l):
 Calls prog 87 #[RG rb,.int .i64 i] w λen w'=>en=.returned (.int .i64 (kd l e i:Nat))/\w=w':=by
 obtain⟨c0,c3,hr,he,hs⟩:=h;obtain⟨a,cap,rfl⟩:=hr.shape;by_cases hi:i<e
 ·obtain⟨x,hx⟩:=pG l i (by omega);rw[Fl.WC hx hi];obtain⟨b,off,rfl,t0,-,-⟩:=o8 hr i x hx;obtain⟨N,hN⟩:=my (l.length);obtain⟨K,hK⟩:=my (x.1);rw[hN]at c0 he hs;rw[hK]at t0⊢;have g:¬((e:Int)<=(i:Int)):=by omega
  have gi:(i:Int)<(N:Int):=by omega
  clear hr hx hN hK hi;by_cases q1:K=20
  ·subst q1;rw[gu (.inl rfl)]
   go_enter func87,ntmps87
   go_wp2_with fail
   go_ret;exact⟨rfl,rfl⟩
  by_cases q2:K=21
  ·subst q2;rw[gu (.inr rfl)]
   go_enter func87,ntmps87
   go_wp2_with fail
   go_ret;exact⟨rfl,rfl⟩
  rw[fu (λh=>h.elim q1 q2)];have g1:((K:Int)==20)=false:=by simp;omega
  have g2:((K:Int)==21)=false:=by simp;omega
  go_enter func87,ntmps87
  go_wp2_with fail
  go_ret;exact⟨rfl,rfl⟩
 rw[Fl.Kc (by omega)];have g:(e:Int)<=(i:Int):=by omega
 clear hr hi
 go_enter func87,ntmps87
 go_wp2_with fail
 go_ret;exact⟨rfl,rfl⟩
theorem Ke(rb:Nat)(tv:Value)(e:Nat)(l:List Tk)(i:Nat)(w:World)(h:GT w rb tv e l)(hi2:i<=200000):
 Calls prog 86 #[RG rb,.int .i64 i] w λen w'=>en=.returned (.int .i64 (blanks l e i:Nat))/\w=w':=by
 obtain⟨c0,c3,hr,he,hs⟩:=h;obtain⟨a,cap,rfl⟩:=hr.shape;obtain⟨P,hP⟩:∃P:Nat->Bool,(λj=>raw l j==3)=P:=⟨_,rfl⟩
 have HX:=eu (λi (x:Tk)(hi:l[i]?=some x)=>show(x.1==3)=P i by rw[<-hP];show _=(raw l i==3);rw[Fl.rP hi]);have H:=eu (λj x (hj:l[j]?=some x)=>o8 hr j x hj);obtain⟨T,hT⟩:=my (blanks l e i);rw[hT];unfold blanks at hT;rw[hP]at hT;have HT:=eu hT;obtain⟨N,hN⟩:=my (l.length);have HN:=eu hN;rw[hN]at hs c0 he;clear hr hN hT hP
 go_enter func86,ntmps86
 go_wp2_with fail
 go_loopw [1] (λiv wr=>∃k:Nat,iv=.int .i64 k/\k<=200000/\Hid (p9 P (e-k) k=T)/\w=wr) (λiv _=>e-(intOf iv).toNat)
 case atStart=>exact⟨i,rfl,hi2,HT,rfl⟩
 case round=>
  obtain⟨k,rfl,hk,aa,rfl⟩:=hrel;by_cases hlt:k<e
  ·obtain⟨x,hx⟩:=pG l k (by rw[HN.out];omega);have ae:=HX.out k x hx;obtain⟨b,off,rfl,t0,-,-⟩:=H.out k x hx;have hst:=Fl.rZ P e k hlt;obtain⟨K,hK⟩:=my (x.1);rw[hK]at t0 ae;have gp:(k:Int)<(e:Int):=by omega
   have gi:(k:Int)<(N:Int):=by omega
   by_cases q:K=3
   ·subst q;have q:P k=true:=by rw[<-ae];rfl
    rw[gu q]at hst;have af:=eu (show p9 P (e-(k+1)) (k+1)=T by rw[<-aa.out];exact hst.symm);clear hst hx hK q H HX aa HT ae;go_wp2_with fail
    go_roundw
    case rel=>exact⟨k+1,by go_num,by omega,af,trivial⟩
    case measure=>simp[intOf];omega
   have q0:P k=false:=by rw[<-ae];simpa using q
   rw[fu (by rw[q0];decide)]at hst;obtain rfl:T=k:=by rw[<-aa.out];exact hst
   have g1:((K:Int)==3)=false:=by simp;omega
   clear hst hx hK q q0 H HX aa HT ae;go_wp2_with fail
   go_ret;exact⟨rfl,rfl⟩
  have hst:=Fl.tL P e k (by omega);obtain rfl:T=k:=by rw[<-aa.out];exact hst
  have gp:¬(T:Int)<(e:Int):=by omega
  clear H HX aa HT hlt hst;go_wp2_with fail
  go_ret;exact⟨rfl,rfl⟩
theorem FE(rb:Nat)(tv:Value)(e:Nat)(l:List Tk)(i:Nat)(w:World)(h:GT w rb tv e l)(hi2:i<=200000):
 Calls prog 98 #[RG rb,.int .i64 i] w λen w'=>en=.returned (.int .i64 (mG l e i:Nat))/\w=w':=by
 obtain⟨c0,c3,hr,he,hs⟩:=h;obtain⟨a,cap,rfl⟩:=hr.shape;obtain⟨P,hP⟩:∃P:Nat->Bool,(λj=>!cnt (raw l j))=P:=⟨_,rfl⟩
 have HX:=eu (λi (x:Tk)(hi:l[i]?=some x)=>show(!cnt x.1)=P i by rw[<-hP];show _=(!cnt (raw l i));rw[Fl.rP hi]);have H:=eu (λj x (hj:l[j]?=some x)=>o8 hr j x hj);have HC:=eu (λk=>Rt k w);obtain⟨T,hT⟩:=my (mG l e i);rw[hT];unfold mG at hT;rw[hP]at hT;have HT:=eu hT;obtain⟨N,hN⟩:=my (l.length);have HN:=eu hN;rw[hN]at hs c0 he;clear hr hN hT hP
 go_enter func98,ntmps98
 go_wp2_with fail
 go_loopw [1] (λiv wr=>∃k:Nat,iv=.int .i64 k/\k<=200000/\Hid (p9 P (e-k) k=T)/\w=wr) (λiv _=>e-(intOf iv).toNat)
 case atStart=>exact⟨i,rfl,hi2,HT,rfl⟩
 case round=>
  obtain⟨k,rfl,hk,ae,rfl⟩:=hrel;by_cases hlt:k<e
  ·obtain⟨x,hx⟩:=pG l k (by rw[HN.out];omega);have aa:=HX.out k x hx;obtain⟨b,off,rfl,t0,-,-⟩:=H.out k x hx;have hst:=Fl.rZ P e k hlt;obtain⟨K,hK⟩:=my (x.1);rw[hK]at t0 aa;have hcl:=HC.out K;have gp:(k:Int)<(e:Int):=by omega
   have gi:(k:Int)<(N:Int):=by omega
   cases q:cnt K with
   |false=>
    rw[q]at hcl aa;rw[gu (show P k=true from aa.symm)]at hst;have ag:=eu (show p9 P (e-(k+1)) (k+1)=T by rw[<-ae.out];exact hst.symm);have af:=eu hcl;clear hst hx hK q H HX ae HT aa hcl HC;go_wp2_with (refine af.out.mono ?_;rintro e w1 ⟨rfl,rfl⟩)
    go_roundw
    case rel=>exact⟨k+1,by go_num,by omega,ag,trivial⟩
    case measure=>simp[intOf];omega
   |true=>
    rw[q]at hcl aa;rw[fu (by rw[<-aa];decide)]at hst;obtain rfl:T=k:=by rw[<-ae.out];exact hst
    have af:=eu hcl;clear hst hx hK q H HX ae HT aa hcl HC;go_wp2_with (refine af.out.mono ?_;rintro e w1 ⟨rfl,rfl⟩)
    go_ret;exact⟨rfl,rfl⟩
  have hst:=Fl.tL P e k (by omega);obtain rfl:T=k:=by rw[<-ae.out];exact hst
  have gp:¬(T:Int)<(e:Int):=by omega
  clear H HX ae HT hlt hst HC;go_wp2_with fail
  go_ret;exact⟨rfl,rfl⟩
theorem JH(rb:Nat)(tv:Value)(e:Nat)(l:List Tk)(i m:Nat)(w:World)(h:GT w rb tv e l)(hi:i<=l.length)(hm:m<=200000):
 Calls prog 92 #[RG rb,.int .i64 i,.int .i64 m] w λen w'=>en=.returned (.int .i64 (back l i m:Nat))/\w=w':=by
 obtain⟨c0,c3,hr,he,hs⟩:=h;obtain⟨a,cap,rfl⟩:=hr.shape;have HX:=eu (λi (x:Tk)(hi:l[i]?=some x)=>Fl.rP hi);have HB:=eu (λi=>Fl.Eo l i m);have H:=eu (λj x (hj:l[j]?=some x)=>o8 hr j x hj);have HC:=eu (λk=>Rt k w);have H0:=eu (show back l 0 m=0 from rfl);obtain⟨T,hT⟩:=my (back l i m);rw[hT];have HT:=eu hT;obtain⟨N,hN⟩:=my (l.length);have HN:=eu hN;rw[hN]at hs c0 he hi;clear hr hN hT c3
 go_enter func92,ntmps92
 go_wp2_with fail
 go_loopw [1] (λiv wr=>∃k:Nat,iv=.int .i64 k/\k<=N/\Hid (back l k m=T)/\w=wr) (λiv _=>(intOf iv).toNat)
 case atStart=>exact⟨i,rfl,hi,HT,rfl⟩
 case round=>
  obtain⟨k,rfl,hk,aa,rfl⟩:=hrel;by_cases hlt:m<k
  ·obtain⟨j,rfl⟩:∃j,k=j+1:=⟨k-1,by omega⟩
   obtain⟨x,hx⟩:=pG l j (by rw[HN.out];omega);have ae:=HX.out j x hx;obtain⟨b,off,rfl,t0,-,-⟩:=H.out j x hx;have hst:=HB.out j;obtain⟨K,hK⟩:=my (x.1);rw[hK]at t0 ae;rw[ae]at hst;have hcl:=HC.out K;have gp:(m:Int)<((j+1:Nat):Int):=by omega
   have gi:(j:Int)<(N:Int):=by omega
   have gw:IntKind.i64.wrap (((j+1:Nat):Int)-1)=(j:Int):=by
    rw[show((j+1:Nat):Int)-1=(j:Int)by omega];exact qA _ (by omega)
   cases q:cnt K with
   |false=>
    rw[q]at hcl hst;rw[gu ⟨hlt,rfl⟩]at hst;have ag:=eu (show back l j m=T by rw[<-aa.out];exact hst.symm);have af:=eu hcl;clear hst hx hK q H HX aa HT ae hcl HC HB H0;go_wp2_with (refine af.out.mono ?_;rintro e w1 ⟨rfl,rfl⟩)
    go_roundw
    case rel=>exact⟨j,by go_num,by omega,ag,trivial⟩
    case measure=>simp[intOf]
   |true=>
    rw[q]at hcl hst;rw[fu (λh=>by cases h.2)]at hst;obtain rfl:T=j+1:=by rw[<-aa.out];exact hst
    have af:=eu hcl;clear hst hx hK q H HX aa HT ae hcl HC HB H0;go_wp2_with (refine af.out.mono ?_;rintro e w1 ⟨rfl,rfl⟩)
    go_ret;exact⟨rfl,rfl⟩
  obtain rfl:T=k:=by
   rw[<-aa.out];cases k with
   |zero=>exact H0.out
   |succ j=>rw[HB.out j,fu (λh=>hlt h.1)]
  have gp:¬(m:Int)<(T:Int):=by omega
  clear H HX aa HT hlt HC HB H0;go_wp2_with fail
  go_ret;exact⟨rfl,rfl⟩
end
section
open Go.RowKit
open Sq
open Ar
open Fl (Tk raw kd p9 cnt ends opens nL nR begins back blanks mG)
structure qp(t:List Nd):Prop where
 good:Ar.bu t
 len:t.length<=800000000000
 kids:∀x∈t,x.ks.length<=800000000000
theorem NF(w0 w:World)(rb:Nat)(tv:Value)(e:Nat)(l:List Tk)(s:Fl.St)(R:Nat->Prop)(up k f t:Int)(hS:GS w0 w rb tv e l s R)(hr:qp s.t)(hm:oV s.t up k f t=true):
 Calls prog 65 #[RG rb,.int .i64 up,.int .i64 k,.int .i64 f,.int .i64 t] w (nE w0 w rb tv e l R (.int .i64 (addN s.t up k f t).2) ⟨(addN s.t up k f t).1,s.d⟩):=by
 obtain⟨nv,dv,L,hM,hL,rfl⟩:=hS;have hN:qH w nv s.t:=hL▸hM.nodes.nodes;have hA:=Xu nv s.t up k f t w hN hr.good (qy hr.len (by decide)) (λx hx=>qy (hr.kids x hx) (by decide));rw[hm]at hA;obtain⟨A,af⟩:=my (addN s.t up k f t);rw[af]at hA⊢;have c1:=hM.cell 1 _ rfl;obtain⟨HA,HM⟩:=mR hA hM
 have HQ:=eu (λW v (h:∃ae L',GM w0 W rb tv ae dv e l L' s.d/\L'.map Ln.nd=A.1/\FP w W rb (DR dv) (DR dv)) (hv:v=.int .i64 A.2)=>show nE w0 w rb tv e l (DR dv) (.int .i64 A.2) ⟨A.1,s.d⟩ (.returned v) W from by
  obtain⟨ae,L',h1,h2,h3⟩:=h
  exact⟨by rw[hv],_,⟨ae,dv,L',h1,h2,rfl⟩,h3⟩)
 obtain⟨Q,hQ⟩:=my (nE w0 w rb tv e l (DR dv) (.int .i64 A.2) ⟨A.1,s.d⟩);rw[hQ]at HQ⊢;clear hN hA hM hL hr hm af hQ
 go_enter func65,ntmps65
 go_wp2_with fail
 refine HA.out.mono ?_;rintro e1 w1 ⟨u,rfl,ag,hO,hb⟩;obtain⟨ua,uc,hu⟩:=ag.shape;obtain⟨un,hun⟩:=my (A.1.length);rw[hun]at hu;clear hun ag;subst hu;obtain⟨L',hL',ah⟩:=hO rfl;have hO2:=ah.base HM.out.qK.size;obtain⟨w2,hw2⟩:=my (w1.alloc (.cells #[.slice ua un uc] 28));have hb2:Below w1.heap.size w1 w2:=hw2▸mr w1 _;have aa:Below w.heap.size w w2:=hb.trans (hb2.mono hb.size);obtain⟨ai,aj⟩:=HM.out.toTree aa (hO2.below hb2);have HD:=eu (HQ.out _ _ ⟨_,_,ai,hL',aj⟩ rfl);have d1:w2.cell? ⟨rb,1,none⟩=some nv:=ku aa c1;have f1:w2.frozen? ⟨rb,1,none⟩=false:=(HM.out.below aa).free 1;have HW:=eu hw2;have n0:w2.cell? ⟨w1.heap.size,0,none⟩=some (.slice ua un uc):=by rw[<-hw2];exact at_new rfl
 clear hO ah hO2 hb hb2 aa ai aj hw2 hL' HA HQ HM c1;go_upto_region 2 with fail
 rw[HW.out];clear HW;go_wp2_with fail
 exact HD.out
theorem Ol(w0 w:World)(rb:Nat)(tv:Value)(e:Nat)(l:List Tk)(s:Fl.St)(R:Nat->Prop)(up:Int)(f j code:Nat)(hS:GS w0 w rb tv e l s R)(hr:qp s.t)(hm:oV s.t up 11 f (j+1:Nat)=true)(hf:f<l.length)(hj:j<l.length)(hd:s.d.length<=800000000000):
 Calls prog 43 #[RG rb,.int .i64 up,.int .i64 f,.int .i64 (j+1:Nat),.int .i64 code] w (nE w0 w rb tv e l R (.int .i64 (addN s.t up 11 f (j+1:Nat)).2) (Fl.err l s up f (j+1) code)):=by
 have hA:=NF w0 w rb tv e l s R up 11 f (j+1:Nat) hS hr hm;obtain⟨A,ai⟩:=my (addN s.t up 11 f (j+1:Nat));have ag:Fl.err l s up f (j+1) code=⟨A.1,s.d++[⟨code,Fl.wu l f,Fl.too l j⟩]⟩:=by unfold Fl.err;rw[ai,si]
 rw[ai]at hA⊢;rw[ag];obtain⟨x,hx⟩:=pG l f hf;obtain⟨y,hy⟩:=pG l j hj;have ef:Fl.wu l f=x.2.1:=by unfold Fl.wu;rw[hx]
 have et:Fl.too l j=y.2.2:=by unfold Fl.too;rw[hy]
 rw[ef,et];obtain⟨F,hF⟩:=my (x.2.1);obtain⟨T,hT⟩:=my (y.2.2);have HA:=eu hA
 have HX:=eu (λW (h:Reads qB W tv l)=>show∃tb off tc,tv=.slice (some ⟨tb,off,none⟩) l.length tc/\W.cell? ⟨tb,off+f*3+1,none⟩=some (.int .i64 F)/\W.cell? ⟨tb,off+j*3+2,none⟩=some (.int .i64 T)from by
  obtain⟨ta,tc,rfl⟩:=h.shape;obtain⟨tb,off,rfl,-,aB,-⟩:=o8 h f x hx;obtain⟨aC,off',he,-,-,y20⟩:=o8 h j y hy;injection he with he
  injection he with e1 e2
  subst e1 e2
  exact⟨tb,off,tc,rfl,by rw[<-hF];exact aB,by rw[<-hT];exact y20⟩)
 rw[hF,hT];have HQ:=eu (λW v w1 R1 R2 (h1:FP w w1 rb R R1)(h2:GS w0 W rb tv e l ⟨A.1,s.d++[⟨code,F,T⟩]⟩ R2)(h3:FP w1 W rb R1 R2)(hv:v=.int .i64 A.2)=>show nE w0 w rb tv e l R (.int .i64 A.2) ⟨A.1,s.d++[⟨code,F,T⟩]⟩ (.returned v) W from⟨by rw[hv],R2,h2,h1.trans h3⟩);obtain⟨Q,hQ⟩:=my (nE w0 w rb tv e l R (.int .i64 A.2) ⟨A.1,s.d++[⟨code,F,T⟩]⟩);rw[hQ]at HQ⊢;have hls:=hS.gt.size;obtain⟨j1,hj1⟩:=my (j+1);rw[hj1]at HA⊢;clear hA ai ag hx hy ef et hF hT hQ hS hm
 go_enter func43,ntmps43
 go_wp2_with fail
 refine HA.out.mono ?_;rintro e1 w1 ⟨rfl,R1,hS1,hF1⟩;obtain⟨nv,dv,L,hM,hL,rfl⟩:=hS1;dsimp only at hM hL;obtain⟨tb,off,tc,rfl,x1,y2⟩:=HX.out w1 (hM.toks.below hM.qK);have c0:=hM.cell 0 _ rfl;have c2:=hM.cell 2 _ rfl;have hown0:=hM.told;obtain⟨da,dc,hdv⟩:=(Reads.mW (E:=nJ) hown0).shape;subst hdv;have HM:=eu hM;obtain⟨DN,ae⟩:=my (s.d.length);have aD:=eu (show s.d.length+1<=maxLen by simp only[maxLen];omega);have aF:=eu (show(s.d.length+1)*24<=140737488355328 by omega);have aR:=eu ae;rw[ae]at c2 HM;obtain⟨N,hN⟩:=my (l.length);rw[hN]at c0 hf hj hls HM HQ;have gi:(f:Int)<(N:Int):=by omega
 have gj:(j:Int)<(N:Int):=by omega
 have gw:IntKind.i64.wrap ((j1:Int)-1)=(j:Int):=by
  rw[show(j1:Int)-1=(j:Int)by omega];exact qA _ (by omega)
 obtain⟨wx,hwx⟩:=my ((w1.alloc (.cells #[.int .i64 code,.int .i64 F,.int .i64 T] 87)).drew);have hbx:Below w1.heap.size w1 wx:=by rw[<-hwx];exact(mr w1 _).drew
 have aG:=eu hbx;have aH:=eu (show wx.ownsRow w0.heap.size 87 nJ.k (.slice da DN dc) s.d.length (nJ.all s.d)by rw[<-ae];exact mU hown0 hbx);have af:∀jj c,(nJ.all [(⟨code,F,T⟩:Fl.Dg)])[jj]?=some c->wx.cell? ⟨w1.heap.size,jj,none⟩=some c:=by
  intro jj c hj;rw[<-hwx];show(w1.alloc _).cell? ⟨w1.heap.size,jj,none⟩=_;rw[wh]
  simpa [qP.all,nJ,xz]using hj
 have ak:=eu af;have aI:=ku hbx c0;have aJ:=ku hbx c2;have aK:=ku hbx x1;have aL:=ku hbx y2;have hws:w0.heap.size<=wx.heap.size:=qy hM.qK.size hbx.size
 have aM:=eu (λw6 (hg:wx.grownBy w6 (Value.slice da DN dc).ownBlock)=>show w6.cell? ⟨tb,off+f*3+1,none⟩=some (.int .i64 (F:Int))/\w6.cell? ⟨tb,off+j*3+2,none⟩=some (.int .i64 (T:Int))from by
  have hb:=((HM.out.qK.trans (hbx.mono HM.out.qK.size)).grown hg hws (λq hq=>by rw[<-ae]at hq;exact(hown0.lt q hq).1))
  obtain⟨aC,off',aS,he,k1,k2⟩:=HX.out w6 (by have h1:=HM.out.toks.below hb;rw[<-hN]at h1;exact h1);obtain⟨he1,-,-⟩:=sK he;injection he1 with he1
  injection he1 with e1 e2
  subst e1 e2
  exact⟨k1,k2⟩)
 obtain⟨aN,HL⟩:=mR hwx hL;have aO:=eu (show FP w w1 rb R (DR (.slice da DN dc))by rw[<-ae];exact hF1);clear hM hown0 ae hN hwx af hbx HA HX hd hL hF1 hr;go_upto_region 2 with fail
 refine mK (λwx=>wx.cell? ⟨rb,0,none⟩=some (.slice (some ⟨tb,off,none⟩) N tc)/\wx.cell? ⟨rb,2,none⟩=some (.slice da DN dc)/\wx.cell? ⟨tb,off+f*3+1,none⟩=some (.int .i64 (F:Int))/\wx.cell? ⟨tb,off+j*3+2,none⟩=some (.int .i64 (T:Int))) 28 (by kernel_rfl) ?_;have hH:(λwx:World=>wx.cell? ⟨rb,0,none⟩=some (.slice (some ⟨tb,off,none⟩) N tc)/\wx.cell? ⟨rb,2,none⟩=some (.slice da DN dc)/\wx.cell? ⟨tb,off+f*3+1,none⟩=some (.int .i64 (F:Int))/\wx.cell? ⟨tb,off+j*3+2,none⟩=some (.int .i64 (T:Int))) w1.drew:=⟨pR c0,pR c2,pR x1,pR y2⟩
 refine mI 0 (.pointer (some ⟨rb,0,none⟩)) rfl (by kernel_rfl) rfl mD (λW hW=>by go_simp) hH ?_;refine mI 1 (.pointer (some ⟨rb,0,none⟩)) rfl (by kernel_rfl) rfl mD (λW hW=>by go_simp) hH ?_;refine mI 2 (.pointer (some ⟨rb,0,none⟩)) rfl (by kernel_rfl) rfl mD (λW hW=>by go_simp) hH ?_;refine mI 3 (.pointer (some ⟨rb,2,none⟩)) rfl (by kernel_rfl) rfl mD (λW hW=>by go_simp) hH ?_;refine mI 4 (.slice da DN dc) rfl (by kernel_rfl) rfl mD (λW hW=>?_) hH ?_
 ·obtain⟨z0,z1,z2,z3⟩:=hW;go_simp
 refine mI 5 (.int .i64 (code:Int)) rfl (by kernel_rfl) rfl mD (λW hW=>by go_simp) hH ?_;refine mI 6 (.pointer (some ⟨rb,0,none⟩)) rfl (by kernel_rfl) rfl mD (λW hW=>by go_simp) hH ?_;refine mI 7 (.pointer (some ⟨rb,0,none⟩)) rfl (by kernel_rfl) rfl mD (λW hW=>by go_simp) hH ?_;refine mI 8 (.pointer (some ⟨rb,0,none⟩)) rfl (by kernel_rfl) rfl mD (λW hW=>by go_simp) hH ?_;refine mI 9 (.slice (some ⟨tb,off,none⟩) N tc) rfl (by kernel_rfl) rfl mD (λW hW=>?_) hH ?_
 ·obtain⟨z0,z1,z2,z3⟩:=hW;go_simp
 refine mI 10 (.int .i64 (f:Int)) rfl (by kernel_rfl) rfl mD (λW hW=>by go_simp) hH ?_;refine mI 11 (.pointer (some ⟨tb,off+f*3,none⟩)) rfl (by kernel_rfl) rfl mD (λW hW=>by go_simp) hH ?_;refine mI 12 (.pointer (some ⟨tb,off+f*3+1,none⟩)) rfl (by kernel_rfl) rfl mD (λW hW=>by go_simp) hH ?_;refine mI 13 (.int .i64 (F:Int)) rfl (by kernel_rfl) rfl mD (λW hW=>?_) hH ?_
 ·obtain⟨z0,z1,z2,z3⟩:=hW;go_simp
 refine mI 14 (.pointer (some ⟨rb,0,none⟩)) rfl (by kernel_rfl) rfl mD (λW hW=>by go_simp) hH ?_;refine mI 15 (.pointer (some ⟨rb,0,none⟩)) rfl (by kernel_rfl) rfl mD (λW hW=>by go_simp) hH ?_;refine mI 16 (.pointer (some ⟨rb,0,none⟩)) rfl (by kernel_rfl) rfl mD (λW hW=>by go_simp) hH ?_;refine mI 17 (.slice (some ⟨tb,off,none⟩) N tc) rfl (by kernel_rfl) rfl mD (λW hW=>?_) hH ?_
 ·obtain⟨z0,z1,z2,z3⟩:=hW;go_simp
 refine mI 18 (.int .i64 (j1:Int)) rfl (by kernel_rfl) rfl mD (λW hW=>by go_simp) hH ?_;refine mI 19 (.int .i64 (j:Int)) rfl (by kernel_rfl) rfl mD (λW hW=>by go_simp) hH ?_;refine mI 20 (.pointer (some ⟨tb,off+j*3,none⟩)) rfl (by kernel_rfl) rfl mD (λW hW=>by go_simp) hH ?_;refine mI 21 (.pointer (some ⟨tb,off+j*3+2,none⟩)) rfl (by kernel_rfl) rfl mD (λW hW=>by go_simp) hH ?_;refine mI 22 (.int .i64 (T:Int)) rfl (by kernel_rfl) rfl mD (λW hW=>?_) hH ?_
 ·obtain⟨z0,z1,z2,z3⟩:=hW;go_simp
 refine mI 23 (.agg #[.int .i64 (code:Int),.int .i64 (F:Int),.int .i64 (T:Int)]) rfl (by kernel_rfl) rfl mD (λW hW=>by go_simp) hH ?_;refine oD 24 (by kernel_rfl) rfl λK hK=>?_
 go_simp;rw[aN.out];refine hK.out _ _ (λ_=>⟨aI,aJ,aK,aL⟩) (λhH2=>?_);clear hK K;replace hH:=hH2 (by kernel_rfl);clear hH2;try simp only[Act.put,mM,mP,mO]
 refine oD 25 (by kernel_rfl) rfl λK hK=>?_
 refine nU QT rfl (.tmp 21) (.tmp 41) rfl w0.heap.size (.slice da DN dc) s.d rfl aH.out w1.heap.size 1 [(⟨code,F,T⟩:Fl.Dg)] rfl rfl ak.out aD.out aF.out hws ?_;intro v6 w6 hown6 aj ah;obtain⟨a6,c6,hv6⟩:=(Reads.mW (E:=nJ) hown6).shape;obtain⟨n6,av⟩:=my ((s.d++[(⟨code,F,T⟩:Fl.Dg)]).length);rw[av]at hv6;clear av;subst hv6;obtain⟨aa,ax,ay⟩:=HM.out.more aG.out aj hown6 ah;have aP:w6.cell? ⟨rb,2,none⟩=some (.slice da DN dc):=(nz aa 2).trans rfl;have f26:w6.frozen? ⟨rb,2,none⟩=false:=oI aa 2;have aQ:w6.cell? ⟨rb,0,none⟩=some (.slice (some ⟨tb,off,none⟩) N tc):=(nz aa 0).trans rfl;have hb6:=aM.out w6 aj;have az:w6.cell? ⟨tb,off+f*3+1,none⟩=some (.int .i64 (F:Int)):=hb6.1;have aA:w6.cell? ⟨tb,off+j*3+2,none⟩=some (.int .i64 (T:Int)):=hb6.2;have HD:=eu (HQ.out _ _ w1 _ _ aO.out ⟨_,_,_,ax,HL.out,rfl⟩ ay rfl);clear hown6 aj ah aa ax ay hb6;refine hK.out _ _ (λ_=>⟨aQ,aP,az,aA⟩) (λhH2=>?_);clear hK K;replace hH:=hH2 (by kernel_rfl);clear hH2;try simp only[Act.put,mM,mP,mO]
 refine nA 26 (.pointer (some ⟨rb,0,none⟩)) rfl (by kernel_rfl) rfl mD (λW=>by go_simp) (λ_=>hH) ?_;refine mI 27 (.pointer (some ⟨rb,2,none⟩)) rfl (by kernel_rfl) rfl mD (λW hW=>by go_simp) hH ?_;refine oD 28 (by kernel_rfl) rfl λK hK=>?_
 go_simp;refine hK.out _ _ (pV (by kernel_rfl)) (λ_=>?_);clear hK K;try simp only[Act.put,mM,mP,mO]
 refine mH (by kernel_rfl) ?_ _;go_wp2_with fail
 exact HD.out
theorem Om(w0 w:World)(rb:Nat)(tv:Value)(e:Nat)(l:List Tk)(s:Fl.St)(R:Nat->Prop)(i:Nat)(hS:GS w0 w rb tv e l s R)(hi:i<s.t.length)(hn:s.t.length<=800000000000):
 Calls prog 93 #[RG rb,.int .i64 i] w (nE w0 w rb tv e l R (.tuple #[]) ⟨Fl.keyed s.t i,s.d⟩):=by
 obtain⟨nv,dv,L,hM,hL,rfl⟩:=hS;have hLn:L.length=s.t.length:=by rw[<-hL,tV]
 obtain⟨p,hp⟩:=pG L i (by omega);have hq:(L.set i {p with nd:={p.nd with y:=true}}).map Ln.nd=Fl.keyed s.t i:=by
  have hx:s.t[i]?=some p.nd:=by rw[<-hL,r9,hp];rfl
  unfold Fl.keyed;rw[oN,hx,<-hL,Uu]
 obtain⟨g,cap,az,-,-,-,-⟩:=pP hM.nodes.row (by omega);subst az;have c1:=hM.cell 1 _ rfl;have ai:=eu (Reads.mW (E:=uY) hM.nodes.row);have HM:=eu hM;obtain⟨T,hT⟩:=my (Fl.keyed s.t i);rw[hT]at hq⊢
 have HQ:=eu (λW (h:∃ag L',GM w0 W rb tv ag dv e l L' s.d/\L'.map Ln.nd=T/\FP w W rb (DR dv) (DR dv))=>show nE w0 w rb tv e l (DR dv) (.tuple #[]) ⟨T,s.d⟩ (.returned (.tuple #[])) W from by
  obtain⟨ag,L',h1,h2,h3⟩:=h
  exact⟨rfl,_,⟨ag,dv,L',h1,h2,rfl⟩,h3⟩)
 obtain⟨Q,hQ⟩:=my (nE w0 w rb tv e l (DR dv) (.tuple #[]) ⟨T,s.d⟩);rw[hQ]at HQ⊢;obtain⟨HP,aA⟩:=mR hp hq;have aB:=eu (show([]:List Ln).length+L.length<=maxLen by simp only[maxLen,sH];omega);have aC:=eu (show(([]:List Ln).length+L.length)*64<=140737488355328 by simp only[sH];omega);have aD:=eu (rG (e:=37) uY w);have aa:=eu (mr w (.cells #[] 37));have aj:=ku aa.out c1;obtain⟨N,hN⟩:=my (L.length);rw[hN]at c1 aj ai;have hii:(i:Int)<(N:Int):=by omega
 have HN:=eu hN;have aI:N<=800000000000:=by omega
 clear hM hL hLn hp hq hT hQ hi hn hN
 go_enter func93,ntmps93
 go_upto_region 1 with(at_builtin;go_must (refine oH Xo rfl (.tmp 5) (.tmp 10) rfl w.heap.size _ ([]:List Ln) rfl aD.out _ L rfl (ai.out.below aa.out) aB.out aC.out aa.out.size ?_;intro v2 w2 hown2 hg2 ak;rw[zU]at hown2;obtain⟨g2,cap2,hv2,ae,af,av,hcm2⟩:=pP hown2 (by rw[HN.out];omega);rw[HN.out]at hv2;subst hv2;have ah:=eu hown2;have aF:=eu (show(w.alloc (.cells #[] 37)).grownBy w2 (some w.heap.size)from hg2);have aG:=eu ae;have aH:=eu af;clear hown2 hg2 ak ae af av hcm2))
 have hb2:Below w.heap.size w w2:=aa.out.grown aF.out aa.out.size (λq hq=>by injection hq with hq;omega);have hO2:OT w2 w0.heap.size (.slice (some ⟨g2,0,none⟩) N cap2) L:=by
  refine⟨oU ah.out HM.out.qK.size,λj q hq=>mU (HM.out.nodes.kids j q hq) hb2,HM.out.nodes.apart⟩
 have hO3:=hO2.set i 5 p {p.nd with y:=true} (.bool true) HP.out rfl rfl (by decide);obtain⟨w3,hw3⟩:=my (w2.setCell ⟨g2,i*6+5,none⟩ (.bool true));have hb3:Below w.heap.size w w3:=by rw[<-hw3];exact hb2.setCell (p:=⟨g2,i*6+5,none⟩) aG.out _
 rw[hw3]at hO3;obtain⟨ax,ay⟩:=HM.out.toTree hb3 hO3;have HD:=eu (HQ.out _ ⟨_,_,ax,aA.out,ay⟩);have d1:w3.cell? ⟨rb,1,none⟩=some (.slice (some ⟨g,0,none⟩) N cap):=ku hb3 c1;have f1:w3.frozen? ⟨rb,1,none⟩=false:=(HM.out.below hb3).free 1;have c5:w2.cell? ⟨g2,i*6+5,none⟩=some (.bool p.nd.y):=by
  have:=hO2.row.cells (g:=g2) rfl _ _ ((qh uY L i p HP.out 5 (by decide)).trans rfl);rw[nX,qz]at this;exact this
 have f5:=aH.out (i*6+5);have HW3:=eu hw3;clear hb2 hO2 hO3 hb3 ax ay hw3 aj c1 HQ HM;go_upto_region 2 with fail
 rw[HW3.out];clear HW3 c5 f5;go_wp2_with fail
 go_end0
 exact HD.out
end
section
open Go.RowKit
open Sq
open Fl (Tk raw kd p9 cnt ends opens nL nR begins back blanks mG AX balanced rO qi key props text step)
namespace Fl
theorem Gx{k:Nat}(h:opens k=true):ends k=false:=by unfold opens at h;unfold ends;simp at h⊢;omega
theorem Oo{k n:Nat}(h:opens k=true):step k n=n+1:=by unfold step;rw[gu h]
theorem Oq{k n:Nat}(h1:opens k=false)(h2:ends k=true):step k n=n-1:=by unfold step;rw[h1,h2];rfl
theorem IL{k n:Nat}(h1:opens k=false)(h2:ends k=false):step k n=n:=by unfold step;rw[h1,h2];rfl
theorem BZ{l:List Tk}{e i:Nat}(h:kd l e i≠0):i<e:=by
 by_cases hi:i<e
 ·exact hi
 exact absurd (Kc (by omega)) h
theorem Ep(l:List Tk)(e g j n:Nat):AX l e (g+1) j n=if kd l e j=0 then none else if step (kd l e j) n=0 then some (j+1)else AX l e g (j+1) (step (kd l e j) n):=rfl
theorem Pf(l:List Tk)(e g j n:Nat)(h:kd l e j=0):AX l e g j n=none:=by
 cases g with
 |zero=>rfl
 |succ g=>rw[Ep,gu h]
theorem Bc(l:List Tk)(e g j n:Nat):rO l e (g+1) j n=if kd l e j=0 then j else if n=0/\(kd l e j=7\/ends (kd l e j)=true)then j else rO l e g (j+1) (step (kd l e j) n):=rfl
theorem Jf(l:List Tk)(e g j n:Nat)(h:kd l e j=0):rO l e g j n=j:=by
 cases g with
 |zero=>rfl
 |succ g=>rw[Bc,gu h]
theorem C9(l:List Tk)(e g i:Nat):props l e (g+1) i=if nR (kd l e i)=true then props l e g (mG l e (i+1))else i:=rfl
theorem LX(l:List Tk)(e g i:Nat)(h:nR (kd l e i)=false):props l e g i=i:=by
 cases g with
 |zero=>rfl
 |succ g=>rw[C9,fu (by rw[h];decide)]
end Fl
theorem Er(rb:Nat)(tv:Value)(e:Nat)(l:List Tk)(i:Nat)(w:World)(h:GT w rb tv e l)(ho:opens (kd l e i)=true):
 Calls prog 90 #[RG rb,.int .i64 i] w λen w'=>en=.returned (.int .i64 (balanced l e i:Nat))/\w=w':=by
 have hie:i<e:=Fl.BZ (λh0=>by rw[h0]at ho;exact absurd ho (by decide))
 have hes:e<=100000:=qy h.ends h.size;obtain⟨T,hT⟩:=my (balanced l e i);obtain⟨B,hB⟩:=my (AX l e (e-i) i 0);obtain⟨J,hJ⟩:=my (p9 (λj=>kd l e j !=0) (e-i) i);have HJ:=eu hJ;rw[hT];unfold balanced at hT;rw[hB,hJ]at hT;obtain⟨HT,HB0⟩:=mR hT hB;have HK:=eu (λj=>D9 rb tv e l j w h);have ah:=eu (λj (hj:j<=l.length)=>show Calls prog 92 #[RG rb,.int .i64 j,.int .i64 ((i:Int)+1)] w λen w'=>en=.returned (.int .i64 (back l j (i+1):Nat))/\w=w' from by have h1:=JH rb tv e l j (i+1) w h hj (by omega);rw[show((i+1:Nat):Int)=(i:Int)+1 from by omega]at h1;exact h1);have ai:=eu (λk=>Fh k w);have aj:=eu (λk=>JG k w);have HO:=eu ho;have hend:=h.ends;obtain⟨N,hN⟩:=my (l.length);rw[hN]at hend;have HN:=eu hN;clear h ho hT hB hJ hN
 go_enter func90,ntmps90
 go_wp2_with fail
 go_loopw [5,6] (λnv jv wr=>∃n j g:Nat,nv=.int .i64 n/\jv=.int .i64 j/\j<=e/\n<=j/\Hid (e<=g+j)/\Hid (AX l e g j n=B)/\Hid (1<=n\/opens (kd l e j)=true)/\w=wr) (λ_ jv _=>e-(intOf jv).toNat)
 case atStart=>exact⟨0,i,e-i,rfl,rfl,by omega,nO _,eu (by omega),HB0,eu (.inr HO.out),rfl⟩
 case round=>
  obtain⟨n,j,g,rfl,rfl,hj,av,HG,HB,ae,rfl⟩:=hrel;have hk:=HK.out j;obtain⟨K,hK⟩:=my (kd l e j);rw[hK]at hk;have aa:=eu hk;by_cases q0:K=0
  ·subst q0;have hb:=HB.out;rw[Fl.Pf l e g j n hK]at hb;subst hb;have ht:=HT.out;have HT2:=eu (show back l J (i+1)=T from ht);clear hk hK HB ae HG HB0 HT ht HO av;go_wp2_with (with_reducible refine aa.out.mono ?_;rintro e w1 ⟨rfl,rfl⟩)
   clear aa
   go_loopw [7] (λjv wr=>∃k:Nat,jv=.int .i64 k/\k<=e/\Hid (p9 (λj=>kd l e j !=0) (e-k) k=J)/\w=wr) (λjv _=>e-(intOf jv).toNat)
   case atStart=>exact⟨i,rfl,by omega,HJ,rfl⟩
   case round=>
    obtain⟨k,rfl,hk2,HJ2,rfl⟩:=hrel;have hk:=HK.out k;obtain⟨K,hK⟩:=my (kd l e k);rw[hK]at hk;have aa:=eu hk;by_cases q1:K=0
    ·subst q1;have ax:J=k:=by
      rw[<-HJ2.out];by_cases hke:k<e
      ·rw[Fl.rZ _ _ _ hke,fu (by rw[hK];decide)]
      exact Fl.tL _ _ _ (by omega)
     subst ax;have hbk:=ah.out J (by rw[HN.out];omega);rw[HT2.out]at hbk;have ay:=eu hbk;clear hk hK hbk HJ2;go_wp2_with (first|(with_reducible refine aa.out.mono ?_;rintro e w1 ⟨rfl,rfl⟩)|(refine ay.out.mono ?_;rintro e w1 ⟨rfl,rfl⟩))
     go_ret;exact⟨rfl,rfl⟩
    have hke:=Fl.BZ (l:=l) (e:=e) (i:=k) (by rw[hK];exact q1);have hst:=Fl.rZ (λj=>kd l e j !=0) e k hke;rw[gu (by rw[hK];simpa using q1)]at hst;have az:=eu (show p9 (λj=>kd l e j !=0) (e-(k+1)) (k+1)=J by rw[<-hst];exact HJ2.out);have gk:(0:Int)<(K:Int):=by omega
    clear hk hK hst q1 HJ2;go_wp2_with (with_reducible refine aa.out.mono ?_;rintro e w1 ⟨rfl,rfl⟩)
    go_roundw
    case rel=>exact⟨k+1,by go_num,by omega,az,trivial⟩
    case measure=>simp[intOf];omega
  have aA:=Fl.BZ (l:=l) (e:=e) (i:=j) (by rw[hK];exact q0);have hg1:=HG.out;obtain⟨g',rfl⟩:∃g',g=g'+1:=⟨g-1,by omega⟩
  have hb:=HB.out;rw[Fl.Ep,hK,fu q0]at hb;have gk:(0:Int)<(K:Int):=by omega
  have ho:=ai.out K;have hn:=aj.out K;have hn1:=ae.out;rw[hK]at hn1;cases c1:opens K with
  |true=>
   have c2:=Fl.Gx c1;rw[c1]at ho;rw[c2]at hn;rw[Fl.Oo c1,fu (by omega)]at hb;obtain⟨af,ag,HB2⟩:=nY ho hn hb;have ak:=eu (show e<=g'+(j+1)by omega);have gn:((((n:Int)+1))==0)=false:=by simp;omega
   clear hk hK hb ho hn hn1 c1 c2 hg1 HG HB ae HB0 HT HO q0 HK ah ai aj HJ;go_wp2_with (first|(with_reducible refine aa.out.mono ?_;rintro e w1 ⟨rfl,rfl⟩)|(with_reducible refine af.out.mono ?_;rintro e w1 ⟨rfl,rfl⟩)|(with_reducible refine ag.out.mono ?_;rintro e w1 ⟨rfl,rfl⟩))
   go_roundw
   case rel=>exact⟨n+1,j+1,g',by go_num,by go_num,by omega,by omega,ak,HB2,eu (.inl (by omega)),trivial⟩
   case measure=>simp[intOf];omega
  |false=>
   rw[c1]at ho hn1;have hn0:1<=n:=hn1.resolve_right (by decide);cases c2:ends K with
   |true=>
    rw[c2]at hn;rw[Fl.Oq c1 c2]at hb;obtain⟨af,ag⟩:=mR ho hn;by_cases c3:n=1
    ·subst c3;rw[gu (show 1-1=0 from rfl)]at hb;subst hb;have ht:=HT.out;have ht:j+1=T:=ht;subst ht;clear hk hK ho hn hn1 c1 c2 hg1 HG HB ae HB0 HT HO q0 HK ah ai aj HJ;go_wp2_with (first|(with_reducible refine aa.out.mono ?_;rintro e w1 ⟨rfl,rfl⟩)|(with_reducible refine af.out.mono ?_;rintro e w1 ⟨rfl,rfl⟩)|(with_reducible refine ag.out.mono ?_;rintro e w1 ⟨rfl,rfl⟩))
     go_ret;exact⟨rfl,rfl⟩
    obtain⟨m,rfl⟩:∃m,n=m+1:=⟨n-1,by omega⟩
    rw[si,fu (by omega)]at hb;have HB2:=eu hb;have ak:=eu (show e<=g'+(j+1)by omega);have gw:IntKind.i64.wrap (((m+1:Nat):Int)-1)=(m:Int):=by
     rw[show((m+1:Nat):Int)-1=(m:Int)by omega];exact qA _ (by omega)
    have gn:((m:Int)==0)=false:=by simp;omega
    clear hk hK hb ho hn hn1 c1 c2 hg1 HG HB ae HB0 HT HO q0 HK ah ai aj HJ;go_wp2_with (first|(with_reducible refine aa.out.mono ?_;rintro e w1 ⟨rfl,rfl⟩)|(with_reducible refine af.out.mono ?_;rintro e w1 ⟨rfl,rfl⟩)|(with_reducible refine ag.out.mono ?_;rintro e w1 ⟨rfl,rfl⟩))
    go_roundw
    case rel=>exact⟨m,j+1,g',by go_num,by go_num,by omega,by omega,ak,HB2,eu (.inl (by omega)),trivial⟩
    case measure=>simp[intOf];omega
   |false=>
    rw[c2]at hn;rw[Fl.IL c1 c2,fu (by omega)]at hb;obtain⟨af,ag,HB2⟩:=nY ho hn hb;have ak:=eu (show e<=g'+(j+1)by omega);have gn:((n:Int)==0)=false:=by simp;omega
    clear hk hK hb ho hn hn1 c1 c2 hg1 HG HB ae HB0 HT HO q0 HK ah ai aj HJ;go_wp2_with (first|(with_reducible refine aa.out.mono ?_;rintro e w1 ⟨rfl,rfl⟩)|(with_reducible refine af.out.mono ?_;rintro e w1 ⟨rfl,rfl⟩)|(with_reducible refine ag.out.mono ?_;rintro e w1 ⟨rfl,rfl⟩))
    go_roundw
    case rel=>exact⟨n,j+1,g',by go_num,by go_num,by omega,by omega,ak,HB2,eu (.inl hn0),trivial⟩
    case measure=>simp[intOf];omega
end
section
open Go.RowKit
open Sg
open Sq
open Ar
theorem Pg(a b c:Int)(w:World):(binOp .eql 87 (.agg #[.int .i64 a,.int .i64 b,.int .i64 c]) (.agg #[.int .i64 a,.int .i64 b,.int .i64 c])).run prog w=.ok (.bool true) w:=by
 have u3:=underlying3;have hS:prog.underlying 87=some (.struct (prog.fieldsOf 87)):=by kernel_rfl
 have hp:prog.stoodInHeld 87=false:=by kernel_rfl
 rw[run_eql_struct,show(10000:Nat)=9999+1 from rfl,run_equalIn_agg w 9999 87 _ _ hS hp];simp only[Program.fieldsOf,underlying87];go_simp
theorem sW{w:World}{a:Option Addr}{cap:Nat}{D:List Fl.Dg}(h:Reads nJ w (.slice a D.length cap) D)(j:Nat)(x:Fl.Dg)(hx:D[j]?=some x):
 ∃b off,a=some ⟨b,off,none⟩/\w.cell? ⟨b,off+j*3,none⟩=some (.int .i64 (x.code:Int))/\w.cell? ⟨b,off+j*3+1,none⟩=some (.int .i64 (x.f:Int))/\w.cell? ⟨b,off+j*3+2,none⟩=some (.int .i64 (x.t:Int)):=by
 obtain⟨b,off,rfl,hat⟩:=h.at_ j x hx;exact⟨b,off,rfl,hat 0 _ rfl,hat 1 _ rfl,hat 2 _ rfl⟩
end
end Go.Proofs.Ytfbiffdmhcjhbaa

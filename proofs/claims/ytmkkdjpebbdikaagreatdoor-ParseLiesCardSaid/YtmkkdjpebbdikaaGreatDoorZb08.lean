import Derived.Test.YtmkkdjpebbdikaaGreatDoorZb02
import Derived.Test.YtmkkdjpebbdikaaGreatDoorZb03
import Derived.Test.YtmkkdjpebbdikaaGreatDoorZb04
import Derived.Test.YtmkkdjpebbdikaaGreatDoorZb05
import Derived.BigQuiet
import Derived.Deep.CutBlock
import Derived.Deep.DeepCutAuto
import Derived.Deep.DeepMust
import Derived.Lib.MinMax
import Derived.Lib.SmallJoins
import Derived.Maps.AppendAt
import Derived.OneCell
import Derived.WalkSmall
set_option linter.all false
set_option maxHeartbeats 16000000
set_option maxRecDepth 100000
namespace Go.Proofs.YtmkkdjpebbdikaaGreatDoor
open Go.RowKit Tryz
def akx:=@Below.refl
def yJ:=@World.cell?_alloc_mark
def sw:=@Joins.block_setCell
def qc:=@Joins.unfrozen_of_block
def Dw:=@ownsRow_setCell_other
def lz:=@heap_alloc_new
def gK:=@lt_of_block
def jo:=@Below.heap_setCell
def Pj:=@one_setCell
def Pk:=@ownsRow_setCell_below
def fq:=@Joins.cell_of_block
def jh:=@cell_of_one
def Dx:=@free_of_one
section
open Go.RowKit
theorem size_alloc(w:World)(o:Obj):(w.alloc o).heap.size=w.heap.size+1:=eG
theorem dZ(w:World)(o:Obj):Below w.heap.size w (w.alloc o):=(akx _ w).alloc (eO _) o
theorem gD{a w:World}(h:Below a.heap.size a w)(o:Obj):Below a.heap.size a (w.alloc o):=h.alloc h.size o
theorem ig(w:World)(a:Addr)(v:Value)(h:(w.cell? a).isSome=true):(w.setCell a v).cell? a=some v:=by
 obtain⟨u,hu⟩:=Option.isSome_iff_exists.1 h;exact World.cell?_setCell_same w a v hu
theorem vF(w:World)(b o o':Nat)(v:Value)(h:o≠o'):(w.setCell ⟨b,o,none⟩ v).cell? ⟨b,o',none⟩=w.cell? ⟨b,o',none⟩:=
 ah3 w _ _ v (λe=>h (by injection e))
theorem K5(w:World)(b o b' o':Nat)(v:Value)(h:b≠b'):(w.setCell ⟨b,o,none⟩ v).cell? ⟨b',o',none⟩=w.cell? ⟨b',o',none⟩:=
 ah3 w _ _ v (λe=>h (by injection e))
theorem eB{W w':World}{p:Addr}{u:Value}(hb:Below W.heap.size W w')(h:W.cell? p=some u):w'.cell? p=some u:=by rw[hb.cell (lt_of_cell h)];exact h
theorem yX{W:World}{b o o':Nat}{v u:Value}(hne:o≠o')(h:W.cell? ⟨b,o',none⟩=some u):(W.setCell ⟨b,o,none⟩ v).cell? ⟨b,o',none⟩=some u:=by rw[vF _ _ _ _ _ hne];exact h
theorem mQ{W:World}{b o b' o':Nat}{v u:Value}(hne:b≠b')(h:W.cell? ⟨b',o',none⟩=some u):(W.setCell ⟨b,o,none⟩ v).cell? ⟨b',o',none⟩=some u:=by rw[K5 _ _ _ _ _ _ hne];exact h
theorem iL{W:World}{o:Obj}{p:Addr}{u:Value}(h:W.cell? p=some u):(W.alloc o).cell? p=some u:=by rw[(dZ W o).cell (lt_of_cell h)];exact h
theorem at_new{W:World}{C:Array Value}{t:TypeId}{k:Nat}{u:Value}(h:C[k]?=some u):(W.alloc (.cells C t)).cell? ⟨W.heap.size,k,none⟩=some u:=by rw[yJ];exact h
theorem eP{W:World}{p:Addr}{u:Value}(h:W.cell? p=some u):W.drew.cell? p=some u:=h
end
section
open Go.RowKit
open Sq
open Ar
def encI:mW Int:=⟨λx=>[.int .i64 x],1,dU,λ_=>rfl,λx u hu=>by
 cases hu with
 |head=>rfl
 |tail _ hu=>cases hu⟩
theorem tyI:Ty prog encI 22 3 8:=Ty.of (z:=.int .i64 0) underlying22 dV dV rfl (λw=>dV)
structure Ln where
 nd:Nd
 a:Option Addr
 n:Nat
 c:Nat
abbrev Ln.val(p:Ln):Value:=.slice p.a p.n p.c
def l8(p:Ln):List Value:=[.int .i64 p.nd.k,.int .i64 p.nd.f,.int .i64 p.nd.t,.int .i64 p.nd.u,p.val,.bool p.nd.y]
def fZ:mW Ln:=⟨l8,6,dU,λ_=>rfl,λx u hu=>by
 cases hu with
 |head=>rfl
 |tail _ hu=>cases hu with
  |head=>rfl
  |tail _ hu=>cases hu with
   |head=>rfl
   |tail _ hu=>cases hu with
    |head=>rfl
    |tail _ hu=>cases hu with
     |head=>rfl
     |tail _ hu=>cases hu with
      |head=>rfl
      |tail _ hu=>cases hu⟩
theorem OV:Ty prog fZ 29 38 64:=Ty.of (z:=.agg #[.int .i64 0,.int .i64 0,.int .i64 0,.int .i64 0,.slice none 0 0,.bool false]) underlying29 dV dV rfl (λw=>dV)
def iC(w:World)(v:Value)(l:List Nd):Prop:=∃L:List Ln,L.map Ln.nd=l/\Reads fZ w v L/\∀p∈L,Reads encI w p.val p.nd.ks
section
variable {w w':World}{v:Value}{l:List Nd}
theorem iC.below(h:iC w v l)(hb:Below w.heap.size w w'):iC w' v l:=by
 obtain⟨L,h1,h2,h3⟩:=h;exact⟨L,h1,h2.below hb,λp hp=>(h3 p hp).below hb⟩
theorem iC.shape(h:iC w v l):∃a cap,v=.slice a l.length cap:=by
 obtain⟨L,h1,h2,_⟩:=h;obtain⟨a,cap,e⟩:=h2.shape;exact⟨a,cap,by rw[e,<-h1,jl]⟩
theorem iC.size_le(h:iC w v l):l.length<=maxLen:=by
 obtain⟨L,h1,h2,_⟩:=h;rw[<-h1,jl];exact h2.size_le
theorem KD{p:Ln}(h:Reads encI w p.val p.nd.ks):p.n=p.nd.ks.length:=by
 obtain⟨a,cap,e⟩:=h.shape;injection e
theorem iC.at_{a:Option Addr}{cap:Nat}(h:iC w (.slice a l.length cap) l)(j:Nat)(x:Nd)(hj:l[j]?=some x):
 ∃b off ka kc,a=some ⟨b,off,none⟩/\w.cell? ⟨b,off+j*6,none⟩=some (.int .i64 x.k)/\w.cell? ⟨b,off+j*6+1,none⟩=some (.int .i64 x.f)/\w.cell? ⟨b,off+j*6+2,none⟩=some (.int .i64 x.t)/\w.cell? ⟨b,off+j*6+3,none⟩=some (.int .i64 x.u)/\
  w.cell? ⟨b,off+j*6+4,none⟩=some (.slice ka x.ks.length kc)/\w.cell? ⟨b,off+j*6+5,none⟩=some (.bool x.y)/\Reads encI w (.slice ka x.ks.length kc) x.ks:=by
 obtain⟨L,h1,h2,h3⟩:=h;have hlen:L.length=l.length:=by rw[<-h1,jl]
 rw[<-hlen]at h2;rw[<-h1,kS]at hj;cases hp:L[j]? with
 |none=>rw[hp]at hj;cases hj
 |some p=>
  rw[hp]at hj;injection hj with hj
  subst hj;obtain⟨b,off,e,hc⟩:=h2.at_ j p hp;have hk:=h3 p (gW hp);have hn:=KD hk;refine⟨b,off,p.a,p.c,e,hc 0 _ rfl,hc 1 _ rfl,hc 2 _ rfl,hc 3 _ rfl,?_,hc 5 _ rfl,?_⟩
  ·rw[<-hn];exact hc 4 _ rfl
  ·rw[<-hn];exact hk
theorem CQ{a:Option Addr}{cap:Nat}{l:List Int}(h:Reads encI w (.slice a l.length cap) l)(j:Nat)(x:Int)(hj:l[j]?=some x):
 ∃b off,a=some ⟨b,off,none⟩/\w.cell? ⟨b,off+j,none⟩=some (.int .i64 x):=by
 obtain⟨b,off,h1,h2⟩:=h.at_ j x hj;have:=h2 0 _ rfl;exact⟨b,off,h1,by rw[show off+j=off+j*encI.k+0 by show off+j=off+j*1+0;omega];exact this⟩
end
theorem T4{α:Type}(E:mW α):∀(L:List α)(i j:Nat)(x x':α)(u:Value),L[i]?=some x->E.cells x'=(E.cells x).set j u->j<E.k->E.all (L.set i x')=(E.all L).set (i*E.k+j) u
 |[],i,j,x,x',u=>λh=>jQ
 |y::r,0,j,x,x',u=>λh hc hj=>by
  obtain rfl:y=x:=kU
  rw[fB,mW.all,mW.all,hc,O5,jY,aez _ _ (by rw[E.len];exact hj)]
 |y::r,i+1,j,x,x',u=>λh hc hj=>by
  rw[fC,mW.all,mW.all,T4 E r i j x x' u kU hc hj,LH _ _ PK,E.len];congr 2;rw[Dr];omega
theorem ou{α:Type}{E:mW α}{w:World}{B e g n cap:Nat}{L:List α}(h:w.ownsRow B e E.k (.slice (some ⟨g,0,none⟩) n cap) L.length (E.all L))(i j:Nat)(x x':α)(u:Value)(hx:L[i]?=some x)(hc:E.cells x'=(E.cells x).set j u)(hj:j<E.k):
 (w.setCell ⟨g,i*E.k+j,none⟩ u).ownsRow B e E.k (.slice (some ⟨g,0,none⟩) n cap) (L.set i x').length (E.all (L.set i x')):=by
 have hi:=(eY.1 hx).1;obtain⟨h1,h2⟩:=h;rcases h2 with⟨h2,_⟩|⟨g',cap',cur,hv,hg,hh,hn,hcp,hcs,ht⟩
 ·cases h2
 ·obtain⟨e1,e2,e3⟩:=lX hv;injection e1 with e1
  injection e1 with e1
  subst e1 e3;refine⟨by rw[lD],.inr ⟨g,cap,cur.setIfInBounds (i*E.k+j) u,by rw[nQ,<-e2],hg,sw hh u,by rw[nQ];exact hn,hcp,by simpa using hcs,?_⟩⟩;rw[nQ,T4 E L i j x x' u hx hc hj,<-ht,Array.toList_setIfInBounds,List.take_set]
theorem jf{α:Type}{E:mW α}{w:World}{B e:Nat}{v:Value}{L:List α}(h:w.ownsRow B e E.k v L.length (E.all L))(h0:0<L.length):
 ∃g cap,v=.slice (some ⟨g,0,none⟩) L.length cap/\B<=g/\(∀o,w.frozen? ⟨g,o,none⟩=false)/\L.length<=cap/\cap<=maxLen:=by
 rcases h.2 with⟨_,h2⟩|⟨g,cap,cur,hv,hg,hh,hn,hcp,hcs,ht⟩
 ·omega
 ·exact⟨g,cap,hv,hg,λo=>qc hh o,hn,hcp⟩
theorem eX{w:World}{B B' e e' s s' n n':Nat}{v v':Value}{xs xs':List Value}(h:w.ownsRow B e s v n xs)(h':w.ownsRow B' e' s' v' n' xs')(hne:e≠e')(g:Nat)(hg:v.ownBlock=some g):v'.ownBlock≠some g:=λhg'=>by
 rcases h.2 with⟨h1,_⟩|⟨b,cap,cur,hv,_,hh,_⟩
 ·rw[h1]at hg;cases hg
 ·rcases h'.2 with⟨h1,_⟩|⟨b',cap',cur',hv',_,hh',_⟩
  ·rw[h1]at hg';cases hg'
  ·rw[hv]at hg;rw[hv']at hg';obtain rfl:b=g:=by simpa [Value.ownBlock]using hg
   obtain rfl:b'=b:=by simpa [Value.ownBlock]using hg'
   rw[hh]at hh';injection hh' with hh'
   injection hh' with _ h3
   exact hne h3
structure OT(w:World)(B:Nat)(v:Value)(L:List Ln):Prop where
 row:w.ownsRow B 38 6 v L.length (fZ.all L)
 kids:∀(i:Nat)(p:Ln),L[i]?=some p->w.ownsRow B 3 1 p.val p.nd.ks.length (encI.all p.nd.ks)
 apart:∀(i j:Nat)(p q:Ln),i≠j->L[i]?=some p->L[j]?=some q->∀g,p.val.ownBlock=some g->q.val.ownBlock≠some g
section
variable {w w':World}{B:Nat}{v:Value}{L:List Ln}
theorem OT.below(h:OT w B v L)(hb:Below w.heap.size w w'):OT w' B v L:=⟨own_below h.row hb,λi p hp=>own_below (h.kids i p hp) hb,h.apart⟩
theorem OT.base{B':Nat}(h:OT w B v L)(hB:B'<=B):OT w B' v L:=⟨lK h.row hB,λi p hp=>lK (h.kids i p hp) hB,h.apart⟩
theorem OT.nodes(h:OT w B v L):iC w v (L.map Ln.nd):=⟨L,rfl,Reads.fo (E:=fZ) h.row,λp hp=>by
 obtain⟨i,hi⟩:=jy hp
 exact Reads.fo (E:=encI) (h.kids i p hi)⟩
theorem OT.nil(w:World)(B:Nat):OT w B (.slice none 0 0) []:=⟨kX fZ _ _,λi p h=>jQ,λi j p q _ h=>jQ⟩
theorem OT.set{g n cap:Nat}(h:OT w B (.slice (some ⟨g,0,none⟩) n cap) L)(i j:Nat)(p:Ln)(nd:Nd)(u:Value)(hp:L[i]?=some p)(hks:nd.ks=p.nd.ks)(hc:l8 {p with nd:=nd}=(l8 p).set j u)(hj:j<6):
 OT (w.setCell ⟨g,i*6+j,none⟩ u) B (.slice (some ⟨g,0,none⟩) n cap) (L.set i {p with nd:=nd}):=by
 have hi:=(eY.1 hp).1;have key:∀(a:Nat)(q:Ln),(L.set i {p with nd:=nd})[a]?=some q->∃q',L[a]?=some q'/\q.val=q'.val/\q.nd.ks=q'.nd.ks:=by
  intro a q hq;rw[oI]at hq;split at hq
  ·rename_i e;subst e;injection hq with hq;subst hq
   exact⟨p,hp,rfl,hks⟩
  ·exact⟨q,hq,rfl,rfl⟩
 refine⟨ou h.row i j p _ u hp hc hj,λa q hq=>?_,λa b q r hab hq hr g' hg'=>?_⟩
 ·obtain⟨q',h1,h2,h3⟩:=key a q hq;rw[h2,h3];exact Dw (h.kids a q' h1) (eX h.row (h.kids a q' h1) dU g rfl) u
 ·obtain⟨q',h1,h2,_⟩:=key a q hq;obtain⟨r',h4,h5,_⟩:=key b r hr;rw[h2]at hg';rw[h5];exact h.apart a b q' r' hab h1 h4 g' hg'
end
end
section
open Go.RowKit
open Sq
open Ar
section
variable {α:Type}{E:mW α}{w:World}
theorem lS{P:Program}{t e:TypeId}{bytes:Nat}(T:Ty P E t e bytes){ops:Array Oper}{rest:List Oper}{o:Oper}{act:Act}{Q:Exit->Act->World->Prop}(hgd:o.guard=none)(x y:Operand)
 (ho:o.op=.call {callee:=.builtin .append,args:=#[x,y],argTypes:=#[t,t]})
 (base:Nat) (v:Value) (l:List α) (hs:act.eval x=v) (hown:w.ownsRow base e E.k v l.length (E.all l)) (yv:Value) (m:List α) (hy:act.eval y=yv) (hb:Reads E w yv m)
 (hmax:l.length+m.length<=maxLen) (hlen:(l.length+m.length)*bytes<=140737488355328) (hbase:base<=w.heap.size)
 (h:∀v' w',w'.ownsRow base e E.k v' (l++m).length (E.all (l++m))->w.grownBy w' v.ownBlock->(v'.ownBlock=v.ownBlock\/v'.ownBlock=some w.heap.size)->wpList P ops Q rest (act.put o.dst v') w'):wpList P ops Q (o::rest) act w:=by
 obtain⟨i,z,hi,hz,hsz,hby,hzs⟩:=T.parts;rcases hb with⟨rfl,rfl⟩|⟨b,off,cap,rfl,h2,h3,h4⟩
 ·exact Y9
 ·exact wpList_append_own_at w hgd x y t ho base e i z E.k bytes T.ht hi hz hsz hby hzs E.pos v l.length (E.all l) hs hown ⟨b,off,none⟩ m.length cap (E.all m) hy (lD E m) (news h4) (xK E m) hmax hlen hbase (λv' w' q1 q2 _ q3=>h v' w' PN q2 q3)
theorem zf(w:World)(u:α)(cs:List Value)(t:TypeId)(hc:E.cells u=cs):Reads E (w.alloc (.cells cs.toArray t)) (.slice (some ⟨w.heap.size,0,none⟩) 1 1) [u]:=
 .inr ⟨w.heap.size,0,1,rfl,eO _,dU,λj x hj i c hi=>by
  match j,hj with
  |0,hj=>
   obtain rfl:u=x:=by simpa using hj
   rw[hc]at hi;have e:(⟨w.heap.size,0+0*E.k+i,none⟩:Addr)=⟨w.heap.size,i,none⟩:=eG
   rw[e,yJ,aep];exact hi
  |j+1,hj=>simp at hj⟩
theorem nE{x y:Value}(h:∀g,x.ownBlock=some g->y.ownBlock≠some g):y.ownBlock=none\/y.ownBlock≠x.ownBlock:=by
 cases hy:y.ownBlock with
 |none=>exact .inl rfl
 |some g=>exact .inr (λe=>h g e.symm hy)
end
section
variable {w w':World}{B:Nat}{v:Value}{L:List Ln}
theorem OT.push{v':Value}{o:Obj}{p:Ln}(h:OT w B v L)(hk:w.ownsRow B 3 1 p.val p.nd.ks.length (encI.all p.nd.ks))(ha:∀(i:Nat)(q:Ln),L[i]?=some q->∀g,p.val.ownBlock=some g->q.val.ownBlock≠some g)
 (hg:(w.alloc o).grownBy w' v.ownBlock) (hrow:w'.ownsRow B 38 6 v' (L++[p]).length (fZ.all (L++[p]))):OT w' B v' (L++[p]):=by
 have key:∀(a:Nat)(q:Ln),(L++[p])[a]?=some q->(L[a]?=some q/\a<L.length)\/(a=L.length/\q=p):=by
  intro a q hq;rcases O3 a L.length with hj|hj|hj
  ·rw[nK hj]at hq;exact .inl ⟨hq,hj⟩
  ·subst hj;rw[oH (eO _)]at hq;simp at hq;exact .inr ⟨rfl,hq.symm⟩
  ·rw[sZ eQ]at hq;cases hq
 refine⟨hrow,λa q hq=>?_,λa b q r hab hq hr g aa=>?_⟩
 ·rcases key a q hq with⟨h1,_⟩|⟨_,rfl⟩
  ·exact((h.kids a q h1).alloc o).kept hg (nE (eX h.row (h.kids a q h1) dU))
  ·exact(hk.alloc o).kept hg (nE (eX h.row hk dU))
 ·rcases key a q hq with⟨h1,_⟩|⟨ha1,rfl⟩
  ·rcases key b r hr with⟨h2,_⟩|⟨_,rfl⟩
   ·exact h.apart a b q r hab h1 h2 g aa
   ·exact λe=>ha a q h1 g e aa
  ·rcases key b r hr with⟨h2,_⟩|⟨hb1,rfl⟩
   ·exact ha b r h2 g aa
   ·omega
theorem OT.kid{g n cap i:Nat}{o:Obj}{p:Ln}{a':Option Addr}{n' c':Nat}(h:OT w B (.slice (some ⟨g,0,none⟩) n cap) L)(hp:L[i]?=some p)(z:Int)(hg:(w.alloc o).grownBy w' p.val.ownBlock)
 (hown:w'.ownsRow B 3 1 (.slice a' n' c') (p.nd.ks++[z]).length (encI.all (p.nd.ks++[z]))) (hat:(Value.slice a' n' c').ownBlock=p.val.ownBlock\/(Value.slice a' n' c').ownBlock=some (w.alloc o).heap.size):
 OT (w'.setCell ⟨g,i*6+4,none⟩ (.slice a' n' c')) B (.slice (some ⟨g,0,none⟩) n cap) (L.set i ⟨{p.nd with ks:=p.nd.ks++[z]},a',n',c'⟩):=by
 have hi:=(eY.1 hp).1;have hrow:w'.ownsRow B 38 6 (.slice (some ⟨g,0,none⟩) n cap) L.length (fZ.all L):=
  (h.row.alloc o).kept hg (nE (eX (h.kids i p hp) h.row dU))
 have key:∀(a:Nat)(q:Ln),(L.set i ⟨{p.nd with ks:=p.nd.ks++[z]},a',n',c'⟩)[a]?=some q->(a=i/\q=⟨{p.nd with ks:=p.nd.ks++[z]},a',n',c'⟩)\/(a≠i/\L[a]?=some q):=by
  intro a q hq;rw[oI]at hq;split at hq
  ·rename_i e;subst e;injection hq with hq;exact .inl ⟨rfl,hq.symm⟩
  ·rename_i e;exact .inr ⟨λx=>e x.symm,hq⟩
 have new:∀(b:Nat)(r:Ln),b≠i->L[b]?=some r->∀g,(Value.slice a' n' c').ownBlock=some g->r.val.ownBlock≠some g:=by
  intro b r hb hr g1 hg1;rcases hat with e|e
  ·exact h.apart i b p r (λx=>hb x.symm) hp hr g1 (e▸hg1)
  ·intro hr1;have:=((h.kids b r hr).lt g1 hr1).2;rw[hg1]at e;injection e with e
   rw[size_alloc]at e;omega
 refine⟨ou hrow i 4 p _ _ hp rfl dU,λa q hq=>?_,λa b q r hab hq hr g1 aa=>?_⟩
 ·rcases key a q hq with⟨rfl,rfl⟩|⟨ha,hq⟩
  ·exact Dw hown (eX hrow hown dU g rfl) _
  ·have h1:=((h.kids a q hq).alloc o).kept hg (nE (λg1 hg1=>h.apart i a p q (λx=>ha x.symm) hp hq g1 hg1));exact Dw h1 (eX hrow h1 dU g rfl) _
 ·rcases key a q hq with⟨rfl,rfl⟩|⟨ha,hq1⟩
  ·rcases key b r hr with⟨rfl,rfl⟩|⟨hb,hr⟩
   ·exact absurd rfl hab
   ·exact new b r hb hr g1 aa
  ·rcases key b r hr with⟨rfl,rfl⟩|⟨hb,hr1⟩
   ·exact λe=>new a q ha hq1 g1 e aa
   ·exact h.apart a b q r hab hq1 hr1 g1 aa
end
end
section
open Go.RowKit
def Lt(w:World)(b o:Nat)(u:Value):Prop:=w.cell? ⟨b,o,none⟩=some u/\w.frozen? ⟨b,o,none⟩=false
theorem jK{W w':World}{b o:Nat}{u:Value}(hb:Below W.heap.size W w')(h:Lt W b o u):Lt w' b o u:=
 ⟨by rw[hb.cell (p:=⟨b,o,none⟩) (lt_of_cell h.1)];exact h.1,by rw[hb.frozen (p:=⟨b,o,none⟩) (lt_of_cell h.1)];exact h.2⟩
theorem VK{W:World}{o:Obj}{b k:Nat}{u:Value}(h:Lt W b k u):Lt (W.alloc o) b k u:=jK (dZ W o) h
theorem ab9{W:World}{b k:Nat}{u:Value}(h:Lt W b k u):Lt W.drew b k u:=h
theorem xG{W:World}{C:Array Value}{t:TypeId}{k:Nat}{u:Value}(h:C[k]?=some u):Lt (W.alloc (.cells C t)) W.heap.size k u:=
 ⟨by rw[yJ];exact h,World.frozen?_alloc_new W C t k⟩
end
section
open Go.RowKit
open Sq
open Ar
theorem eD{w w1 w2:World}(h1:Below w.heap.size w w1)(h2:Below w1.heap.size w1 w2):Below w.heap.size w w2:=h1.trans (h2.mono h1.size)
def akJ(own:Bool)(R:List Nd)(w:World)(e:Ending)(w':World):Prop:=
 ∃u,e=.returned (.agg #[u])/\iC w' u R/\(own=true->∃L,L.map Ln.nd=R/\OT w' w.heap.size u L)/\Below w.heap.size w w'
theorem T6{α:Type}(E:mW α)(w:World)(e B:Nat)(l:List α)(C:Array Value)(hC:C=(E.all l).toArray)(hl:l.length<=1000)(hB:B<=w.heap.size):
 (w.alloc (.cells C e)).ownsRow B e E.k (.slice (some ⟨w.heap.size,0,none⟩) l.length l.length) l.length (E.all l):=by
 subst hC;refine⟨lD E l,.inr ⟨w.heap.size,l.length,(E.all l).toArray,rfl,hB,lz w _,eO _,qV,by simp[lD],?_⟩⟩;rw[<-lD E l];simp
theorem aiY(w:World)(B:Nat)(x:Nd)(hx:x.ks=[])(hB:B<=w.heap.size):OT (w.alloc (.cells #[.int .i64 x.k,.int .i64 x.f,.int .i64 x.t,.int .i64 x.u,.slice none 0 0,.bool x.y] 38)) B (.slice (some ⟨w.heap.size,0,none⟩) 1 1) [⟨x,none,0,0⟩]:=by
 refine⟨T6 fZ w _ B [(⟨x,none,0,0⟩:Ln)] _ rfl eG hB,λi p hp=>?_,λi j p q hij hp hq=>?_⟩
 ·cases i with
  |zero=>
   obtain rfl:(⟨x,none,0,0⟩:Ln)=p:=by simpa using hp
   show World.ownsRow _ _ _ _ (.slice none 0 0) x.ks.length (encI.all x.ks);rw[hx];exact kX encI _ _
  |succ i=>simp at hp
 ·cases i with
  |zero=>
   cases j with
   |zero=>exact absurd rfl hij
   |succ j=>simp at hq
  |succ i=>simp at hp
theorem aca{l:List Nd}(h:0<l.length):∃x,l[0]?=some x/\firstT l=x.t:=by
 cases l with
 |nil=>simp at h
 |cons x r=>exact⟨x,rfl,rfl⟩
def aiZ(own:Bool)(R:List Nd×Int)(w:World)(e:Ending)(w':World):Prop:=
 ∃u,e=.returned (.tuple #[.agg #[u],.int .i64 R.2])/\iC w' u R.1/\(own=true->∃L,L.map Ln.nd=R.1/\OT w' w.heap.size u L)/\Below w.heap.size w w'
def Ke(l:List Nd)(p:Nd)(f:Int):Bool:=!(decide (f<p.f))&&match p.ks.getLast? with
 |none=>true
 |some z=>!(decide (f<XB l z))
theorem VL(l:List Nd)(up kind f t:Int)(p:Nd)(hp:l[up.toNat]?=some p):
 il l up kind f t=(!(decide (up<0)||decide ((l.length:Int)<=up)||decide (kind<1)||decide (11<kind)||decide (t<f)||decide (firstT l<t))&&Ke l p f):=by
 unfold il Ke;rw[hp];rfl
theorem acb(l:List Nd)(up kind f t:Int)(hb:(decide (up<0)||decide ((l.length:Int)<=up)||decide (kind<1)||decide (11<kind)||decide (t<f)||decide (firstT l<t))=true):il l up kind f t=false:=by
 unfold il;rw[hb];rfl
def wit(x n:Int):Int:=if x.tmod n<0 then x.tmod n+n else x.tmod n
theorem ai0(x n:Int)(h:0<n):0<=wit x n/\wit x n<n:=by
 have h1:=Lx x h;have h2:-n<x.tmod n:=by
  have:=Lx (-x) h;rw[aek]at this;omega
 unfold wit;split<;>omega
theorem Hd{W:World}{tb:Nat}{a:Option Addr}{n c:Nat}(hc:W.cell? ⟨tb,0,none⟩=some (.slice a n c))(v:Value)(q:Addr)(u:Value)(hq:W.cell? q=some u)(hu:q=⟨tb,0,none⟩->∀a n c,u≠.slice a n c):(W.setCell ⟨tb,0,none⟩ v).cell? q=some u:=by
 by_cases e:q=⟨tb,0,none⟩
 ·rw[e,hc]at hq;exact absurd (iG hq).symm (hu e a n c)
 ·rw[ah3 _ _ _ _ (λh=>e h.symm)];exact hq
theorem iC.set{W:World}{tb:Nat}{a:Option Addr}{n c:Nat}{u:Value}{l:List Nd}(h:iC W u l)(hc:W.cell? ⟨tb,0,none⟩=some (.slice a n c))(v:Value):iC (W.setCell ⟨tb,0,none⟩ v) u l:=by
 obtain⟨L,h1,h2,h3⟩:=h;refine⟨L,h1,?_,λp hp=>?_⟩
 ·rcases h2 with h2|⟨b,off,cap,e1,e2,e3,e4⟩
  ·exact .inl h2
  ·refine .inr ⟨b,off,cap,e1,e2,e3,λj x hj i w hw=>Hd hc v _ _ (e4 j x hj i w hw) (λe a n c=>?_)⟩;have h0:off+j*fZ.k+i=0:=by injection e
   have hi:i=0:=dS
   subst hi;have hx:(fZ.cells x)[0]?=some (.int .i64 x.nd.k):=rfl;rw[hx]at hw;obtain rfl:=iG hw;intro e;cases e
 ·rcases h3 p hp with h2|⟨b,off,cap,e1,e2,e3,e4⟩
  ·exact .inl h2
  ·refine .inr ⟨b,off,cap,e1,e2,e3,λj x hj i w hw=>Hd hc v _ _ (e4 j x hj i w hw) (λe a n c=>?_)⟩;cases i with
   |zero=>
    obtain rfl:=iG hw;intro e;cases e
   |succ i=>cases hw
end
section
open Go.RowKit
open Sq
open Ar
def uT(w:World)(g:Nat):Prop:=∃cs fr,w.heap[g]?=some (.cells cs 3 fr)
def oQ(w w':World):Prop:=∀g,uT w g->w'.heap[g]?=w.heap[g]?
section
variable {w w':World}{B:Nat}{v:Value}
theorem uT.lt{g:Nat}(h:uT w g):g<w.heap.size:=by
 obtain⟨cs,fr,e⟩:=h;exact gK e
theorem uT.keep{g:Nat}(h:uT w g)(k:oQ w w'):uT w' g:=by
 have e1:=k g h;obtain⟨cs,fr,e⟩:=h;exact⟨cs,fr,e1.trans e⟩
theorem oQ.trans{a b c:World}(h:oQ a b)(k:oQ b c):oQ a c:=λg hg=>(k g (hg.keep h)).trans (h g hg)
theorem xg(hb:Below w.heap.size w w'):oQ w w':=λg hg=>hb.block g hg.lt
theorem Oa(w:World)(o:Obj):oQ w (w.alloc o):=xg (dZ w o)
theorem FC(hg:w.grownBy w' none):oQ w w':=λg h=>hg.block g h.lt (λe=>uP)
def KE(w:World)(g:Nat):Prop:=∃cs fr,w.heap[g]?=some (.cells cs 38 fr)
theorem aa6{g g':Nat}(h:uT w g)(h':KE w g'):g≠g':=λe=>by
 subst e;obtain⟨cs,fr,e1⟩:=h;obtain⟨cs',fr',e2⟩:=h';rw[e1]at e2;injection e2 with e2
 injection e2 with _ e3
 exact absurd e3 dU
theorem sG{size n:Nat}{xs:List Value}(h:w.ownsRow B 38 size v n xs){g:Nat}(hg:v.ownBlock=some g):KE w g:=Zc
theorem xM{size n:Nat}{xs:List Value}(h:w.ownsRow B 3 size v n xs){g:Nat}(hg:v.ownBlock=some g):uT w g:=Zc
theorem xh{size n:Nat}{xs:List Value}(h:w.ownsRow B 38 size v n xs)(hg:w.grownBy w' v.ownBlock):oQ w w':=λg hi=>
 hg.block g hi.lt (λe=>aa6 hi (sG h e.symm) rfl)
theorem VM{g:Nat}(h:KE w g)(o:Nat)(u:Value):oQ w (w.setCell ⟨g,o,none⟩ u):=λg' hi=>
 jo _ _ _ _ (aa6 hi h)
theorem xZ{g:Nat}{cs:Array Value}{t:TypeId}{fr:Nat×Nat}(h:w.heap[g]?=some (.cells cs t fr))(ht:t≠3)(o:Nat)(u:Value):oQ w (w.setCell ⟨g,o,none⟩ u):=λg' hi=>
 jo _ _ _ _ (λe=>by
  obtain⟨cs',fr',e2⟩:=hi;rw[show g'=g from e]at e2;rw[h]at e2;injection e2 with e2
  injection e2 with _ e3
  exact ht e3)
structure GQ(w:World)(B:Nat)(p:Ln):Prop where
 reads:Reads encI w p.val p.nd.ks
 blk:∀ad,p.a=some ad->B<=ad.block/\uT w ad.block
theorem zX{E:mW Int}{a:Option Addr}{n c:Nat}{l:List Int}(h:Reads E w (.slice a n c) l)(hc:∀ad,a=some ad->∀o x,w.cell? ⟨ad.block,o,none⟩=some x->ad.off<=o->o<ad.off+l.length*E.k->w'.cell? ⟨ad.block,o,none⟩=some x):Reads E w' (.slice a n c) l:=by
 rcases h with h|⟨b,off,cap,hv,h2,h3,h4⟩
 ·exact .inl h
 ·obtain⟨rfl,-,-⟩:=lX hv;refine .inr ⟨b,off,cap,hv,h2,h3,λj x hj i u hu=>?_⟩;have hjl:=(eY.1 hj).1;have hik:i<E.k:=by rw[<-E.len x];exact(eY.1 hu).1
  refine hc _ rfl _ _ (h4 j x hj i u hu) (by show off<=_;omega) ?_;show off+j*E.k+i<off+l.length*E.k
  have:(j+1)*E.k<=l.length*E.k:=O4 _ hjl;rw[Dr]at this;omega
theorem GQ.keep{p:Ln}(h:GQ w B p)(k:oQ w w'):GQ w' B p:=by
 refine⟨zX h.reads (λad had o x hx _ _=>?_),λad had=>⟨(h.blk ad had).1,(h.blk ad had).2.keep k⟩⟩;rw[XX (a:=⟨ad.block,o,none⟩) (k _ (h.blk ad had).2)];exact hx
theorem GQ.nd{p:Ln}(h:GQ w B p)(nd:Nd)(hk:nd.ks=p.nd.ks):GQ w B {p with nd:=nd}:=⟨by show Reads _ _ p.val nd.ks;rw[hk];exact h.reads,h.blk⟩
theorem GQ.nil(w:World)(B:Nat)(x:Nd)(hx:x.ks=[]):GQ w B ⟨x,none,0,0⟩:=⟨by show Reads _ _ _ x.ks;rw[hx];exact .inl ⟨rfl,rfl⟩,λad h=>fV⟩
theorem GQ.own{x:Nd}{a:Option Addr}{n c:Nat}(h:w.ownsRow B 3 encI.k (.slice a n c) x.ks.length (encI.all x.ks)):GQ w B ⟨x,a,n,c⟩:=by
 refine⟨Reads.fo (E:=encI) h,λad had=>?_⟩;have aa:(Value.slice a n c).ownBlock=some ad.block:=by
  have had:a=some ad:=had;rw[had];rfl
 exact⟨(h.lt _ aa).1,xM h aa⟩
structure PT(w:World)(B:Nat)(v:Value)(L:List Ln):Prop where
 row:w.ownsRow B 38 fZ.k v L.length (fZ.all L)
 kids:∀p∈L,GQ w B p
theorem PT.keep{L:List Ln}(h:PT w B v L)(hr:w'.ownsRow B 38 fZ.k v L.length (fZ.all L))(k:oQ w w'):PT w' B v L:=⟨hr,λp hp=>(h.kids p hp).keep k⟩
theorem PT.below{L:List Ln}(h:PT w B v L)(hb:Below w.heap.size w w'):PT w' B v L:=h.keep (own_below h.row hb) (xg hb)
theorem PT.nodes{L:List Ln}(h:PT w B v L):iC w v (L.map Ln.nd):=⟨L,rfl,Reads.fo (E:=fZ) h.row,λp hp=>(h.kids p hp).reads⟩
theorem PT.box{L:List Ln}(h:PT w B v L){g:Nat}{cs:Array Value}{t:TypeId}{fr:Nat×Nat}(hh:w.heap[g]?=some (.cells cs t fr))(ht:t≠3)(ht2:t≠38)(o:Nat)(u:Value):PT (w.setCell ⟨g,o,none⟩ u) B v L:=
 h.keep (Dw h.row (a:=⟨g,o,none⟩) (λe=>by
  obtain⟨cs',fr',e2⟩:=sG h.row e;rw[hh]at e2;injection e2 with e2
  injection e2 with _ e3
  exact ht2 e3) u) (xZ hh ht o u)
theorem PT.set{g n cap:Nat}{L:List Ln}(h:PT w B (.slice (some ⟨g,0,none⟩) n cap) L)(i j:Nat)(p p':Ln)(u:Value)(hp:L[i]?=some p)(hc:l8 p'=(l8 p).set j u)(hj:j<6)(hk:GQ w B p'):
 PT (w.setCell ⟨g,i*6+j,none⟩ u) B (.slice (some ⟨g,0,none⟩) n cap) (L.set i p'):=by
 have hkp:oQ w (w.setCell ⟨g,i*6+j,none⟩ u):=VM (sG h.row rfl) _ _;refine⟨ou h.row i j p p' u hp hc hj,λq hq=>?_⟩;rcases ahQ hq with hq|rfl
 ·exact(h.kids q hq).keep hkp
 ·exact hk.keep hkp
theorem PT.push{v':Value}{L:List Ln}{p:Ln}(h:PT w B v L)(hp:GQ w B p)(k:oQ w w')(hrow:w'.ownsRow B 38 fZ.k v' (L++[p]).length (fZ.all (L++[p]))):PT w' B v' (L++[p]):=
 ⟨hrow,λq hq=>by
  rcases kC.1 hq with hq|hq
  ·exact(h.kids q hq).keep k
  ·obtain rfl:q=p:=by simpa using hq
   exact hp.keep k⟩
end
theorem BU{P:Program}(w:World)(base:Nat)(t ty e:TypeId)(i:TypeInfo)(z:Value)(size bytes:Nat)(ht:P.underlying t=some (.slice e))(hi:P.info? e=some i)(hz:i.zero=some z)
 (hsize:i.size=size) (hby:i.bytes=bytes) (hzs:z.cells.size=size) (hsz:0<size)
 (v:Value) (n:Nat) (xs:List Value) (hown:w.ownsRow base e size v n xs)
 (a:Addr) (m c:Nat) (news:List Value) (hl:news.length=m*size) (hnews:∀j u,news[j]?=some u->w.cell? (a.add j)=some u) (h1:∀u∈news,u.oneCell'=true)
 (h63:n+m<=maxLen) (hbytes:(n+m)*bytes<=140737488355328) (hbase:base<=w.heap.size):
 ∃v' w',(Builtin.append_ #[t,t] ty #[v,.slice (some a) m c]).run P w=.ok v' w'/\w'.ownsRow base e size v' (n+m) (xs++news)/\w.grownBy w' v.ownBlock/\
  (v'.ownBlock=v.ownBlock\/(v'.ownBlock=some w.heap.size/\w.grownBy w' none)):=by
 obtain⟨v',w',hr,h2,h3,_,h5⟩:=run_append_own_at (P:=P) w base t ty e i z size bytes ht hi hz hsize hby hzs hsz v n xs hown a m c news hl hnews h1 h63 hbytes hbase;refine⟨v',w',hr,h2,h3,?_⟩;rcases h5 with h5|h5
 ·exact .inl h5
 ·rcases hown.2 with⟨rfl,_⟩|⟨g,cap,cur,rfl,hbg,hg,hnc,hcm,hcs,htake⟩
  ·exact .inr ⟨h5,h3⟩
  ·have hlt:g<w.heap.size:=(Dl.1 hg).1
   subst hsize;subst hby;by_cases hroom:n+m<=cap
   ·have hr2:=run_append_room (P:=P) w t ty e i ht hi g n cap cur hg a m c news hl hnews h1 hroom (by rw[hl,hcs,<-Dr];exact O4 _ hroom);rw[hr]at hr2;injection hr2 with hr2 _
    subst hr2;exact .inl rfl
   ·simp only[maxLen]at h63;have hr2:=run_append_grow (P:=P) w t ty e i z ht hi hz ⟨g,0,none⟩ n cap xs hown.1 (hown.cells (g:=g) rfl) a m c news hl hnews dS dS (growslice_fits dS hbytes);rw[hr]at hr2;injection hr2 with _ hr2
    subst hr2;exact .inr ⟨h5,⟨rfl,rfl,rfl,eG,λk hk _=>heap_alloc_old w.drew _ hk⟩⟩
theorem GH{α:Type}{E:mW α}{w:World}{P:Program}{t e:TypeId}{bytes:Nat}(T:Ty P E t e bytes){ops:Array Oper}{rest:List Oper}{o:Oper}{act:Act}{Q:Exit->Act->World->Prop}(hgd:o.guard=none)(x y:Operand)
 (ho:o.op=.call {callee:=.builtin .append,args:=#[x,y],argTypes:=#[t,t]})
 (base:Nat) (v:Value) (l:List α) (hs:act.eval x=v) (hown:w.ownsRow base e E.k v l.length (E.all l)) (yv:Value) (m:List α) (hy:act.eval y=yv) (hb:Reads E w yv m)
 (hmax:l.length+m.length<=maxLen) (hlen:(l.length+m.length)*bytes<=140737488355328) (hbase:base<=w.heap.size)
 (h:∀v' w',w'.ownsRow base e E.k v' (l++m).length (E.all (l++m))->w.grownBy w' v.ownBlock->(v'.ownBlock=v.ownBlock\/(v'.ownBlock=some w.heap.size/\w.grownBy w' none))->wpList P ops Q rest (act.put o.dst v') w'):wpList P ops Q (o::rest) act w:=by
 obtain⟨i,z,hi,hz,hsz,hby,hzs⟩:=T.parts;rcases hb with⟨rfl,rfl⟩|⟨b,off,cap,rfl,h2,h3,h4⟩
 ·exact Y9
 ·refine wpList_plain hgd λK hK=>?_
  obtain⟨v',w',hr,q1,q2,q3⟩:=BU (P:=P) w base t o.type e i z E.k bytes T.ht hi hz hsz hby hzs E.pos v l.length (E.all l) hown ⟨b,off,none⟩ m.length cap (E.all m) (lD E m) (news h4) (xK E m) hmax hlen hbase;unfold Oper.wp execOp;simp only[ho,resolve,invoke,builtin,ah1,ah2,aeG,ahN,yG,O0,hs,hy,hr];exact hK _ _ (h v' w' PN q2 q3)
structure Piece(w:World)(B:Nat)(av:Value)(F:List Int)(p:Ln):Prop where
 kid:GQ w B p
 full:p.c=p.n
 upto:∀ad,p.a=some ad->av.ownBlock=some ad.block->ad.off+p.nd.ks.length<=F.length
theorem Piece.moved{w w':World}{B:Nat}{av aa:Value}{F ks:List Int}{p:Ln}(h:Piece w B av F p)(hown:w.ownsRow B 3 encI.k av F.length (encI.all F))(hown':w'.ownsRow B 3 encI.k aa (F++ks).length (encI.all (F++ks)))
 (hg:w.grownBy w' av.ownBlock) (hm:aa.ownBlock=av.ownBlock\/(aa.ownBlock=some w.heap.size/\w.grownBy w' none)):Piece w' B aa (F++ks) p:=by
 rcases hm with hm|⟨hm,hn⟩
 ·refine⟨⟨zX h.kid.reads (λad had o x hx h1 h2=>?_),λad had=>⟨(h.kid.blk ad had).1,?_⟩⟩,h.full,λad had hb=>?_⟩
  ·by_cases hb:av.ownBlock=some ad.block
   ·have hu:=h.upto ad had hb;have h2:o<ad.off+p.nd.ks.length*1:=h2
    have ho:o<F.length:=dS
    obtain⟨y,hy⟩:∃y,F[o]?=some y:=⟨_,fu ho⟩
    have c1:=hown.cells hb _ _ ((iJ encI F o y hy 0 dU).trans rfl);have c2:=hown'.cells (hm.trans hb) _ _ ((iJ encI (F++ks) o y (by rw[nK ho];exact hy) 0 dU).trans rfl);rw[fT,jY]at c1 c2;rw[show o*encI.k+0=o from by show o*1+0=o;omega]at c1 c2;rw[hx]at c1;rw[c2,c1]
   ·rw[XX (a:=⟨ad.block,o,none⟩) (hg.block _ (h.kid.blk ad had).2.lt (λe=>hb e.symm))];exact hx
  ·by_cases hb:av.ownBlock=some ad.block
   ·exact xM hown' (hm.trans hb)
   ·obtain⟨cs,fr,e⟩:=(h.kid.blk ad had).2;exact⟨cs,fr,(hg.block _ (h.kid.blk ad had).2.lt (λe=>hb e.symm)).trans e⟩
  ·have:=h.upto ad had (hm.symm.trans hb);rw[iK];omega
 ·refine⟨h.kid.keep (FC hn),h.full,λad had hb=>?_⟩;have h1:=(h.kid.blk ad had).2.lt;rw[hm]at hb;have:=iG hb;omega
theorem Piece.keep{w w':World}{B:Nat}{av:Value}{F:List Int}{p:Ln}(h:Piece w B av F p)(k:oQ w w'):Piece w' B av F p:=⟨h.kid.keep k,h.full,h.upto⟩
theorem uW{w:World}{B e size n cap m:Nat}{a:Option Addr}{xs:List Value}(h:w.ownsRow B e size (.slice a n cap) m xs):n=m/\n<=cap/\cap<=maxLen:=by
 rcases h.2 with⟨h1,h2⟩|⟨g,cap',cur,hv,_,_,h4,h5,_⟩
 ·obtain⟨_,rfl,rfl⟩:=lX h1;exact⟨h2.symm,eO _,fP _⟩
 ·obtain⟨_,rfl,rfl⟩:=lX hv;exact⟨rfl,h4,h5⟩
theorem VN{w:World}{B g N cap:Nat}{F ks:List Int}(hown:w.ownsRow B 3 encI.k (.slice (some ⟨g,0,none⟩) N cap) (F++ks).length (encI.all (F++ks)))(hks:0<ks.length)(x:Nd)(hx:x.ks=ks):
 (∀W:World,(Instr.slice 22 (.slice (some ⟨g,0,none⟩) N cap) (some (.int .i64 (F.length:Int))) (some (.int .i64 (N:Int))) (some (.int .i64 (N:Int)))).run prog W=.ok (.slice (some ⟨g,F.length,none⟩) ks.length ks.length) W)/\
 Piece w B (.slice (some ⟨g,0,none⟩) N cap) (F++ks) ⟨x,some ⟨g,F.length,none⟩,ks.length,ks.length⟩:=by
 subst hx;obtain⟨hN,hc1,hc2⟩:=uW hown;have hN:N=F.length+x.ks.length:=by rw[hN,iK]
 have hmx:x.ks.length<=maxLen:=dS
 refine⟨λW=>?_,⟨⟨.inr ⟨g,F.length,x.ks.length,rfl,eO _,hmx,λj y hj i u hu=>?_⟩,λad had=>?_⟩,rfl,λad had _=>?_⟩⟩
 ·rw[run_slice_lhm W _ (some ⟨g,0,none⟩) N cap (by rw[tyI.he];exact tyI.ht) .i64 .i64 .i64 F.length N N dS dS dS dS,tyI.he,tyI.size];have h1:¬(N=F.length):=by omega
  have h2:N-F.length=x.ks.length:=dS
  simp[Result.andThen,sliced,h1,h2,encI,fT]
 ·have hj1:=(eY.1 hj).1;have hi:i=0:=by
   have:=(eY.1 hu).1;have e:(encI.cells y).length=1:=rfl;omega
  subst hi;have c:=hown.cells (g:=g) rfl _ _ ((iJ encI (F++x.ks) (F.length+j) y (by rw[oH dS,show F.length+j-F.length=j by omega];exact hj) 0 dU).trans hu);rw[fT,jY]at c;rw[show(F.length+j)*encI.k+0=F.length+j*encI.k+0 from by show(F.length+j)*1+0=F.length+j*1+0;omega]at c;exact c
 ·have had:some (⟨g,F.length,none⟩:Addr)=some ad:=had;obtain rfl:=iG had;exact⟨(hown.lt g rfl).1,xM hown rfl⟩
 ·have had:some (⟨g,F.length,none⟩:Addr)=some ad:=had;obtain rfl:=iG had;rw[iK];exact eO _
theorem MG{α:Type}{E:mW α}{P:Program}{t e:TypeId}{bytes:Nat}(T:Ty P E t e bytes)(n B:Nat)(w:World)(hn:bytes*n<=281474976710656)(hm:n<=maxLen)(hB:B<=w.heap.size):
 ∃w',(∀m:Int,m=(n:Int)->(Instr.makeSlice t (.int .i64 0) (.int .i64 m)).run P w=.ok (.slice (some ⟨w.heap.size,0,none⟩) 0 n) w')/\w'.ownsRow B e E.k (.slice (some ⟨w.heap.size,0,none⟩) 0 n) ([]:List α).length (E.all [])/\w.grownBy w' none:=by
 obtain⟨i,z,hi,hz,hsz,hby,hzs⟩:=T.parts;obtain⟨w',h1,h2,h3⟩:=run_make_own (P:=P) w B t e i z E.k T.ht hi hz hsz .i64 .i64 n (by rw[hby];exact hn) hm hB;exact⟨w',λm hm=>by rw[hm];exact h1,h2,h3⟩
end
section
open Go.RowKit
open Sq
open Ar
structure CM(wr:World)(gn Bn:Nat)(w1:World)(av nv:Value)(F:List Int)(L:List Ln):Prop where
 all:wr.ownsRow gn 3 encI.k av F.length (encI.all F)
 row:wr.ownsRow gn 38 fZ.k nv L.length (fZ.all L)
 pcs:∀p∈L,Piece wr gn av F p
 box:wr.heap[Bn]?=some (.cells #[nv] 31 (0,0))
 low:Below gn w1 wr
 le:gn<=Bn
section
variable {wr w' w1:World}{gn Bn:Nat}{av nv:Value}{F:List Int}{L:List Ln}
theorem CM.lt(h:CM wr gn Bn w1 av nv F L):Bn<wr.heap.size:=gK h.box
theorem CM.below(h:CM wr gn Bn w1 av nv F L)(hb:Below wr.heap.size wr w'):CM w' gn Bn w1 av nv F L:=
 ⟨own_below h.all hb,own_below h.row hb,λp hp=>(h.pcs p hp).keep (xg hb),(hb.block Bn h.lt).trans h.box,h.low.trans (hb.mono PZ),h.le⟩
theorem lG{w:World}{g g':Nat}{cs cs':Array Value}{t t':TypeId}{fr fr':Nat×Nat}(h:w.heap[g]?=some (.cells cs t fr))(h':w.heap[g']?=some (.cells cs' t' fr'))(ht:t≠t'):g≠g':=λe=>by
 subst e;rw[h]at h';injection h' with h'
 injection h' with _ e3
 exact ht e3
theorem CM.append{aa:Value}{ks:List Int}(h:CM wr gn Bn w1 av nv F L)(hown':w'.ownsRow gn 3 encI.k aa (F++ks).length (encI.all (F++ks)))(hg:wr.grownBy w' av.ownBlock)(hm:aa.ownBlock=av.ownBlock\/(aa.ownBlock=some wr.heap.size/\wr.grownBy w' none)):
 CM w' gn Bn w1 aa nv (F++ks) L:=by
 have hgs:=h.low.size;refine⟨hown',h.row.kept hg (nE (eX h.all h.row dU)),λp hp=>(h.pcs p hp).moved h.all hown' hg hm,?_,h.low.grown hg PZ (λk hk=>(h.all.lt k hk).1),h.le⟩;refine(hg.block Bn h.lt (λe=>?_)).trans h.box;obtain⟨cs,fr,e2⟩:=xM h.all e.symm;exact lG h.box e2 dU rfl
theorem CM.store{xb:Nat}{cs:Array Value}{fr:Nat×Nat}(h:CM wr gn Bn w1 av nv F L)(hx:wr.heap[xb]?=some (.cells cs 38 fr))(hne:nv.ownBlock≠some xb)(hge:gn<=xb)(o:Nat)(u:Value):CM (wr.setCell ⟨xb,o,none⟩ u) gn Bn w1 av nv F L:=
 ⟨Dw h.all (a:=⟨xb,o,none⟩) (λe=>by
  obtain⟨cs',fr',e2⟩:=xM h.all e
  exact lG hx e2 dU rfl) u,
  Dw h.row (a:=⟨xb,o,none⟩) hne u,λp hp=>(h.pcs p hp).keep (xZ hx dU o u),
  (jo _ _ _ _ (λe=>lG hx h.box dU e.symm)).trans h.box,h.low.setCell (p:=⟨xb,o,none⟩) hge u,h.le⟩
theorem CM.push{aa:Value}{p:Ln}(h:CM wr gn Bn w1 av nv F L)(hp:Piece wr gn av F p)(hown':w'.ownsRow gn 38 fZ.k aa (L++[p]).length (fZ.all (L++[p])))(hg:wr.grownBy w' nv.ownBlock):
 CM (w'.setCell ⟨Bn,0,none⟩ aa) gn Bn w1 av aa F (L++[p]):=by
 have hk:oQ wr w':=xh h.row hg
 have hbx:w'.heap[Bn]?=some (.cells #[nv] 31 (0,0)):=(hg.block Bn h.lt (λe=>by
  obtain⟨cs,fr,e2⟩:=sG h.row e.symm
  exact lG h.box e2 dU rfl)).trans h.box
 have hk2:oQ wr (w'.setCell ⟨Bn,0,none⟩ aa):=hk.trans (xZ hbx dU 0 aa);have hall:w'.ownsRow gn 3 encI.k av F.length (encI.all F):=h.all.kept hg (nE (eX h.row h.all dU));refine⟨Dw hall (a:=⟨Bn,0,none⟩) (λe=>?_) aa,Dw hown' (a:=⟨Bn,0,none⟩) (λe=>?_) aa,λq hq=>?_,Pj hbx,(h.low.grown hg PZ (λk hk=>(h.row.lt k hk).1)).setCell (p:=⟨Bn,0,none⟩) h.le aa,h.le⟩
 ·obtain⟨cs,fr,e2⟩:=xM hall e;exact lG hbx e2 dU rfl
 ·obtain⟨cs,fr,e2⟩:=sG hown' e;exact lG hbx e2 dU rfl
 ·rcases kC.1 hq with hq|hq
  ·exact(h.pcs q hq).keep hk2
  ·obtain rfl:q=p:=by simpa using hq
   exact hp.keep hk2
theorem CM.pt(h:CM wr gn Bn w1 av nv F L){B:Nat}(hB:B<=gn):PT wr B nv L/\∀p∈L,p.c=p.n:=
 ⟨⟨lK h.row hB,λp hp=>⟨(h.pcs p hp).kid.reads,λad had=>⟨iU hB ((h.pcs p hp).kid.blk ad had).1,((h.pcs p hp).kid.blk ad had).2⟩⟩⟩,λp hp=>(h.pcs p hp).full⟩
end
theorem PT.y8{w:World}{B b:Nat}{v:Value}{L:List Ln}(h:PT w B v L)(hb:b<B)(u:Value):PT (w.setCell ⟨b,0,none⟩ u) B v L:=by
 refine⟨Pk h.row (a:=⟨b,0,none⟩) hb u,λp hp=>⟨zX (h.kids p hp).reads (λad had o x hx _ _=>?_),λad had=>⟨((h.kids p hp).blk ad had).1,?_⟩⟩⟩
 ·have:=((h.kids p hp).blk ad had).1;exact mQ dS hx
 ·have h1:=((h.kids p hp).blk ad had).1;obtain⟨cs,fr,e⟩:=((h.kids p hp).blk ad had).2;exact⟨cs,fr,(jo _ _ _ _ (by show ad.block≠b;omega)).trans e⟩
theorem PT.base{w:World}{B B':Nat}{v:Value}{L:List Ln}(h:PT w B v L)(hB:B'<=B):PT w B' v L:=
 ⟨lK h.row hB,λp hp=>⟨(h.kids p hp).reads,λad had=>⟨iU hB ((h.kids p hp).blk ad had).1,((h.kids p hp).blk ad had).2⟩⟩⟩
def Q9(l:List Nd)(w:World)(e:Ending)(w':World):Prop:=
 ∃u,e=.returned (.agg #[u])/\(∃L,L.map Ln.nd=l/\PT w' w.heap.size u L/\∀p∈L,p.c=p.n)/\Below w.heap.size w w'
theorem afs(v:Value)(l:List Nd)(m:Nat)(w:World)(h:iC w v l)(hs:l.length<=20000)(hk:∀x∈l,x.ks.length<=20000)(hm:m<=10):
 Calls prog 185 #[.agg #[v],.int .i64 m] w (Q9 l w):=by
 obtain⟨a,cap,rfl⟩:=h.shape;have HQ:=dY (λu w'=>show((∃L,L.map Ln.nd=l/\PT w' w.heap.size u L/\∀p∈L,p.c=p.n)/\Below w.heap.size w w')->Q9 l w (.returned (.agg #[u])) w' from λh=>⟨u,rfl,h⟩);obtain⟨Q,hQ⟩:=eu (Q9 l w);rw[hQ]at HQ⊢;have HX:=dY (λW (hb:Below w.heap.size w W) j x (hj:l[j]?=some x)=>(h.below hb).at_ j x hj);have aS:=dY hk;obtain⟨N,hN⟩:=eu (l.length);rw[hN]at hs⊢;have HN:=dY hN;obtain⟨w1,hw1⟩:=eu ((w.alloc (.cells #[.slice a N cap] 31)).alloc (.cells #[.slice none 0 0] 31));obtain⟨Bt,pW⟩:=eu (w.heap.size);obtain⟨Br,hBr⟩:=eu (w.heap.size+1);have hb1:=gD (dZ w (.cells #[.slice a N cap] 31)) (.cells #[.slice none 0 0] 31);have ct:w1.cell? ⟨Bt,0,none⟩=some (.slice a N cap):=yQ
 have cr:Lt w1 Br 0 (.slice none 0 0):=QA
 rw[hw1]at hb1;have hbr:w.heap.size<=Br:=dS
 have hs1:=hb1.size;obtain⟨gn,hgn⟩:=eu (w1.heap.size);obtain⟨w3,hmk,hown3,hg3⟩:=MG OV (N+m) gn w1 dS qV dS;rw[hgn]at hmk hown3;have aJ:=hmk ((N:Int)+(m:Int)) dS;have hb3:Below gn w1 w3:=(akx _ _).grown hg3 dS (λq hq=>by cases hq);have hs3:gn<=w3.heap.size:=by rw[<-hgn];exact hg3.size
 obtain⟨Bn,aF⟩:=eu (w3.heap.size);obtain⟨w4,hw4⟩:=eu (w3.alloc (.cells #[.slice (some ⟨gn,0,none⟩) 0 (N+m)] 31));have ag:w4.heap[Bn]?=some (.cells #[.slice (some ⟨gn,0,none⟩) 0 (N+m)] 31 (0,0)):=by rw[<-hw4,<-aF];exact lz _ _
 have hb4:Below gn w1 w4:=by rw[<-hw4];exact hb3.alloc hs3 _
 have ah:w4.ownsRow gn 38 fZ.k (.slice (some ⟨gn,0,none⟩) 0 (N+m)) ([]:List Ln).length (fZ.all []):=by rw[<-hw4];exact hown3.alloc _
 have hs4:gn<=w4.heap.size:=by rw[<-hgn];exact hb4.size
 obtain⟨w5,hmk5,hown5,hg5⟩:=MG tyI N gn w4 dS qV hs4;obtain⟨ga,hga⟩:=eu (w4.heap.size);rw[hga]at hmk5 hown5;have aK:=hmk5 (N:Int) rfl;have hcm:CM w5 gn Bn w1 (.slice (some ⟨ga,0,none⟩) 0 N) (.slice (some ⟨gn,0,none⟩) 0 (N+m)) [] []:=
  ⟨hown5,ah.kept hg5 (.inr (by simp[Value.ownBlock])),(λp hp=>by cases hp),(hg5.block Bn (gK ag) (λe=>uP)).trans ag,hb4.grown hg5 hs4 (λq hq=>by cases hq),dS⟩
 have hlt1:Bt<gn:=by rw[<-hgn];exact lt_of_cell ct
 have hlt2:Br<gn:=by rw[<-hgn];exact lt_of_cell cr.1
 have ay:=dY (λW (hb:Below gn w1 W)=>show W.cell? ⟨Bt,0,none⟩=some (.slice a N cap)from by rw[hb.cell (p:=⟨Bt,0,none⟩) hlt1];exact ct);have aT:=dY (λW (hb:Below gn w1 W)=>show Lt W Br 0 (.slice none 0 0)from⟨by rw[hb.cell (p:=⟨Br,0,none⟩) hlt2];exact cr.1,by rw[hb.frozen (p:=⟨Br,0,none⟩) hlt2];exact cr.2⟩);have hb1':Below w.heap.size w w1:=hb1;have aA:=dY (λW (hb:Below gn w1 W)=>show Below w.heap.size w W from hb1'.trans (hb.mono dS));have hgw:w.heap.size<=gn:=dS
 have aU:=ay.out w3 hb3;have aV:=ay.out w4 hb4;have aW:=ay.out w5 hcm.low;obtain⟨HCM,HW1,rJ,ng,aL,OU⟩:=kG hcm hw1 pW hBr hw4 aF;clear h hk hQ hN hw1 pW hBr hmk hown3 hg3 hb1 hb1' hb3 hs1 hgn aF hw4 ag hb4 ah hs4 hmk5 hown5 hg5 hga hcm hs3 cr hlt1
 go_enter func185,ntmps185
 go_upto_region 1 with fail
 rw[HW1.out,ng.out,rJ.out];clear HW1 ng rJ;go_upto_region 2 with fail
 rw[aL.out,OU.out];clear aL OU aJ;go_wp2_with fail
 clear aK
 go_loopw [6,24] (λav iv wr=>∃(i:Nat)(F:List Int)(L:List Ln)(nv:Value),iv=.int .i64 i/\i<=N/\Hid (L.length=i)/\Hid (L.map Ln.nd=l.take i)/\Hid (F.length<=i*20000)/\Hid (CM wr gn Bn w1 av nv F L)) (λ_ iv _=>N-(intOf iv).toNat)
 case atStart=>exact⟨0,[],[],_,rfl,fP _,dY rfl,dY rfl,dY (fP _),HCM⟩
 case round=>
  clear ct aU aV aW HCM;obtain⟨i,F,L,nv,rfl,hi,HL,HM,HF,HC⟩:=hrel;have ct:=ay.out wr HC.out.low;obtain⟨aa,ac,aX⟩:=(Reads.fo (E:=encI) HC.out.all).shape;obtain⟨an,nc,aY⟩:=(Reads.fo (E:=fZ) HC.out.row).shape;subst aX aY;by_cases hlt:i<N
  ·obtain⟨x,hx⟩:∃x,l[i]?=some x:=⟨_,fu sO⟩
   obtain⟨b,off,ka,kc,rfl,x0,x1,x2,x3,x4,x5,hkr⟩:=HX.out wr (aA.out wr HC.out.low) i x hx;have hii:(i:Int)<(N:Int):=dS
   have hkl:=aS.out x (gW hx);have hfl:=HF.out;have qx:=dY (fun(p:Ln)(hp:p.nd=x)=>show(L++[p]).map Ln.nd=l.take (i+1)by rw[yF,HM.out,Dq,hx,yG,hp];rfl);have aM:=dY (show(F++x.ks).length<=(i+1)*20000 by rw[iK];omega);obtain⟨xb,hxb⟩:=eu (wr.heap.size);obtain⟨wa,az⟩:=eu (wr.alloc (.cells #[.int .i64 x.k,.int .i64 x.f,.int .i64 x.t,.int .i64 x.u,.slice ka x.ks.length kc,.bool x.y] 38));have aG:Below wr.heap.size wr wa:=az▸dZ wr _;have blk:wa.heap[xb]?=some (.cells #[.int .i64 x.k,.int .i64 x.f,.int .i64 x.t,.int .i64 x.u,.slice ka x.ks.length kc,.bool x.y] 38 (0,0)):=by rw[<-az,<-hxb];exact lz _ _
   have y4:wa.cell? ⟨xb,4,none⟩=some (.slice ka x.ks.length kc):=fq blk 4;obtain⟨aZ,Gp⟩:=fw (hkr.below aG) (HC.out.below aG);have bf:=dY (show∀q,(Value.slice an L.length nc).ownBlock=some q->q<xb from λq hq=>by rw[<-hxb];exact(HC.out.row.lt q hq).2);have bg:=dY (show∀q,(Value.slice aa F.length ac).ownBlock=some q->q<xb from λq hq=>by rw[<-hxb];exact(HC.out.all.lt q hq).2);have hgx:gn<=xb:=by have h1:=HC.out.lt;have h2:=HC.out.le;omega
   obtain⟨aB,aN,bn⟩:=je blk az hxb;have hL1:F.length+x.ks.length<=maxLen:=qV
   have hL2:(F.length+x.ks.length)*8<=140737488355328:=dS
   obtain⟨F9,HL2⟩:=fw hL1 hL2;have hbs:gn<=wa.heap.size:=by have h1:=Gp.out.lt;have h2:=Gp.out.le;omega
   clear hx hkr az aG blk hxb hL1 hL2 hfl;go_upto_region 6 with fail
   rw[aN.out,bn.out];clear aN x0 x1 x2 x3 x4 x5;go_upto_region 8 with(at_builtin;go_must (refine GH tyI rfl (.tmp 30) (.tmp 32) rfl gn _ F rfl Gp.out.all _ x.ks rfl aZ.out F9.out HL2.out hbs ?_;intro v2 w2 hown2 hg2 aC;obtain⟨a2,c2,hv2⟩:=(Reads.fo (E:=encI) hown2).shape;obtain⟨M2,hM2⟩:∃M2,(F++x.ks).length=M2:=⟨_,rfl⟩;rw[hM2]at hv2;subst hv2;have bq:=dY hM2;have bz:=dY (Gp.out.append hown2 hg2 aC);have hb2:=(hg2.block xb (gK aB.out) (λe=>by have h1:=bg.out xb e.symm;omega)).trans aB.out;have ai:=dY hb2;have f4:=qc hb2 4;have y4:=fq hb2 4;clear hown2 hg2 aC hb2 hM2))
   have hne:(Value.slice an L.length nc).ownBlock≠some xb:=λe=>by have h1:=bf.out xb e;omega
   have aj:=dY (bz.out.store ai.out hne hgx 4 (.slice none 0 0));have HB3:=dY (sw (i:=4) ai.out (.slice none 0 0));obtain⟨w3,hw3⟩:=eu (w2.setCell ⟨xb,4,none⟩ (.slice none 0 0));have aD:w3.heap[xb]?=some (.cells #[.int .i64 x.k,.int .i64 x.f,.int .i64 x.t,.int .i64 x.u,.slice none 0 0,.bool x.y] 38 (0,0)):=by rw[<-hw3];exact HB3.out
   rw[hw3]at aj;obtain⟨HW3,ae⟩:=fw hw3 aD;clear hw3 aD HB3;go_upto_region 9 with fail
   rw[HW3.out];clear HW3 f4 y4 ct
   go_upto_if 38 with fail
   go_cut [] (λwx=>∃pa pn,Hid (Piece wx gn (.slice a2 M2 c2) (F++x.ks) ⟨x,pa,pn,pn⟩)/\Hid (wx.heap[xb]?=some (.cells #[.int .i64 x.k,.int .i64 x.f,.int .i64 x.t,.int .i64 x.u,.slice pa pn pn,.bool x.y] 38 (0,0)))/\Hid (CM wx gn Bn w1 (.slice a2 M2 c2) (.slice an L.length nc) (F++x.ks) L))
   case first=>
    have aO:M2=F.length+x.ks.length:=by rw[<-bq.out,iK]
    rcases rP x.ks.length with hz|hz
    ·have hxe:x.ks=[]:=l9 hz;have n1:¬((F.length:Int)<(M2:Int)):=by omega
     have HP:=dY (show Piece w3 gn (.slice a2 M2 c2) (F++x.ks) ⟨x,none,0,0⟩from⟨GQ.nil w3 gn x hxe,rfl,λad had=>by cases had⟩);clear aO hz hxe;go_wp2_with fail
     go_meet
     exact⟨none,0,HP,ae,aj⟩
    ·have n1:(F.length:Int)<(M2:Int):=by omega
     obtain⟨g2,cp2,hv2,_,_,_,_⟩:=jf (E:=encI) aj.out.all D3;obtain⟨rfl,bA,rfl⟩:=lX hv2;obtain⟨hsl,hpc⟩:=VN aj.out.all hz x rfl;have hsl2:=λW=>hsl W
     obtain⟨kn,hkn⟩:=eu (x.ks.length);rw[hkn]at hsl hpc;have bB:=dY (aj.out.store ae.out hne hgx 4 (.slice (some ⟨g2,F.length,none⟩) kn kn));have qQ:=dY (sw (i:=4) ae.out (.slice (some ⟨g2,F.length,none⟩) kn kn));have HP4:=dY (hpc.keep (xZ ae.out dU 4 (.slice (some ⟨g2,F.length,none⟩) kn kn)));have f4:=qc ae.out 4;have y4:=fq ae.out 4;clear aO hz hv2 bA hpc hsl2 hkn;go_wp2_with fail
     go_meet
     exact⟨_,_,HP4,dY qQ.out,bB⟩
   case rest=>
   obtain⟨pa,pn,HP,tO,ak⟩:=hcut
   rename World=>w6
   have y0:=fq tO.out 0;have y1:=fq tO.out 1;have y2:=fq tO.out 2;have y3:=fq tO.out 3;have y4:=fq tO.out 4;have y5:=fq tO.out 5;have bx:=jh ak.out.box;have bC:=dY (show fZ.cells (⟨x,pa,pn,pn⟩:Ln)=[.int .i64 x.k,.int .i64 x.f,.int .i64 x.t,.int .i64 x.u,.slice pa pn pn,.bool x.y]from rfl);have bD:=dY (show L.length+1<=maxLen by rw[HL.out];simp only[maxLen];omega);have Lj:=dY (show(L.length+1)*64<=140737488355328 by rw[HL.out];omega);have aP:gn<=w6.heap.size:=by have h1:=ak.out.lt;have h2:=ak.out.le;omega
   have ax:=dY (λo=>ak.out.below (dZ w6 o));have bE:=dY (λo=>HP.out.keep (Oa w6 o));clear y4 hbs hne;have y4:=fq tO.out 4;go_upto_region 12 with(at_builtin;go_must (refine rD OV rfl (.tmp 48) (.tmp 50) rfl gn _ L (⟨x,pa,pn,pn⟩:Ln) _ bC.out rfl ak.out.row rfl bD.out Lj.out aP ?_;intro v7 w7 af aH;obtain⟨a7,k7,hv7⟩:=(Reads.fo (E:=fZ) af).shape;obtain⟨M7,aQ⟩:∃M7,(L++[(⟨x,pa,pn,pn⟩:Ln)]).length=M7:=⟨_,rfl⟩;rw[aQ]at hv7;clear aQ;subst hv7;have aR:=dY ((ax.out _).push (bE.out _) af aH);have aI:w7.heap[Bn]?=some (.cells #[.slice an L.length nc] 31 (0,0)):=((aH.block Bn (ax.out _).lt (λe=>by obtain⟨cs,fr,e2⟩:=sG (ax.out (.cells [Value.int .i64 x.k,.int .i64 x.f,.int .i64 x.t,.int .i64 x.u,.slice pa pn pn,.bool x.y].toArray 38)).row e.symm;exact lG (ax.out _).box e2 dU rfl)).trans (ax.out _).box);have c7:=jh aI;have f7:=Dx aI;clear af aH aI))
   go_wp2_with fail
   go_roundw
   case rel=>
    first
     |exact⟨i+1,F++x.ks,L++[⟨x,pa,pn,pn⟩],.slice a7 M7 k7,fH,dS,dY (by simp[HL.out]),dY (qx.out _ rfl),aM,aR⟩
     |((repeat apply Exists.intro);exact⟨⟨i+1,F++x.ks,L++[⟨x,pa,pn,pn⟩],.slice a7 M7 k7,fH,dS,dY (by simp[HL.out]),dY (qx.out _ rfl),aM,aR⟩,rfl⟩)
   case measure=>simp[intOf];omega
  ·obtain rfl:i=N:=by omega
   have hii:¬((i:Int)<(i:Int)):=dS
   have hm:=HM.out;rw[zw wD]at hm;have bx:=jh HC.out.box;have cr:=aT.out wr HC.out.low;have bF:=cr.1;have bG:=cr.2;have hpt:=HC.out.pt (eO _);have HD:=dY (HQ.out (.slice an L.length nc) (wr.setCell ⟨Br,0,none⟩ (.slice an L.length nc)) ⟨⟨L,hm,(hpt.1.y8 hlt2 _).base hgw,hpt.2⟩,(aA.out wr HC.out.low).setCell (p:=⟨Br,0,none⟩) hbr _⟩);clear hm hlt hpt cr;go_wp2_with fail
   refine vK (v:=.agg #[.slice an L.length nc]) ?_ rfl HD.out;simp[results,results185,go_sem,bF,ig]
end
end Go.Proofs.YtmkkdjpebbdikaaGreatDoor

import Derived.Test.YtfbiffdmhcjhbaaZa03
import Derived.Test.YtfbiffdmhcjhbaaZa04
import Derived.BigQuiet
import Derived.Deep.CutBlock
import Derived.Deep.DeepCutAuto
import Derived.Deep.DeepMust
import Derived.Lib.Hide
import Derived.Lib.MinMax
import Derived.Lib.SmallJoins
import Derived.Maps.AppendAt
import Derived.OneCell
import Derived.WalkSmall
set_option linter.all false
set_option maxHeartbeats 16000000
set_option maxRecDepth 100000
namespace Go.Proofs.Ytfbiffdmhcjhbaa
open Go.RowKit Try
def uq:=@Joins.block_setCell
def oI:=@Joins.unfrozen_of_block
def Ro:=@ownsRow_setCell_other
def Wt:=@wpList_append_own_none
def rA:=@heap_alloc_new
def UJ:=@ownsRow_setCell_below
def nz:=@Joins.cell_of_block
def nQ:=@lt_of_block
def yJ:=@bodyPost_ret
def nG:=@Go.below_drewN
def qA:=@IntWalk.i64_in
section
open Go.RowKit
open Sq
open Ar
def encI:qP Int:=⟨λx=>[.int .i64 x],1,by decide,λ_=>rfl,λx u hu=>by
 cases hu with
 |head=>rfl
 |tail _ hu=>cases hu⟩
theorem VW:Ty prog encI 22 3 8:=Ty.of (z:=.int .i64 0) underlying22 (by kernel_rfl) (by kernel_rfl) rfl (λw=>by kernel_rfl)
structure Ln where
 nd:Nd
 a:Option Addr
 n:Nat
 c:Nat
abbrev Ln.val(p:Ln):Value:=.slice p.a p.n p.c
def IG(p:Ln):List Value:=[.int .i64 p.nd.k,.int .i64 p.nd.f,.int .i64 p.nd.t,.int .i64 p.nd.u,p.val,.bool p.nd.y]
def uY:qP Ln:=⟨IG,6,by decide,λ_=>rfl,λx u hu=>by
 cases hu with
 |head=>rfl
 |tail _ hu=>cases hu with
  |head=>rfl
  |tail _ hu=>cases hu with
   |head=>rfl
   |tail _ hu=>cases hu with
    |head=>rfl
    |tail _ hu=>cases hu with
     |head=>rfl
     |tail _ hu=>cases hu with
      |head=>rfl
      |tail _ hu=>cases hu⟩
theorem Xo:Ty prog uY 26 37 64:=Ty.of (z:=.agg #[.int .i64 0,.int .i64 0,.int .i64 0,.int .i64 0,.slice none 0 0,.bool false]) underlying26 (by kernel_rfl) (by kernel_rfl) rfl (λw=>by kernel_rfl)
def qH(w:World)(v:Value)(l:List Nd):Prop:=∃L:List Ln,L.map Ln.nd=l/\Reads uY w v L/\∀p∈L,Reads encI w p.val p.nd.ks
section
variable {w w':World}{v:Value}{l:List Nd}
theorem qH.below(h:qH w v l)(hb:Below w.heap.size w w'):qH w' v l:=by
 obtain⟨L,h1,h2,h3⟩:=h;exact⟨L,h1,h2.below hb,λp hp=>(h3 p hp).below hb⟩
theorem qH.shape(h:qH w v l):∃a cap,v=.slice a l.length cap:=by
 obtain⟨L,h1,h2,_⟩:=h;obtain⟨a,cap,e⟩:=h2.shape;exact⟨a,cap,by rw[e,<-h1,tV]⟩
theorem J2{p:Ln}(h:Reads encI w p.val p.nd.ks):p.n=p.nd.ks.length:=by
 obtain⟨a,cap,e⟩:=h.shape;injection e
theorem qH.at_{a:Option Addr}{cap:Nat}(h:qH w (.slice a l.length cap) l)(j:Nat)(x:Nd)(hj:l[j]?=some x):
 ∃b off ka kc,a=some ⟨b,off,none⟩/\w.cell? ⟨b,off+j*6,none⟩=some (.int .i64 x.k)/\w.cell? ⟨b,off+j*6+1,none⟩=some (.int .i64 x.f)/\w.cell? ⟨b,off+j*6+2,none⟩=some (.int .i64 x.t)/\w.cell? ⟨b,off+j*6+3,none⟩=some (.int .i64 x.u)/\
  w.cell? ⟨b,off+j*6+4,none⟩=some (.slice ka x.ks.length kc)/\w.cell? ⟨b,off+j*6+5,none⟩=some (.bool x.y)/\Reads encI w (.slice ka x.ks.length kc) x.ks:=by
 obtain⟨L,h1,h2,h3⟩:=h;have hlen:L.length=l.length:=by rw[<-h1,tV]
 rw[<-hlen]at h2;rw[<-h1,r9]at hj;cases hp:L[j]? with
 |none=>rw[hp]at hj;cases hj
 |some p=>
  rw[hp]at hj;injection hj with hj
  subst hj;obtain⟨b,off,e,hc⟩:=h2.at_ j p hp;have hk:=h3 p (sI hp);have hn:=J2 hk;refine⟨b,off,p.a,p.c,e,hc 0 _ rfl,hc 1 _ rfl,hc 2 _ rfl,hc 3 _ rfl,?_,hc 5 _ rfl,?_⟩
  ·rw[<-hn];exact hc 4 _ rfl
  rw[<-hn];exact hk
theorem Bu{a:Option Addr}{cap:Nat}{l:List Int}(h:Reads encI w (.slice a l.length cap) l)(j:Nat)(x:Int)(hj:l[j]?=some x):
 ∃b off,a=some ⟨b,off,none⟩/\w.cell? ⟨b,off+j,none⟩=some (.int .i64 x):=by
 obtain⟨b,off,h1,h2⟩:=h.at_ j x hj;have:=h2 0 _ rfl;exact⟨b,off,h1,by rw[show off+j=off+j*encI.k+0 by show off+j=off+j*1+0;omega];exact this⟩
end
theorem J3{α:Type}(E:qP α):∀(L:List α)(i j:Nat)(x x':α)(u:Value),L[i]?=some x->E.cells x'=(E.cells x).set j u->j<E.k->E.all (L.set i x')=(E.all L).set (i*E.k+j) u
 |[],i,j,x,x',u=>λh=>by simp at h
 |y::r,0,j,x,x',u=>λh hc hj=>by
  obtain rfl:y=x:=by simpa using h
  rw[mP,qP.all,qP.all,hc,zV,qz,List.set_append_left _ _ (by rw[E.len];exact hj)]
 |y::r,i+1,j,x,x',u=>λh hc hj=>by
  rw[mO,qP.all,qP.all,J3 E r i j x x' u (by simpa using h) hc hj,Uz _ _ (by rw[E.len,xR];omega),E.len];congr 2;rw[xR];omega
theorem uf{α:Type}{E:qP α}{w:World}{B e g n cap:Nat}{L:List α}(h:w.ownsRow B e E.k (.slice (some ⟨g,0,none⟩) n cap) L.length (E.all L))(i j:Nat)(x x':α)(u:Value)(hx:L[i]?=some x)(hc:E.cells x'=(E.cells x).set j u)(hj:j<E.k):
 (w.setCell ⟨g,i*E.k+j,none⟩ u).ownsRow B e E.k (.slice (some ⟨g,0,none⟩) n cap) (L.set i x').length (E.all (L.set i x')):=by
 have hi:=(nC.1 hx).1;obtain⟨h1,h2⟩:=h;rcases h2 with⟨h2,_⟩|⟨g',cap',cur,hv,hg,hh,hn,hcp,hcs,ht⟩
 ·cases h2
 obtain⟨e1,e2,e3⟩:=sK hv;injection e1 with e1
 injection e1 with e1
 subst e1 e3;refine⟨by rw[pK],.inr ⟨g,cap,cur.setIfInBounds (i*E.k+j) u,by rw[xe,<-e2],hg,uq hh u,by rw[xe];exact hn,hcp,by simpa using hcs,?_⟩⟩;rw[xe,J3 E L i j x x' u hx hc hj,<-ht,Array.toList_setIfInBounds,List.take_set]
theorem pP{α:Type}{E:qP α}{w:World}{B e:Nat}{v:Value}{L:List α}(h:w.ownsRow B e E.k v L.length (E.all L))(h0:0<L.length):
 ∃g cap,v=.slice (some ⟨g,0,none⟩) L.length cap/\B<=g/\(∀o,w.frozen? ⟨g,o,none⟩=false)/\L.length<=cap/\cap<=maxLen:=by
 rcases h.2 with⟨_,h2⟩|⟨g,cap,cur,hv,hg,hh,hn,hcp,hcs,ht⟩
 ·omega
 exact⟨g,cap,hv,hg,λo=>oI hh o,hn,hcp⟩
theorem nV{w:World}{B B' e e' s s' n n':Nat}{v v':Value}{xs xs':List Value}(h:w.ownsRow B e s v n xs)(h':w.ownsRow B' e' s' v' n' xs')(hne:e≠e')(g:Nat)(hg:v.ownBlock=some g):v'.ownBlock≠some g:=λhg'=>by
 rcases h.2 with⟨h1,_⟩|⟨b,cap,cur,hv,_,hh,_⟩
 ·rw[h1]at hg;cases hg
 rcases h'.2 with⟨h1,_⟩|⟨b',cap',cur',hv',_,hh',_⟩
 ·rw[h1]at hg';cases hg'
 rw[hv]at hg;rw[hv']at hg';obtain rfl:b=g:=by simpa [Value.ownBlock]using hg
 obtain rfl:b'=b:=by simpa [Value.ownBlock]using hg'
 rw[hh]at hh';injection hh' with hh'
 injection hh' with _ h3
 exact hne h3
structure OT(w:World)(B:Nat)(v:Value)(L:List Ln):Prop where
 row:w.ownsRow B 37 6 v L.length (uY.all L)
 kids:∀(i:Nat)(p:Ln),L[i]?=some p->w.ownsRow B 3 1 p.val p.nd.ks.length (encI.all p.nd.ks)
 apart:∀(i j:Nat)(p q:Ln),i≠j->L[i]?=some p->L[j]?=some q->∀g,p.val.ownBlock=some g->q.val.ownBlock≠some g
section
variable {w w':World}{B:Nat}{v:Value}{L:List Ln}
theorem OT.below(h:OT w B v L)(hb:Below w.heap.size w w'):OT w' B v L:=⟨own_below h.row hb,λi p hp=>own_below (h.kids i p hp) hb,h.apart⟩
theorem OT.base{B':Nat}(h:OT w B v L)(hB:B'<=B):OT w B' v L:=⟨oU h.row hB,λi p hp=>oU (h.kids i p hp) hB,h.apart⟩
theorem OT.nodes(h:OT w B v L):qH w v (L.map Ln.nd):=⟨L,rfl,Reads.mW (E:=uY) h.row,λp hp=>by
 obtain⟨i,hi⟩:=yG hp
 exact Reads.mW (E:=encI) (h.kids i p hi)⟩
theorem OT.nil(w:World)(B:Nat):OT w B (.slice none 0 0) []:=⟨qG uY _ _,λi p h=>by simp at h,λi j p q _ h=>by simp at h⟩
theorem OT.set{g n cap:Nat}(h:OT w B (.slice (some ⟨g,0,none⟩) n cap) L)(i j:Nat)(p:Ln)(nd:Nd)(u:Value)(hp:L[i]?=some p)(hks:nd.ks=p.nd.ks)(hc:IG {p with nd:=nd}=(IG p).set j u)(hj:j<6):
 OT (w.setCell ⟨g,i*6+j,none⟩ u) B (.slice (some ⟨g,0,none⟩) n cap) (L.set i {p with nd:=nd}):=by
 have hi:=(nC.1 hp).1;have key:∀(a:Nat)(q:Ln),(L.set i {p with nd:=nd})[a]?=some q->∃q',L[a]?=some q'/\q.val=q'.val/\q.nd.ks=q'.nd.ks:=by
  intro a q hq;rw[E5]at hq;split at hq
  ·rename_i e;subst e;injection hq with hq;subst hq
   exact⟨p,hp,rfl,hks⟩
  exact⟨q,hq,rfl,rfl⟩
 refine⟨uf h.row i j p _ u hp hc hj,λa q hq=>?_,λa b q r hab hq hr g' hg'=>?_⟩
 ·obtain⟨q',h1,h2,h3⟩:=key a q hq;rw[h2,h3];exact Ro (h.kids a q' h1) (nV h.row (h.kids a q' h1) (by decide) g rfl) u
 obtain⟨q',h1,h2,_⟩:=key a q hq;obtain⟨r',h4,h5,_⟩:=key b r hr;rw[h2]at hg';rw[h5];exact h.apart a b q' r' hab h1 h4 g' hg'
end
end
section
open Go.RowKit
open Sq
open Ar
section
variable {α:Type}{E:qP α}{w:World}
theorem oH{P:Program}{t e:TypeId}{bytes:Nat}(T:Ty P E t e bytes){ops:Array Oper}{rest:List Oper}{o:Oper}{act:Act}{Q:Exit->Act->World->Prop}(hgd:o.guard=none)(x y:Operand)
 (ho:o.op=.call {callee:=.builtin .append,args:=#[x,y],argTypes:=#[t,t]})
 (base:Nat) (v:Value) (l:List α) (hs:act.eval x=v) (hown:w.ownsRow base e E.k v l.length (E.all l)) (yv:Value) (m:List α) (hy:act.eval y=yv) (hb:Reads E w yv m)
 (hmax:l.length+m.length<=maxLen) (hlen:(l.length+m.length)*bytes<=140737488355328) (hbase:base<=w.heap.size)
 (h:∀v' w',w'.ownsRow base e E.k v' (l++m).length (E.all (l++m))->w.grownBy w' v.ownBlock->(v'.ownBlock=v.ownBlock\/v'.ownBlock=some w.heap.size)->wpList P ops Q rest (act.put o.dst v') w'):wpList P ops Q (o::rest) act w:=by
 obtain⟨i,z,hi,hz,hsz,hby,hzs⟩:=T.parts;rcases hb with⟨rfl,rfl⟩|⟨b,off,cap,rfl,h2,h3,h4⟩
 ·refine Wt hgd x y t ho base e i E.k T.ht hi v l.length (E.all l) hs hown hy ?_;refine h v w ?_ ⟨rfl,rfl,rfl,mJ _,λ_ _ _=>rfl⟩ (.inl rfl);rw[rD];exact hown
 exact wpList_append_own_at w hgd x y t ho base e i z E.k bytes T.ht hi hz hsz hby hzs E.pos v l.length (E.all l) hs hown ⟨b,off,none⟩ m.length cap (E.all m) hy (pK E m) (news h4) (xX E m) hmax hlen hbase (λv' w' q1 q2 _ q3=>h v' w' (by rw[uZ,oq];exact q1) q2 q3)
theorem I8(w:World)(u:α)(cs:List Value)(t:TypeId)(hc:E.cells u=cs):Reads E (w.alloc (.cells cs.toArray t)) (.slice (some ⟨w.heap.size,0,none⟩) 1 1) [u]:=
 .inr ⟨w.heap.size,0,1,rfl,mJ _,by decide,λj x hj i c hi=>by
  match j,hj with
  |0,hj=>
   obtain rfl:u=x:=by simpa using hj
   rw[hc]at hi;have e:(⟨w.heap.size,0+0*E.k+i,none⟩:Addr)=⟨w.heap.size,i,none⟩:=by simp
   rw[e,wh,Lh];exact hi
  |j+1,hj=>simp at hj⟩
theorem zm{x y:Value}(h:∀g,x.ownBlock=some g->y.ownBlock≠some g):y.ownBlock=none\/y.ownBlock≠x.ownBlock:=by
 cases hy:y.ownBlock with
 |none=>exact .inl rfl
 |some g=>exact .inr (λe=>h g e.symm hy)
end
section
variable {w w':World}{B:Nat}{v:Value}{L:List Ln}
theorem OT.push{v':Value}{o:Obj}{p:Ln}(h:OT w B v L)(hk:w.ownsRow B 3 1 p.val p.nd.ks.length (encI.all p.nd.ks))(ha:∀(i:Nat)(q:Ln),L[i]?=some q->∀g,p.val.ownBlock=some g->q.val.ownBlock≠some g)
 (hg:(w.alloc o).grownBy w' v.ownBlock) (hrow:w'.ownsRow B 37 6 v' (L++[p]).length (uY.all (L++[p]))):OT w' B v' (L++[p]):=by
 have key:∀(a:Nat)(q:Ln),(L++[p])[a]?=some q->(L[a]?=some q/\a<L.length)\/(a=L.length/\q=p):=by
  intro a q hq;rcases UE a L.length with hj|hj|hj
  ·rw[vC hj]at hq;exact .inl ⟨hq,hj⟩
  ·subst hj;rw[yF (mJ _)]at hq;simp at hq;exact .inr ⟨rfl,hq.symm⟩
  rw[xQ (by simp;omega)]at hq;cases hq
 refine⟨hrow,λa q hq=>?_,λa b q r hab hq hr g aa=>?_⟩
 ·rcases key a q hq with⟨h1,_⟩|⟨_,rfl⟩
  ·exact((h.kids a q h1).alloc o).kept hg (zm (nV h.row (h.kids a q h1) (by decide)))
  exact(hk.alloc o).kept hg (zm (nV h.row hk (by decide)))
 rcases key a q hq with⟨h1,_⟩|⟨ha1,rfl⟩
 ·rcases key b r hr with⟨h2,_⟩|⟨_,rfl⟩
  ·exact h.apart a b q r hab h1 h2 g aa
  exact λe=>ha a q h1 g e aa
 rcases key b r hr with⟨h2,_⟩|⟨hb1,rfl⟩
 ·exact ha b r h2 g aa
 omega
theorem OT.kid{g n cap i:Nat}{o:Obj}{p:Ln}{a':Option Addr}{n' c':Nat}(h:OT w B (.slice (some ⟨g,0,none⟩) n cap) L)(hp:L[i]?=some p)(z:Int)(hg:(w.alloc o).grownBy w' p.val.ownBlock)
 (hown:w'.ownsRow B 3 1 (.slice a' n' c') (p.nd.ks++[z]).length (encI.all (p.nd.ks++[z]))) (hat:(Value.slice a' n' c').ownBlock=p.val.ownBlock\/(Value.slice a' n' c').ownBlock=some (w.alloc o).heap.size):
 OT (w'.setCell ⟨g,i*6+4,none⟩ (.slice a' n' c')) B (.slice (some ⟨g,0,none⟩) n cap) (L.set i ⟨{p.nd with ks:=p.nd.ks++[z]},a',n',c'⟩):=by
 have hi:=(nC.1 hp).1;have hrow:w'.ownsRow B 37 6 (.slice (some ⟨g,0,none⟩) n cap) L.length (uY.all L):=
  (h.row.alloc o).kept hg (zm (nV (h.kids i p hp) h.row (by decide)))
 have key:∀(a:Nat)(q:Ln),(L.set i ⟨{p.nd with ks:=p.nd.ks++[z]},a',n',c'⟩)[a]?=some q->(a=i/\q=⟨{p.nd with ks:=p.nd.ks++[z]},a',n',c'⟩)\/(a≠i/\L[a]?=some q):=by
  intro a q hq;rw[E5]at hq;split at hq
  ·rename_i e;subst e;injection hq with hq;exact .inl ⟨rfl,hq.symm⟩
  rename_i e;exact .inr ⟨λx=>e x.symm,hq⟩
 have new:∀(b:Nat)(r:Ln),b≠i->L[b]?=some r->∀g,(Value.slice a' n' c').ownBlock=some g->r.val.ownBlock≠some g:=by
  intro b r hb hr g1 hg1;rcases hat with e|e
  ·exact h.apart i b p r (λx=>hb x.symm) hp hr g1 (e▸hg1)
  intro hr1;have:=((h.kids b r hr).lt g1 hr1).2;rw[hg1]at e;injection e with e
  rw[size_alloc]at e;omega
 refine⟨uf hrow i 4 p _ _ hp rfl (by decide),λa q hq=>?_,λa b q r hab hq hr g1 aa=>?_⟩
 ·rcases key a q hq with⟨rfl,rfl⟩|⟨ha,hq⟩
  ·exact Ro hown (nV hrow hown (by decide) g rfl) _
  have h1:=((h.kids a q hq).alloc o).kept hg (zm (λg1 hg1=>h.apart i a p q (λx=>ha x.symm) hp hq g1 hg1));exact Ro h1 (nV hrow h1 (by decide) g rfl) _
 rcases key a q hq with⟨rfl,rfl⟩|⟨ha,hq1⟩
 ·rcases key b r hr with⟨rfl,rfl⟩|⟨hb,hr⟩
  ·exact absurd rfl hab
  exact new b r hb hr g1 aa
 rcases key b r hr with⟨rfl,rfl⟩|⟨hb,hr1⟩
 ·exact λe=>new a q ha hq1 g1 e aa
 exact h.apart a b q r hab hq1 hr1 g1 aa
end
end
section
open Go.RowKit
open Sq
open Ar
theorem qY{w w1 w2:World}(h1:Below w.heap.size w w1)(h2:Below w1.heap.size w1 w2):Below w.heap.size w w2:=h1.trans (h2.mono h1.size)
def JE(own:Bool)(R:List Nd)(w:World)(e:Ending)(w':World):Prop:=
 ∃u,e=.returned (.agg #[u])/\qH w' u R/\(own=true->∃L,L.map Ln.nd=R/\OT w' w.heap.size u L)/\Below w.heap.size w w'
theorem J4{α:Type}(E:qP α)(w:World)(e B:Nat)(l:List α)(C:Array Value)(hC:C=(E.all l).toArray)(hl:l.length<=1000)(hB:B<=w.heap.size):
 (w.alloc (.cells C e)).ownsRow B e E.k (.slice (some ⟨w.heap.size,0,none⟩) l.length l.length) l.length (E.all l):=by
 subst hC;refine⟨pK E l,.inr ⟨w.heap.size,l.length,(E.all l).toArray,rfl,hB,rA w _,mJ _,by simp only[maxLen];omega,by simp[pK],?_⟩⟩;rw[<-pK E l];simp
theorem U0(w:World)(B:Nat)(x:Nd)(hx:x.ks=[])(hB:B<=w.heap.size):OT (w.alloc (.cells #[.int .i64 x.k,.int .i64 x.f,.int .i64 x.t,.int .i64 x.u,.slice none 0 0,.bool x.y] 37)) B (.slice (some ⟨w.heap.size,0,none⟩) 1 1) [⟨x,none,0,0⟩]:=by
 refine⟨J4 uY w _ B [(⟨x,none,0,0⟩:Ln)] _ rfl (by simp) hB,λi p hp=>?_,λi j p q hij hp hq=>?_⟩
 ·cases i with
  |zero=>
   obtain rfl:(⟨x,none,0,0⟩:Ln)=p:=by simpa using hp
   show World.ownsRow _ _ _ _ (.slice none 0 0) x.ks.length (encI.all x.ks);rw[hx];exact qG encI _ _
  |succ i=>simp at hp
 cases i with
 |zero=>
  cases j with
  |zero=>exact absurd rfl hij
  |succ j=>simp at hq
 |succ i=>simp at hp
theorem OT.T8{w:World}{B:Nat}{v:Value}{L:List Ln}(h:OT w B v L)(b:Nat)(hb:b<B)(u:Value):OT (w.setCell ⟨b,0,none⟩ u) B v L:=
 ⟨UJ h.row (a:=⟨b,0,none⟩) hb u,λi p hp=>UJ (h.kids i p hp) (a:=⟨b,0,none⟩) hb u,h.apart⟩
theorem Gu{l:List Nd}(h:0<l.length):∃x,l[0]?=some x/\firstT l=x.t:=by
 cases l with
 |nil=>simp at h
 |cons x r=>exact⟨x,rfl,rfl⟩
def II(own:Bool)(R:List Nd×Int)(w:World)(e:Ending)(w':World):Prop:=
 ∃u,e=.returned (.tuple #[.agg #[u],.int .i64 R.2])/\qH w' u R.1/\(own=true->∃L,L.map Ln.nd=R.1/\OT w' w.heap.size u L)/\Below w.heap.size w w'
def Cb(l:List Nd)(p:Nd)(f:Int):Bool:=!(decide (f<p.f))&&match p.ks.getLast? with
 |none=>true
 |some z=>!(decide (f<VS l z))
theorem LJ(l:List Nd)(up kind f t:Int)(p:Nd)(hp:l[up.toNat]?=some p):
 oV l up kind f t=(!(decide (up<0)||decide ((l.length:Int)<=up)||decide (kind<1)||decide (11<kind)||decide (t<f)||decide (firstT l<t))&&Cb l p f):=by
 unfold oV Cb;rw[hp];rfl
theorem OX(l:List Nd)(up kind f t:Int)(hb:(decide (up<0)||decide ((l.length:Int)<=up)||decide (kind<1)||decide (11<kind)||decide (t<f)||decide (firstT l<t))=true):oV l up kind f t=false:=by
 unfold oV;rw[hb];rfl
end
section
open Go.RowKit
open Sq
open Ar
def Reached(R:List Nd)(B:Nat)(v:Value)(w:World)(e:Ending)(w':World):Prop:=
 e=.returned (.tuple #[])/\(∃L,L.map Ln.nd=R/\OT w' B v L)/\Below B w w'
theorem Oc(g cap B n:Nat)(L:List Ln)(k aa:Int)(w:World)(h:OT w B (.slice (some ⟨g,0,none⟩) n cap) L)(hn:L.length=n)(hG:Ar.bu (L.map Ln.nd))(hk1:-1<=k)(hk2:k<n):
 Calls prog 81 #[.slice (some ⟨g,0,none⟩) n cap,.int .i64 k,.int .i64 aa] w (Reached (nT (L.map Ln.nd) k aa) B (.slice (some ⟨g,0,none⟩) n cap) w):=by
 obtain⟨R,hR⟩:=my (nT (L.map Ln.nd) k aa);rw[hR];have HQ:=eu (λw'=>show((∃L,L.map Ln.nd=R/\OT w' B (.slice (some ⟨g,0,none⟩) n cap) L)/\Below B w w')->Reached R B (.slice (some ⟨g,0,none⟩) n cap) w (.returned (.tuple #[])) w' from λh=>⟨rfl,h⟩);obtain⟨Q,hQ⟩:=my (Reached R B (.slice (some ⟨g,0,none⟩) n cap) w);rw[hQ]at HQ⊢;have hcap:n<=cap/\cap<=maxLen:=by
  rcases h.row.2 with⟨h1,_⟩|⟨g',cap',cur,hv,_,_,h4,h5,_⟩
  ·cases h1
  obtain⟨_,_,e3⟩:=sK hv;rw[e3];exact⟨by rw[<-hn];exact h4,h5⟩
 simp only[maxLen]at hcap;obtain⟨H0,ae,af,ag⟩:=qg h hG hR hn;clear h hG hR hn hQ
 go_enter func81,ntmps81
 go_wp2_with fail
 go_loopw [6] (λkv wr=>∃(k:Int)(L:List Ln),kv=.int .i64 k/\-1<=k/\k<n/\Hid (OT wr B (.slice (some ⟨g,0,none⟩) n cap) L)/\Hid (Ar.bu (L.map Ln.nd))/\Hid (nT (L.map Ln.nd) k aa=R)/\Hid (L.length=n)/\Hid (Below B w wr)) (λkv _=>(intOf kv+1).toNat)
 case atStart=>exact⟨k,L,rfl,hk1,hk2,H0,ae,af,ag,eu (mF _ _)⟩
 case round=>
  clear hk1 hk2 H0 ae af ag;obtain⟨k,L,rfl,hk1,hk2,HO,HG,HR,HN,HB⟩:=hrel;by_cases hneg:k<0
  ·obtain rfl:k=-1:=by omega
   have hr:=HR.out;rw[C5 _ _ _ (by omega)]at hr;have HD:=eu (HQ.out wr ⟨⟨L,hr,HO.out⟩,HB.out⟩);clear hr hk2;go_wp2_with fail
   go_end0
   exact HD.out
  obtain⟨i,rfl⟩:∃i:Nat,k=(i:Int):=⟨k.toNat,by omega⟩
  have hin:i<n:=by omega
  obtain⟨p,hp⟩:=pG L i (by rw[HN.out];exact hin);have hrow:=HO.out.row;have c2:wr.cell? ⟨g,i*6+2,none⟩=some (.int .i64 p.nd.t):=by
   have:=hrow.cells (g:=g) rfl _ _ ((qh uY L i p hp 2 (by decide)).trans rfl);rw[nX,qz]at this;exact this
  have c3:wr.cell? ⟨g,i*6+3,none⟩=some (.int .i64 p.nd.u):=by
   have:=hrow.cells (g:=g) rfl _ _ ((qh uY L i p hp 3 (by decide)).trans rfl);rw[nX,qz]at this;exact this
  obtain⟨g',cap',hv,hBg,hfz,_,_⟩:=pP hrow (by rw[HN.out];omega);obtain⟨e1,_,_⟩:=sK hv;injection e1 with e1
  injection e1 with e1
  subst e1;have f2:=hfz (i*6+2);have d3:=Ca (o:=i*6+2) (v:=.int .i64 (max p.nd.t aa)) (by omega) c3;have hx:(L.map Ln.nd)[i]?=some p.nd:=by rw[r9,hp];rfl
  have hu:=HG.out.up i p.nd hx;have hst:=C4 (L.map Ln.nd) i aa p.nd HG.out (by omega) (by rw[oN];exact hx);rw[oN]at hst;have hO2:=HO.out.set i 2 p {p.nd with t:=max p.nd.t aa } (.int .i64 (max p.nd.t aa)) hp rfl rfl (by decide);have hmap:(L.set i {p with nd:={p.nd with t:=max p.nd.t aa }}).map Ln.nd=(L.map Ln.nd).set i {p.nd with t:=max p.nd.t aa }:=by rw[Uu]
  obtain⟨L2,hL2⟩:=my (L.set i {p with nd:={p.nd with t:=max p.nd.t aa }});rw[hL2]at hO2 hmap;have ah:=eu hO2;have ai:=eu (show Ar.bu (L2.map Ln.nd)by rw[hmap];exact xC HG.out i p.nd hx _ (Nk _ _));have HR2:=eu (show nT (L2.map Ln.nd) p.nd.u aa=R by rw[hmap,<-hst];exact HR.out);have aj:=eu (show L2.length=n by rw[<-hL2,xe];exact HN.out);have HB2:=eu (HB.out.setCell (p:=⟨g,i*6+2,none⟩) hBg (.int .i64 (max p.nd.t aa)));have hi2:(i:Int)<(n:Int):=by omega
  clear hrow hv hBg hfz hx hst hO2 hmap hL2 hp;go_wp2_with fail
  go_roundw
  case rel=>exact⟨p.nd.u,L2,rfl,by omega,by omega,ah,ai,HR2,aj,HB2⟩
  case measure=>simp[intOf];omega
end
section
open Go.RowKit
open Sq
open Ar
def IJ(l:List Nd)(w:World)(e:Ending)(w':World):Prop:=
 ∃u,e=.returned u/\(∃L,L.map Ln.nd=l/\OT w' w.heap.size u L)/\Below w.heap.size w w'
theorem J5(v:Value)(l:List Nd)(w:World)(h:qH w v l)(hs:l.length<=1000000000000)(hk:∀x∈l,x.ks.length<=1000000000000):
 Calls prog 80 #[.agg #[v]] w (IJ l w):=by
 obtain⟨a,cap,rfl⟩:=h.shape;have HQ:=eu (λu w'=>show((∃L,L.map Ln.nd=l/\OT w' w.heap.size u L)/\Below w.heap.size w w')->IJ l w (.returned u) w' from λh=>⟨u,rfl,h⟩);obtain⟨Q,hQ⟩:=my (IJ l w);rw[hQ]at HQ⊢;have HX:=eu (λW (hb:Below w.heap.size w W) j x (hj:l[j]?=some x)=>(h.below hb).at_ j x hj);have aM:=eu hk;obtain⟨N,hN⟩:=my (l.length);rw[hN]at hs⊢;have HN:=eu hN;obtain⟨w1,hw1⟩:=my (w.alloc (.cells #[.slice a N cap] 28));obtain⟨B,hB⟩:=my (w.heap.size);have hb1:=mr w (.cells #[.slice a N cap] 28);have c1:w1.cell? ⟨B,0,none⟩=some (.slice a N cap):=by rw[<-hw1,<-hB];exact at_new rfl
 rw[hw1]at hb1;have HB1:=eu hb1;have aN:=eu (show B<=w1.heap.size by rw[<-hB];exact hb1.size);have aO:=eu (λW (hb:Below w1.heap.size w1 W)=>ku hb c1);obtain⟨HW1,aP⟩:=mR hw1 hB;clear h hk hQ hN hw1 hB hb1 c1
 go_enter func80,ntmps80
 go_upto_region 1 with fail
 rw[HW1.out,aP.out];clear HW1;go_wp2_with fail
 go_loopw [3,4] (λlv iv wr=>∃(i:Nat)(L:List Ln),iv=.int .i64 i/\i<=N/\Hid (L.length=i)/\Hid (L.map Ln.nd=l.take i)/\Hid (OT wr w1.heap.size lv L)/\Hid (Below w1.heap.size w1 wr)) (λ_ iv _=>N-(intOf iv).toNat)
 case atStart=>exact⟨0,[],rfl,nO _,eu rfl,eu rfl,eu (OT.nil _ _),eu (mF _ _)⟩
 case round=>
  obtain⟨i,L,rfl,hi,HL,HM,HO,HB⟩:=hrel;have c1:=aO.out wr HB.out;by_cases hlt:i<N
  ·obtain⟨x,hx⟩:=pG l i (by rw[HN.out];exact hlt);obtain⟨b,off,ka,kc,rfl,x0,x1,x2,x3,x4,x5,hkr⟩:=HX.out wr (qY HB1.out HB.out) i x hx;have hii:(i:Int)<(N:Int):=by omega
   have hkl:=aM.out x (sI hx);have aD:=eu (fun(p:Ln)(hp:p.nd=x)=>show(L++[p]).map Ln.nd=l.take (i+1)by rw[Ip,HM.out,Ir,hx,wU,hp];rfl);obtain⟨aQ,bz⟩:=mR hkr hx;obtain⟨xb,hxb⟩:=my (wr.heap.size);obtain⟨wa,ah⟩:=my (wr.alloc (.cells #[.int .i64 x.k,.int .i64 x.f,.int .i64 x.t,.int .i64 x.u,.slice ka x.ks.length kc,.bool x.y] 37));have aF:Below wr.heap.size wr wa:=ah▸mr wr _;have hsa:wa.heap.size=xb+1:=by rw[<-ah,<-hxb];simp
   have blk:wa.heap[xb]?=some (.cells #[.int .i64 x.k,.int .i64 x.f,.int .i64 x.t,.int .i64 x.u,.slice ka x.ks.length kc,.bool x.y] 37 (0,0)):=by rw[<-ah,<-hxb];exact rA _ _
   have y4:wa.cell? ⟨xb,4,none⟩=some (.slice ka x.ks.length kc):=nz blk 4;obtain⟨aG,aH,ak,aI,aJ⟩:=BN aF hsa blk ah hxb;clear hx hkr ah aF hsa blk hxb;go_upto_region 6 with fail
   rw[aI.out,aJ.out];clear aI x0 x1 x2 x3 x4 x5;have aR:=eu (rG (e:=3) encI wa);have ay:=eu (mr wa (.cells #[] 3));have z4:=oG (o:=.cells #[] 3) y4;have ai:=eu ((Below.heap_alloc wa (.cells #[] 3) _ (nQ ak.out)).trans ak.out);clear y4;have bA:=aN.out;have aS:=eu (show([]:List Int).length+x.ks.length<=maxLen by simp only[maxLen,sH];omega);have aT:=eu (show(([]:List Int).length+x.ks.length)*8<=140737488355328 by simp only[sH];omega);have aU:=eu (show some xb≠(Value.slice (some ⟨wa.heap.size,0,none⟩) 0 0).ownBlock by rw[aH.out];intro e;have e2:xb=xb+1:=qJ e;omega);go_upto_region 7 with(at_builtin;go_must (refine oH VW rfl (.tmp 18) (.tmp 20) rfl wa.heap.size _ ([]:List Int) rfl aR.out _ x.ks rfl (((aQ.out.below aG.out).below ay.out)) aS.out aT.out ay.out.size ?_;intro kv w2 hown2 hg2 av;rw[zU]at hown2;obtain⟨aa,ae,aV⟩:=(Reads.mW (E:=encI) hown2).shape;subst aV;have az:=eu hown2;have aW:=eu hg2;have aK:=eu av;have ag:=(hg2.block xb (nQ ai.out) aU.out).trans ai.out;have aA:=eu (uq (i:=4) ag (.slice aa x.ks.length ae));have e4:=nz ag 4;have aX:=oI ag 4;clear hown2 hg2 av ag))
   obtain⟨w3,hw3⟩:=my (w2.setCell ⟨xb,4,none⟩ (.slice aa x.ks.length ae));have af:w3.heap[xb]?=some (.cells #[.int .i64 x.k,.int .i64 x.f,.int .i64 x.t,.int .i64 x.u,.slice aa x.ks.length ae,.bool x.y] 37 (0,0)):=by rw[<-hw3];exact aA.out
   have hsw:=aH.out;have aY:=aJ.out;have hkb:∀gg,(Value.slice aa x.ks.length ae).ownBlock=some gg->xb<gg:=λgg hgg=>by
    rcases aK.out with e|e
    ·rw[hgg]at e;have e2:gg=wa.heap.size:=qJ e;omega
    rw[hgg]at e;have e2:gg=(wa.alloc (.cells #[] 3)).heap.size:=qJ e;rw[size_alloc]at e2;omega
   have hb2:Below wr.heap.size wr w2:=((aG.out).trans (ay.out.mono (by omega))).grown aW.out (by simp;omega) (λq hq=>by have e2:wa.heap.size=q:=qJ hq;omega);have hbw:Below wr.heap.size wr w3:=by rw[<-hw3];exact hb2.setCell (p:=⟨xb,4,none⟩) (by show wr.heap.size<=xb;omega) _
   have ax:=HB.out.size;have hk3:w3.ownsRow w1.heap.size 3 1 (.slice aa x.ks.length ae) x.ks.length (encI.all x.ks):=by
    rw[<-hw3];exact Ro (oU az.out (by omega)) (λe=>by have:=hkb xb e;omega) _
   have hO3:=HO.out.below hbw;have hap:∀(j:Nat)(q:Ln),L[j]?=some q->∀gg,(Value.slice aa x.ks.length ae).ownBlock=some gg->q.val.ownBlock≠some gg:=λj q hq gg hgg hqq=>by
    have h1:=hkb gg hgg;have h2:=((HO.out.kids j q hq).lt gg hqq).2;omega
   obtain⟨aB,aZ,bf⟩:=nY hO3 hk3 hap;have aL:=eu (HB.out.trans (hbw.mono ax));have HW3:=eu hw3;have x0:=nz af 0;have x1:=nz af 1;have x2:=nz af 2;have x3:=nz af 3;have x4:=nz af 4;have x5:=nz af 5;have aj:=eu aL.out.size;rw[hw3];have bg:=eu (show uY.cells (⟨x,aa,x.ks.length,ae⟩:Ln)=[.int .i64 x.k,.int .i64 x.f,.int .i64 x.t,.int .i64 x.u,.slice aa x.ks.length ae,.bool x.y]from rfl);have bB:=HL;have hln:L.length<=1000000000000:=by rw[HL.out];omega
   have bn:=eu (show L.length+1<=maxLen by simp only[maxLen];omega);have bq:=eu (show(L.length+1)*64<=140737488355328 by omega);clear af hsw aY hkb hb2 hbw ax hk3 hO3 hap hw3 e4 aX z4 hln;go_wp2_with (at_builtin;go_must (refine qm Xo rfl (.tmp 23) (.tmp 25) rfl w1.heap.size _ L (⟨x,aa,x.ks.length,ae⟩:Ln) _ bg.out rfl aB.out.row rfl bn.out bq.out aj.out ?_;intro v4 w4 aC hg4))
   have hO4:=aB.out.push aZ.out bf.out hg4 aC;have hB4:Below w1.heap.size w1 w4:=(aL.out.alloc aj.out _).grown hg4 (by have:=aj.out;simp;omega) (λq hq=>(aB.out.row.lt q hq).1)
   go_roundw
   case rel=>
    first
     |exact⟨i+1,L++[⟨x,aa,x.ks.length,ae⟩],by go_num,by omega,eu (by simp[HL.out]),eu (aD.out _ rfl),eu hO4,eu hB4⟩
     |((repeat apply Exists.intro);exact⟨⟨i+1,L++[⟨x,aa,x.ks.length,ae⟩],by go_num,by omega,eu (by simp[HL.out]),eu (aD.out _ rfl),eu hO4,eu hB4⟩,rfl⟩)
   case measure=>simp[intOf];omega
  obtain rfl:i=N:=by omega
  have hii:¬((i:Int)<(i:Int)):=by omega
  have hm:=HM.out;rw[DI (by rw[HN.out];exact mJ _)]at hm;have HD:=eu (HQ.out _ wr ⟨⟨L,hm,HO.out.base HB1.out.size⟩,qY HB1.out HB.out⟩);clear hm hlt;go_wp2_with fail
  exact HD.out
end
section
open Go.RowKit
open Sq
open Ar
theorem U1(w:World)(u:Value)(x:Nd)(hx:x.ks=[]):OT ((w.alloc (.cells #[u] 28)).alloc (.cells #[.int .i64 x.k,.int .i64 x.f,.int .i64 x.t,.int .i64 x.u,.slice none 0 0,.bool x.y] 37)) w.heap.size (.slice (some ⟨w.heap.size+1,0,none⟩) 1 1) [⟨x,none,0,0⟩]:=by
 have h:=U0 (w.alloc (.cells #[u] 28)) w.heap.size x hx (by simp);rw[size_alloc]at h;exact h
theorem Xt(n:Int)(w:World):Calls prog 21 #[.int .i64 n] w (JE true (um n) w):=by
 obtain⟨m,hm⟩:=my ((if n<0\/32768<n then 0 else n));have e:um n=[⟨1,0,m,-1,[],false⟩]:=by unfold um;rw[hm]
 have hO:=λu=>U1 w u ⟨1,0,m,-1,[],false⟩ rfl
 have HO:=eu hO;rw[e];have HB:=eu (λo o'=>uj (mr w o) o');clear e hO;by_cases h1:n<0
 ·rw[gu (.inl h1)]at hm;subst hm
  go_enter func21,ntmps21
  go_wp2;refine yJ (v:=.agg #[.slice (some ⟨w.heap.size+1,0,none⟩) 1 1]) ?_ rfl ⟨_,rfl,(HO.out _).nodes,λ_=>⟨_,rfl,HO.out _⟩,HB.out _ _⟩;simp[results,results21,go_sem]
 by_cases h2:32768<n
 ·rw[gu (.inr h2)]at hm;subst hm
  go_enter func21,ntmps21
  go_wp2;refine yJ (v:=.agg #[.slice (some ⟨w.heap.size+1,0,none⟩) 1 1]) ?_ rfl ⟨_,rfl,(HO.out _).nodes,λ_=>⟨_,rfl,HO.out _⟩,HB.out _ _⟩;simp[results,results21,go_sem]
 rw[fu (λh=>h.elim h1 h2)]at hm;subst hm
 go_enter func21,ntmps21
 go_wp2;refine yJ (v:=.agg #[.slice (some ⟨w.heap.size+1,0,none⟩) 1 1]) ?_ rfl ⟨_,rfl,(HO.out _).nodes,λ_=>⟨_,rfl,HO.out _⟩,HB.out _ _⟩;simp[results,results21,go_sem]
theorem WB(v:Value)(l:List Nd)(i t:Int)(w:World)(h:qH w v l)(hG:Ar.bu l)(hs:l.length<=1000000000000)(hk:∀x∈l,x.ks.length<=1000000000000):
 Calls prog 67 #[.agg #[v],.int .i64 i,.int .i64 t] w (JE (rq l i t) (nN l i t) w):=by
 obtain⟨a,cap,rfl⟩:=h.shape;obtain⟨y,hy,ak⟩:=Gu hG.pos;have HX:=eu (λW (hb:Below w.heap.size w W)=>h.below hb);have HC:=eu (λW (hb:Below w.heap.size w W)=>J5 _ l W (h.below hb) hs hk);obtain⟨N,hN⟩:=my (l.length);have hm:rq l i t=!(decide (i<0)||decide ((N:Int)<=i)||decide (y.t<t)):=by unfold rq;rw[hN,ak]
 have hgr:nN l i t=if rq l i t=true then nT l i t else l:=rfl
 obtain⟨M,hM⟩:=my (rq l i t);obtain⟨R,hR⟩:=my (nN l i t);rw[hM]at hm hgr;rw[hR]at hgr;have HQ:=eu (λu w'=>show(qH w' u R/\(M=true->∃L,L.map Ln.nd=R/\OT w' w.heap.size u L)/\Below w.heap.size w w')->JE M R w (.returned (.agg #[u])) w' from λh=>⟨u,rfl,h⟩);rw[hM,hR];obtain⟨Q,hQ⟩:=my (JE M R w);rw[hQ]at HQ⊢;rw[hN]at HX HC⊢;have hpos:=hG.pos;rw[hN]at hpos;obtain⟨HG,HY,HN,aa⟩:=qg hG hy hN hgr;obtain⟨w2,hw2⟩:=my ((w.alloc (.cells #[.slice a N cap] 28)).alloc (.cells #[.slice none 0 0] 28));obtain⟨Bt,ag⟩:=my (w.heap.size);obtain⟨Br,hBr⟩:=my (w.heap.size+1);have hb2:=uj (mr w (.cells #[.slice a N cap] 28)) (.cells #[.slice none 0 0] 28);have ct:w2.cell? ⟨Bt,0,none⟩=some (.slice a N cap):=by rw[<-hw2,<-ag];exact oG (at_new rfl)
 have cr:QR w2 Br 0 (.slice none 0 0):=by
  rw[<-hw2,<-hBr];have h:=zl (W:=w.alloc (.cells #[.slice a N cap] 28)) (C:=#[.slice none 0 0]) (t:=28) (k:=0) rfl;rw[size_alloc]at h;exact h
 rw[hw2]at hb2;obtain⟨HB2,ah,HW2,av⟩:=qg hb2 cr hw2 ag;have hlt:Br<w2.heap.size:=lt_of_cell cr.1
 have hbr:w.heap.size<=Br:=by omega
 have ax:=eu hBr;clear h hy ak hk hN hM hR hQ hgr hG hw2 ag hBr hb2 cr
 go_enter func67,ntmps67
 go_upto_region 1 with fail
 rw[HW2.out,ax.out,av.out];clear HW2 ax av;have ae:=ah.out.1;have aA:=ah.out.2;by_cases q1:i<0
 ·obtain rfl:M=false:=by rw[hm];simp[q1]
  have hr:R=l:=by rw[aa.out];rfl
  have HD:=eu (HQ.out (.slice a N cap) _ ⟨by rw[hr];exact HX.out _ (HB2.out.setCell (p:=⟨Br,0,none⟩) hbr (.slice a N cap)),λe=>absurd e (by decide),HB2.out.setCell (p:=⟨Br,0,none⟩) hbr (.slice a N cap)⟩);clear hm hr;go_wp2_with fail
  refine yJ (v:=.agg #[.slice a N cap]) ?_ rfl HD.out;simp[results,results67,go_sem,ae,pU]
 by_cases q2:(N:Int)<=i
 ·obtain rfl:M=false:=by rw[hm];simp[q2]
  have hr:R=l:=by rw[aa.out];rfl
  have HD:=eu (HQ.out (.slice a N cap) _ ⟨by rw[hr];exact HX.out _ (HB2.out.setCell (p:=⟨Br,0,none⟩) hbr (.slice a N cap)),λe=>absurd e (by decide),HB2.out.setCell (p:=⟨Br,0,none⟩) hbr (.slice a N cap)⟩);clear hm hr;go_wp2_with fail
  refine yJ (v:=.agg #[.slice a N cap]) ?_ rfl HD.out;simp[results,results67,go_sem,ae,pU]
 have y0:=HX.out w2 HB2.out;rw[<-HN.out]at y0;obtain⟨b,off,ka,kc,rfl,-,-,y2,-,-,-,-⟩:=y0.at_ 0 y HY.out;simp only[zV,xh]at y2;have hN0:(0:Int)<(N:Int):=by omega
 clear y0;by_cases q3:y.t<t
 ·obtain rfl:M=false:=by rw[hm];simp[q3]
  have hr:R=l:=by rw[aa.out];rfl
  have HD:=eu (HQ.out (.slice (some ⟨b,off,none⟩) N cap) _ ⟨by rw[hr];exact HX.out _ (HB2.out.setCell (p:=⟨Br,0,none⟩) hbr (.slice (some ⟨b,off,none⟩) N cap)),λe=>absurd e (by decide),HB2.out.setCell (p:=⟨Br,0,none⟩) hbr (.slice (some ⟨b,off,none⟩) N cap)⟩);clear hm hr;go_wp2_with fail
  refine yJ (v:=.agg #[.slice (some ⟨b,off,none⟩) N cap]) ?_ rfl HD.out;simp[results,results67,go_sem,ae,pU]
 have hmt:M=true:=by rw[hm];simp[q1,q2,q3]
 have hr:R=nT l i t:=by rw[aa.out,gu hmt]
 obtain⟨aB,aC⟩:=mR hr (HC.out w2 HB2.out);clear hm hr hmt;go_wp2_with fail
 refine aC.out.mono ?_;rintro e w3 ⟨u,rfl,⟨L,hL,hO⟩,hb3⟩;have hln:L.length=N:=by rw[<-HN.out,<-hL,tV]
 obtain⟨g,cp,hu,hBg,_,_,_⟩:=pP hO.row (by omega);subst hu;rw[hln]at hO⊢;have hre:=Oc g cp w2.heap.size N L i t w3 hO hln (by rw[hL];exact HG.out) (by omega) (by omega);rw[hL,<-aB.out]at hre;obtain⟨aD,HB3⟩:=mR hre (qY HB2.out hb3);have ay:=vP hb3 ah.out;have af:=eu ay;have aF:=hb3.size;clear hL hO hln hBg hre hb3 ay y2 ae aA;go_wp2_with fail
 refine aD.out.mono ?_;rintro e w4 ⟨rfl,⟨L2,hL2,hO2⟩,hb4⟩;have ai:QR w4 Br 0 (.slice none 0 0):=⟨by rw[hb4.cell (p:=⟨Br,0,none⟩) hlt];exact af.out.1,by rw[hb4.frozen (p:=⟨Br,0,none⟩) hlt];exact af.out.2⟩
 have az:=ai.1;have aG:=ai.2;have aj:=hO2.T8 Br hlt (.slice (some ⟨g,0,none⟩) N cp);have hb5:=(HB3.out.trans (hb4.mono HB2.out.size)).setCell (p:=⟨Br,0,none⟩) hbr (.slice (some ⟨g,0,none⟩) N cp);have HD:=eu (HQ.out (.slice (some ⟨g,0,none⟩) N cp) _ ⟨hL2▸aj.nodes,λ_=>⟨L2,hL2,aj.base HB2.out.size⟩,hb5⟩);clear hL2 hO2 hb4 ai aj hb5;go_wp2;refine yJ (v:=.agg #[.slice (some ⟨g,0,none⟩) N cp]) ?_ rfl HD.out;simp[results,results67,go_sem,az,pU]
end
section
open Go.RowKit
open Sq
open Ar
theorem Xu(v:Value)(l:List Nd)(up kind f t:Int)(w:World)(h:qH w v l)(hG:Ar.bu l)(hs:l.length<=900000000000)(hk:∀x∈l,x.ks.length<=900000000000):
 Calls prog 76 #[.agg #[v],.int .i64 up,.int .i64 kind,.int .i64 f,.int .i64 t] w (II (oV l up kind f t) (addN l up kind f t) w):=by
 obtain⟨a,cap,rfl⟩:=h.shape;obtain⟨y,hy,bf⟩:=Gu hG.pos;have HX:=eu (λW (hb:Below w.heap.size w W)=>h.below hb);have HC:=eu (λW (hb:Below w.heap.size w W)=>J5 _ l W (h.below hb) (by omega) (λx hx=>qy (hk x hx) (by omega)));obtain⟨N,hN⟩:=my (l.length);have aF:=OX l up kind f t;have hmp:=LJ l up kind f t
 have had:addN l up kind f t=if oV l up kind f t=true then(match l[up.toNat]? with
  |none=>(l,-1)
  |some p=>(nT ((l++[(⟨kind,f,t,up,[],false⟩:Nd)]).set up.toNat {p with ks:=p.ks++[(l.length:Int)]}) up t,(l.length:Int)))else(l,-1):=rfl
 obtain⟨b1,hb1⟩:=my ((decide (up<0)||decide ((l.length:Int)<=up)||decide (kind<1)||decide (11<kind)||decide (t<f)||decide (firstT l<t)));rw[hb1]at aF hmp;rw[hN,bf]at hb1;obtain⟨M,hM⟩:=my (oV l up kind f t);obtain⟨R,hR⟩:=my (addN l up kind f t);rw[hM]at had aF hmp;rw[hR,hN]at had;have HQ:=eu (λu z w'=>show(R.2=z/\qH w' u R.1/\(M=true->∃L,L.map Ln.nd=R.1/\OT w' w.heap.size u L)/\Below w.heap.size w w')->II M R w (.returned (.tuple #[.agg #[u],.int .i64 z])) w' from λh=>⟨u,by rw[h.1],h.2⟩);rw[hM,hR];obtain⟨Q,hQ⟩:=my (II M R w);rw[hQ]at HQ⊢;rw[hN]at HX HC⊢;rw[hN]at hs;have hpos:=hG.pos;rw[hN]at hpos;obtain⟨HG,HY,HN,bg,bH,bI⟩:=qW hG hy hN had aF hmp;obtain⟨HB1,dA⟩:=mR hb1 hk;obtain⟨w2,hw2⟩:=my ((w.alloc (.cells #[.slice a N cap] 28)).alloc (.cells #[.slice none 0 0] 28));obtain⟨Bt,bn⟩:=my (w.heap.size);obtain⟨Br,hBr⟩:=my (w.heap.size+1);have hb2:=uj (mr w (.cells #[.slice a N cap] 28)) (.cells #[.slice none 0 0] 28);have ct:w2.cell? ⟨Bt,0,none⟩=some (.slice a N cap):=by rw[<-hw2,<-bn];exact oG (at_new rfl)
 have cr:QR w2 Br 0 (.slice none 0 0):=by
  rw[<-hw2,<-hBr];have h:=zl (W:=w.alloc (.cells #[.slice a N cap] 28)) (C:=#[.slice none 0 0]) (t:=28) (k:=0) rfl;rw[size_alloc]at h;exact h
 rw[hw2]at hb2;obtain⟨HB2,bq,HW2,bJ⟩:=qg hb2 cr hw2 bn;have hlt:Br<w2.heap.size:=lt_of_cell cr.1
 have hbr:w.heap.size<=Br:=by omega
 have bK:=eu hBr;have y0:=h.below hb2;obtain⟨b,off,ka,kc,rfl,-,-,y2,-,-,-,-⟩:=y0.at_ 0 y hy;simp only[zV,xh]at y2;have hN0:(0:Int)<(N:Int):=by omega
 clear h hy bf hk hN hM hR hQ had aF hmp hb1 hG hw2 bn hBr hb2 cr y0
 go_enter func76,ntmps76
 go_upto_region 1 with fail
 rw[HW2.out,bK.out,bJ.out];clear HW2 bK bJ
 go_cut [45] (λq wx=>q=.bool b1/\w2=wx)
 case first=>
  have hb1:=HB1.out;by_cases q1:up<0
  ·obtain rfl:b1=true:=by rw[<-hb1];simp[q1]
   clear hb1;go_wp2_with fail
   go_meet
   exact⟨rfl,rfl⟩
  by_cases q2:(N:Int)<=up
  ·obtain rfl:b1=true:=by rw[<-hb1];simp[q2]
   clear hb1;go_wp2_with fail
   go_meet
   exact⟨rfl,rfl⟩
  by_cases q3:kind<1
  ·obtain rfl:b1=true:=by rw[<-hb1];simp[q3]
   clear hb1;go_wp2_with fail
   go_meet
   exact⟨rfl,rfl⟩
  by_cases q4:11<kind
  ·obtain rfl:b1=true:=by rw[<-hb1];simp[q4]
   clear hb1;go_wp2_with fail
   go_meet
   exact⟨rfl,rfl⟩
  by_cases q5:t<f
  ·obtain rfl:b1=true:=by rw[<-hb1];simp[q5]
   clear hb1;go_wp2_with fail
   go_meet
   exact⟨rfl,rfl⟩
  by_cases q6:y.t<t
  ·obtain rfl:b1=true:=by rw[<-hb1];simp[q6]
   clear hb1;go_wp2_with fail
   go_meet
   exact⟨rfl,rfl⟩
  obtain rfl:b1=false:=by rw[<-hb1];simp[q1,q2,q3,q4,q5,q6]
  clear hb1;go_wp2_with fail
  go_meet
  exact⟨rfl,rfl⟩
 case rest=>
 obtain⟨rfl,rfl⟩:=hcut;have bL:=bq.out.1;have dB:=bq.out.2;cases b1 with
 |true=>
  obtain rfl:M=false:=bH.out rfl;have hr:R=(l,-1):=by rw[bg.out];rfl
  have HD:=eu (HQ.out (.slice (some ⟨b,off,none⟩) N cap) (-1) _ ⟨by rw[hr],by rw[hr];exact HX.out _ (HB2.out.setCell (p:=⟨Br,0,none⟩) hbr (.slice (some ⟨b,off,none⟩) N cap)),λe=>absurd e (by decide),HB2.out.setCell (p:=⟨Br,0,none⟩) hbr (.slice (some ⟨b,off,none⟩) N cap)⟩);clear hr;go_wp2_with fail
  refine yJ (v:=.tuple #[.agg #[.slice (some ⟨b,off,none⟩) N cap],.int .i64 (-1)]) ?_ rfl HD.out;simp[results,results76,go_sem,bL,pU]
 |false=>
  have hb1:=HB1.out;obtain⟨⟨⟨⟨⟨h0,hN1⟩,hk1⟩,hk2⟩,hft⟩,bf⟩:((((0<=up/\up<N)/\1<=kind)/\kind<=11)/\f<=t)/\t<=y.t:=by simpa using hb1
  obtain⟨i,rfl⟩:∃i:Nat,up=(i:Int):=⟨up.toNat,by omega⟩
  have hi:i<N:=by omega
  obtain⟨p,hp⟩:=pG l i (by rw[HN.out];exact hi);have hmp:=bI.out p (by rw[oN];exact hp);have had:=bg.out;rw[oN,hp]at had;dsimp only at had;have aL:=eu had;have y0:=HX.out w2 HB2.out;rw[<-HN.out]at y0;obtain⟨b',off',bz,aG,he,p0,p1,p2,p3,p4,p5,hkr⟩:=y0.at_ i p hp;injection he with he
  injection he with e1 e2
  subst e1 e2;obtain⟨pb,hpb⟩:=my (w2.heap.size);obtain⟨w3,hw3⟩:=my (w2.alloc (.cells #[.int .i64 p.k,.int .i64 p.f,.int .i64 p.t,.int .i64 p.u,.slice bz p.ks.length aG,.bool p.y] 37));have hb3:Below w2.heap.size w2 w3:=hw3▸mr w2 _;have blk:w3.heap[pb]?=some (.cells #[.int .i64 p.k,.int .i64 p.f,.int .i64 p.t,.int .i64 p.u,.slice bz p.ks.length aG,.bool p.y] 37 (0,0)):=by rw[<-hw3,<-hpb];exact rA _ _
  have n1:w3.cell? ⟨pb,1,none⟩=some (.int .i64 p.f):=nz blk 1;have n4:w3.cell? ⟨pb,4,none⟩=some (.slice bz p.ks.length aG):=nz blk 4;have bM:=ku hb3 ct;obtain⟨bN,HB3⟩:=mR (hkr.below hb3) (qY HB2.out hb3);have aM:=vP hb3 bq.out;have aN:=eu aM;have dR:=hb3.size;obtain⟨HW3,bO,HP⟩:=nY hw3 hpb hp;have aj:=eu (show M=Cb l p f by rw[hmp];rfl)
  have bP:=eu (show M=true->p.f<=t from λe=>by
   have h:=aj.out;rw[e]at h;unfold Cb at h;by_cases hc:f<p.f
   ·rw[oP hc]at h;cases h
   omega)
  have hii:(i:Int)<(N:Int):=by omega
  have hkl:=dA.out p (sI hp);clear hb1 hmp had y0 hkr hpb hw3 hb3 blk hp aM bg bH bI HB1;go_upto_region 4 with fail
  rw[HW3.out,bO.out];clear HW3 bO p0 p1 p2 p3 p4 p5 bL dB ct y2
  go_cut [78] (λq wx=>q=.bool (!M)/\Below w3.heap.size w3 wx)
  case first=>
   have hm:=aj.out;unfold Cb at hm;by_cases q1:f<p.f
   ·obtain rfl:M=false:=by rw[hm];simp[q1]
    clear hm;go_wp2_with fail
    go_quiet (fail)
    have hq:=nG (mF w3.heap.size w3) nq;go_wp2_with fail
    go_meet
    exact⟨rfl,hq⟩
   have e1:decide (f<p.f)=false:=by simp;omega
   cases hks:p.ks with
   |nil=>
    obtain rfl:M=true:=by rw[hm,hks,e1];rfl
    rw[hks]at n4;clear hm hks;simp only[sH]at n4;go_wp2_with fail
    go_quiet (fail)
    have hq:=nG (mF w3.heap.size w3) nq;go_wp2_with fail
    go_meet
    exact⟨rfl,hq⟩
   |cons k0 kr=>
    obtain⟨m,hm1⟩:∃m,p.ks.length=m+1:=⟨kr.length,by rw[hks];rfl⟩
    obtain⟨z,hz⟩:=pG p.ks m (by omega);have hlast:p.ks.getLast?=some z:=by rw[Rb,hm1];exact hz
    rw[hlast,e1]at hm;dsimp only at hm;have bQ:=HG.out.kid i p HP.out z (sI hz);rw[HN.out]at bQ;obtain⟨zn,rfl⟩:∃zn:Nat,z=(zn:Int):=⟨z.toNat,by omega⟩
    obtain⟨c,hc⟩:=pG l zn (by rw[HN.out];omega);have hat:VS l (zn:Int)=c.t:=by unfold VS;rw[oN,hc]
    rw[hat]at hm;obtain⟨kb,ko,rfl,z0⟩:=Bu bN.out m _ hz;have yc:=HX.out w3 HB3.out;rw[<-HN.out]at yc;obtain⟨b9,dS,_,_,he,-,-,c2,-,-,-,-⟩:=yc.at_ zn c hc;injection he with he
    injection he with e2 e3
    subst e2 e3;rw[hm1]at n4;have g0:(0:Int)<(m:Int)+1:=by omega
    have gw:IntKind.i64.wrap ((m:Int)+1-1)=(m:Int):=by
     have:(m:Int)+1-1=(m:Int):=by omega
     rw[this];exact qA _ (by omega)
    have ed:IntKind.i64.wrap (m:Int)=(m:Int):=qA _ (by omega);have g1:(m:Int)<(m:Int)+1:=by omega
    have g2:(zn:Int)<(N:Int):=by omega
    have eB:w3.cell? ⟨pb,4,none⟩=some (.slice (some ⟨kb,ko,none⟩) (m+1) aG):=n4;clear n4 hks hlast bQ hz hc hat yc hm1;by_cases q2:f<c.t
    ·obtain rfl:M=false:=by rw[hm];simp[q2]
     clear hm;go_wp2_with fail
     go_quiet (fail)
     have hq:=nG (mF w3.heap.size w3) nq;go_wp2_with fail
     go_meet
     exact⟨rfl,hq⟩
    obtain rfl:M=true:=by rw[hm];simp[q2]
    have e4:decide (f<c.t)=false:=by simp;omega
    clear hm;go_wp2_with fail
    go_quiet (fail)
    have hq:=nG (mF w3.heap.size w3) nq;go_wp2_with fail
    go_meet
    exact⟨rfl,hq⟩
  case rest=>
  obtain⟨rfl,hbc⟩:=hcut
  rename World=>w4
  have dC:=ku hbc bM;have aH:=vP hbc aN.out;have aO:=aH.1;have bR:=aH.2;obtain⟨bS,aa⟩:=mR aH (qY HB3.out hbc);have dU:=hbc.size;clear hbc bM n1 n4 bN aN aH aj;cases M with
  |false=>
   have hr:R=(l,-1):=by rw[aL.out];rfl
   have HD:=eu (HQ.out (.slice (some ⟨b,off,none⟩) N cap) (-1) _ ⟨by rw[hr],by rw[hr];exact HX.out _ (aa.out.setCell (p:=⟨Br,0,none⟩) hbr (.slice (some ⟨b,off,none⟩) N cap)),λe=>absurd e (by decide),aa.out.setCell (p:=⟨Br,0,none⟩) hbr (.slice (some ⟨b,off,none⟩) N cap)⟩);clear hr;go_wp2_with fail
   refine yJ (v:=.tuple #[.agg #[.slice (some ⟨b,off,none⟩) N cap],.int .i64 (-1)]) ?_ rfl HD.out;simp[results,results76,go_sem,aO,pU]
  |true=>
   have hr:=aL.out;rw[gu rfl]at hr;obtain⟨dD,bT,dE⟩:=nY (bP.out rfl) hr (HC.out w4 aa.out);clear hr;go_wp2_with fail
   refine dE.out.mono ?_;rintro e w5 ⟨u,rfl,⟨L,hL,hO⟩,hb5⟩;have hln:L.length=N:=by rw[<-HN.out,<-hL,tV]
   obtain⟨g,cp,hu,hBg,_,_,_⟩:=pP hO.row (by omega);subst hu;obtain⟨pl,hpl⟩:=pG L i (by omega);have hpn:pl.nd=p:=by
    have h1:(L.map Ln.nd)[i]?=some pl.nd:=by rw[r9,hpl];rfl
    rw[hL,HP.out]at h1;exact(qJ h1).symm
   rw[hln]at hO⊢;obtain⟨HO,HL,bA,dF,bU,dG⟩:=qW hO hL hln hpl hpn (qY aa.out hb5);have bV:=vP hb5 bS.out;have aP:=eu bV;have ak:=hb5.size;have dV:=eu hb5;have ae:=eu (show w5.ownsRow w4.heap.size 37 uY.k (.slice (some ⟨g,0,none⟩) N cp) L.length (uY.all L)from hO.row);have hmx:L.length+1<=maxLen:=by simp only[maxLen];omega
   have bW:(L.length+1)*64<=140737488355328:=by omega
   obtain⟨dH,dI⟩:=mR hmx bW;clear hL hO hln hpl hpn hBg hb5 bV hmx bW aO bR dC;go_upto_region 9 with(at_builtin;go_must (refine qm Xo rfl (.tmp 84) (.tmp 90) rfl w4.heap.size _ L (⟨⟨kind,f,t,(i:Int),[],false⟩,none,0,0⟩:Ln) _ rfl rfl ae.out rfl dH.out dI.out ak ?_;intro v6 w6 hown6 bX;obtain⟨g6,av,hv6,aQ,aR,bY,dW⟩:=pP hown6 (by simp);rw[show(L++[(⟨⟨kind,f,t,(i:Int),[],false⟩,none,0,0⟩:Ln)]).length=N+1 from by rw[oq,bA.out];rfl]at hv6 bY;subst hv6;have bB:=eu hown6;have bZ:=eu bX;have cz:=eu aQ;have dX:=eu aR;clear hown6 bX aQ aR))
   have aI:=HO.out.push (p:=(⟨⟨kind,f,t,(i:Int),[],false⟩,none,0,0⟩:Ln)) (qG encI _ _) (λj q _ gg hgg=>by cases hgg) bZ.out bB.out;have hb6:Below w4.heap.size w5 w6:=((mr w5 _).mono ak).grown bZ.out (by simp;omega) (λq hq=>(ae.out.lt q hq).1);have hL6:(L++[(⟨⟨kind,f,t,(i:Int),[],false⟩,none,0,0⟩:Ln)]).map Ln.nd=l++[⟨kind,f,t,(i:Int),[],false⟩]:=by rw[Ip,HL.out];rfl
   have ah:(L++[(⟨⟨kind,f,t,(i:Int),[],false⟩,none,0,0⟩:Ln)])[i]?=some pl:=by rw[vC (by rw[bA.out];exact hi)];exact dF.out
   have ax:(L++[(⟨⟨kind,f,t,(i:Int),[],false⟩,none,0,0⟩:Ln)]).length=N+1:=by rw[oq,bA.out];rfl
   obtain⟨L6,aS⟩:=my (L++[(⟨⟨kind,f,t,(i:Int),[],false⟩,none,0,0⟩:Ln)]);rw[aS]at aI hL6 ah ax;have ay:=aI.row;have c4:w6.cell? ⟨g6,i*6+4,none⟩=some pl.val:=by
    have:=ay.cells (g:=g6) rfl _ _ ((qh uY L6 i pl ah 4 (by decide)).trans rfl);rw[nX,qz]at this;exact this
   obtain⟨az,dJ,ai,aT⟩:=qg aI hL6 ah ax;have dK:=eu (dG.out.trans (hb6.mono aa.out.size));have cB:QR w6 Br 0 (.slice none 0 0):=⟨by rw[hb6.cell (p:=⟨Br,0,none⟩) (by show Br<w4.heap.size;omega)];exact aP.out.1,by rw[hb6.frozen (p:=⟨Br,0,none⟩) (by show Br<w4.heap.size;omega)];exact aP.out.2⟩
   have aU:=eu cB;have cK:w4.heap.size<=w6.heap.size:=qy ak hb6.size;have bC:=eu (az.out.kids i pl ai.out);have dL:=(Reads.mW (E:=encI) bC.out)
   have dY:pl.nd.ks.length<=900000000000:=by rw[bU.out];exact hkl
   have dM:=eu (show pl.nd.ks.length+[(N:Int)].length<=maxLen by simp only[maxLen,nI,sH];omega);have dN:=eu (show(pl.nd.ks.length+[(N:Int)].length)*8<=140737488355328 by simp only[nI,sH];omega);have eD:(i:Int)<(N:Int)+1:=by omega
   clear aI hL6 ah ax aS ay hb6 cB dL HO ae;have aV:w4.heap.size<=(w6.alloc (.cells #[.int .i64 (N:Int)] 3)).heap.size:=by simp;omega
   go_upto_region 10 with(at_builtin;go_must (refine oH VW rfl (.tmp 98) (.tmp 100) rfl w4.heap.size _ pl.nd.ks rfl (bC.out.alloc _) _ [(N:Int)] rfl (I8 w6 (N:Int) [.int .i64 (N:Int)] 3 rfl) dM.out dN.out aV ?_;intro eF w7 af bD aW;obtain⟨a7,c7,hv7⟩:=(Reads.mW (E:=encI) af).shape;obtain⟨n7,cO⟩:∃n7,(pl.nd.ks++[(N:Int)]).length=n7:=⟨_,rfl⟩;rw[cO]at hv7;clear cO;subst hv7;have bE:=eu af;have cZ:=eu bD;have df:=eu aW;have ag:=(az.out.row.alloc _).kept bD (zm (nV (az.out.kids i pl ai.out) az.out.row (by decide)));have d4:w7.cell? ⟨g6,i*6+4,none⟩=some pl.val:=(by have h5:=ag.cells (g:=g6) rfl _ _ ((qh uY L6 i pl ai.out 4 (by decide)).trans rfl);rw[nX,qz]at h5;exact h5);obtain⟨gx,eG,dh,_,hfx,_,_⟩:=pP (E:=uY) ag (by rw[aT.out];omega);have ex:=(sK dh).1;injection ex with ex;injection ex with ex;have dO:w7.frozen? ⟨g6,i*6+4,none⟩=false:=(by rw[ex];exact hfx _);clear af bD aW ag dh hfx ex))
   have aA:=az.out.kid ai.out (N:Int) cZ.out bE.out df.out;have aB:Below w4.heap.size w6 (w7.setCell ⟨g6,i*6+4,none⟩ (.slice a7 n7 c7)):=((((mr w6 _).mono cK).grown cZ.out aV (λq hq=>(bC.out.lt q hq).1))).setCell (p:=⟨g6,i*6+4,none⟩) cz.out _;obtain⟨w8,hw8⟩:=my (w7.setCell ⟨g6,i*6+4,none⟩ (.slice a7 n7 c7));rw[hw8]at aA aB;have hnd:({pl.nd with ks:=pl.nd.ks++[(N:Int)]}:Nd)={p with ks:=p.ks++[(N:Int)]}:=by rw[bU.out]
   rw[hnd]at aA;have aJ:(L6.set i ⟨{p with ks:=p.ks++[(N:Int)]},a7,n7,c7⟩).map Ln.nd=(l++[(⟨kind,f,t,(i:Int),[],false⟩:Nd)]).set i {p with ks:=p.ks++[(N:Int)]}:=by rw[Uu,dJ.out]
   have aC:(L6.set i ⟨{p with ks:=p.ks++[(N:Int)]},a7,n7,c7⟩).length=N+1:=by rw[xe];exact aT.out
   obtain⟨L8,aX⟩:=my (L6.set i ⟨{p with ks:=p.ks++[(N:Int)]},a7,n7,c7⟩);rw[aX]at aA aJ aC;have di:Ar.bu (L8.map Ln.nd):=by
    rw[aJ];have:=Ci HG.out (i:Int) kind f t p (by omega) (by rw[oN];exact HP.out) dD.out;rw[oN,HN.out]at this;exact this
   have hre:=Oc g6 av w4.heap.size (N+1) L8 (i:Int) t w8 aA aC di (by omega) (by omega);rw[aJ]at hre;have hr1:R.1=nT ((l++[(⟨kind,f,t,(i:Int),[],false⟩:Nd)]).set i {p with ks:=p.ks++[(N:Int)]}) (i:Int) t:=by rw[bT.out]
   have hr2:R.2=(N:Int):=by rw[bT.out]
   rw[<-hr1]at hre;obtain⟨HR2,dP⟩:=mR hr2 hre;have dQ:=eu (dK.out.trans (aB.mono aa.out.size));have dm:QR w8 Br 0 (.slice none 0 0):=⟨by rw[aB.cell (p:=⟨Br,0,none⟩) (by show Br<w4.heap.size;omega)];exact aU.out.1,by rw[aB.frozen (p:=⟨Br,0,none⟩) (by show Br<w4.heap.size;omega)];exact aU.out.2⟩
   obtain⟨aY,dn⟩:=mR dm hw8;clear aA aB hw8 hnd aJ aC aX di hre hr1 hr2 dm d4 dO c4;rw[dn.out];clear dn;go_wp2_with fail
   refine dP.out.mono ?_;rintro e w9 ⟨rfl,⟨L9,bF,dw⟩,aK⟩;have hbl:Br<w4.heap.size:=by omega
   have bG:QR w9 Br 0 (.slice none 0 0):=⟨by rw[aK.cell (p:=⟨Br,0,none⟩) hbl];exact aY.out.1,by rw[aK.frozen (p:=⟨Br,0,none⟩) hbl];exact aY.out.2⟩
   have dx:=bG.1;have dZ:=bG.2;have aD:=dw.T8 Br hbl (.slice (some ⟨g6,0,none⟩) (N+1) av);have aZ:=(dQ.out.trans (aK.mono aa.out.size)).setCell (p:=⟨Br,0,none⟩) hbr (.slice (some ⟨g6,0,none⟩) (N+1) av);have HD:=eu (HQ.out (.slice (some ⟨g6,0,none⟩) (N+1) av) (N:Int) _ ⟨HR2.out,bF▸aD.nodes,λ_=>⟨L9,bF,aD.base aa.out.size⟩,aZ⟩);clear bF dw aK bG aD aZ;go_wp2;refine yJ (v:=.tuple #[.agg #[.slice (some ⟨g6,0,none⟩) (N+1) av],.int .i64 (N:Int)]) ?_ rfl HD.out;simp[results,results76,go_sem,dx,pU]
end
end Go.Proofs.Ytfbiffdmhcjhbaa

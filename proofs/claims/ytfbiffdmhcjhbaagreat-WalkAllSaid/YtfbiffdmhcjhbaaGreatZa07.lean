import Derived.Test.YtfbiffdmhcjhbaaGreatZa03
import Derived.Test.YtfbiffdmhcjhbaaGreatZa04
import Derived.BigQuiet
import Derived.Deep.CutBlock
import Derived.Deep.DeepCutAuto
import Derived.Deep.DeepMust
import Derived.Lib.Hide
import Derived.Lib.MinMax
import Derived.Lib.SmallJoins
import Derived.Maps.AppendAt
import Derived.OneCell
import Derived.WalkSmall
set_option linter.all false
set_option maxHeartbeats 16000000
set_option maxRecDepth 100000
set_option synthInstance.maxSize 4000
set_option synthInstance.maxHeartbeats 0
namespace Go.Proofs.YtfbiffdmhcjhbaaGreat
open Go.RowKit Tryz
def mr:=@Joins.block_setCell
def rW:=@Joins.unfrozen_of_block
def LY:=@ownsRow_setCell_other
def qj:=@heap_alloc_new
def QA:=@ownsRow_setCell_below
def gQ:=@Joins.cell_of_block
def kg:=@lt_of_block
def o8:=@bodyPost_ret
section
open Go.RowKit
open Sq
open Ar
def encI:jV Int:=⟨λx=>[.int .i64 x],1,by decide,λ_=>rfl,λx u hu=>by
 cases hu with
 |head=>rfl
 |tail _ hu=>cases hu⟩
theorem Od:Ty prog encI 22 3 8:=Ty.of (z:=.int .i64 0) underlying22 (by kernel_rfl) (by kernel_rfl) rfl (λw=>by kernel_rfl)
structure Ln where
 nd:Nd
 a:Option Addr
 n:Nat
 c:Nat
abbrev Ln.val(p:Ln):Value:=.slice p.a p.n p.c
def CG(p:Ln):List Value:=[.int .i64 p.nd.k,.int .i64 p.nd.f,.int .i64 p.nd.t,.int .i64 p.nd.u,p.val,.bool p.nd.y]
def nR:jV Ln:=⟨CG,6,by decide,λ_=>rfl,λx u hu=>by
 cases hu with
 |head=>rfl
 |tail _ hu=>cases hu with
  |head=>rfl
  |tail _ hu=>cases hu with
   |head=>rfl
   |tail _ hu=>cases hu with
    |head=>rfl
    |tail _ hu=>cases hu with
     |head=>rfl
     |tail _ hu=>cases hu with
      |head=>rfl
      |tail _ hu=>cases hu⟩
theorem Rm:Ty prog nR 29 47 64:=Ty.of (z:=.agg #[.int .i64 0,.int .i64 0,.int .i64 0,.int .i64 0,.slice none 0 0,.bool false]) underlying29 (by kernel_rfl) (by kernel_rfl) rfl (λw=>by kernel_rfl)
def iR(w:World)(v:Value)(l:List Nd):Prop:=∃L:List Ln,L.map Ln.nd=l/\Reads nR w v L/\∀p∈L,Reads encI w p.val p.nd.ks
section
variable {w w':World}{v:Value}{l:List Nd}
theorem iR.below(h:iR w v l)(hb:Below w.heap.size w w'):iR w' v l:=by
 obtain⟨L,h1,h2,h3⟩:=h;exact⟨L,h1,h2.below hb,λp hp=>(h3 p hp).below hb⟩
theorem iR.shape(h:iR w v l):∃a cap,v=.slice a l.length cap:=by
 obtain⟨L,h1,h2,_⟩:=h;obtain⟨a,cap,e⟩:=h2.shape;exact⟨a,cap,by rw[e,<-h1,nP]⟩
theorem Mk{p:Ln}(h:Reads encI w p.val p.nd.ks):p.n=p.nd.ks.length:=by
 obtain⟨a,cap,e⟩:=h.shape;injection e
theorem iR.at_{a:Option Addr}{cap:Nat}(h:iR w (.slice a l.length cap) l)(j:Nat)(x:Nd)(hj:l[j]?=some x):
 ∃b off ka kc,a=some ⟨b,off,none⟩/\w.cell? ⟨b,off+j*6,none⟩=some (.int .i64 x.k)/\w.cell? ⟨b,off+j*6+1,none⟩=some (.int .i64 x.f)/\w.cell? ⟨b,off+j*6+2,none⟩=some (.int .i64 x.t)/\w.cell? ⟨b,off+j*6+3,none⟩=some (.int .i64 x.u)/\
  w.cell? ⟨b,off+j*6+4,none⟩=some (.slice ka x.ks.length kc)/\w.cell? ⟨b,off+j*6+5,none⟩=some (.bool x.y)/\Reads encI w (.slice ka x.ks.length kc) x.ks:=by
 obtain⟨L,h1,h2,h3⟩:=h;have hlen:L.length=l.length:=by rw[<-h1,nP]
 rw[<-hlen]at h2;rw[<-h1,nO]at hj;cases hp:L[j]? with
 |none=>rw[hp]at hj;cases hj
 |some p=>
  rw[hp]at hj;injection hj with hj
  subst hj;obtain⟨b,off,e,hc⟩:=h2.at_ j p hp;have hk:=h3 p (nQ hp);have hn:=Mk hk;refine⟨b,off,p.a,p.c,e,hc 0 _ rfl,hc 1 _ rfl,hc 2 _ rfl,hc 3 _ rfl,?_,hc 5 _ rfl,?_⟩
  ·rw[<-hn];exact hc 4 _ rfl
  rw[<-hn];exact hk
theorem qZ{a:Option Addr}{cap:Nat}{l:List Int}(h:Reads encI w (.slice a l.length cap) l)(j:Nat)(x:Int)(hj:l[j]?=some x):
 ∃b off,a=some ⟨b,off,none⟩/\w.cell? ⟨b,off+j,none⟩=some (.int .i64 x):=by
 obtain⟨b,off,h1,h2⟩:=h.at_ j x hj;have:=h2 0 _ rfl;exact⟨b,off,h1,by rw[show off+j=off+j*encI.k+0 by show off+j=off+j*1+0;omega];exact this⟩
end
theorem Em{α:Type}(E:jV α):∀(L:List α)(i j:Nat)(x x':α)(u:Value),L[i]?=some x->E.cells x'=(E.cells x).set j u->j<E.k->E.all (L.set i x')=(E.all L).set (i*E.k+j) u
 |[],i,j,x,x',u=>λh=>by simp at h
 |y::r,0,j,x,x',u=>λh hc hj=>by
  obtain rfl:y=x:=by simpa using h
  rw[fH,jV.all,jV.all,hc,vT,j5,List.set_append_left _ _ (by rw[E.len];exact hj)]
 |y::r,i+1,j,x,x',u=>λh hc hj=>by
  rw[fG,jV.all,jV.all,Em E r i j x x' u (by simpa using h) hc hj,OE _ _ (by rw[E.len,qW];omega),E.len];congr 2;rw[qW];omega
theorem pR{α:Type}{E:jV α}{w:World}{B e g n cap:Nat}{L:List α}(h:w.ownsRow B e E.k (.slice (some ⟨g,0,none⟩) n cap) L.length (E.all L))(i j:Nat)(x x':α)(u:Value)(hx:L[i]?=some x)(hc:E.cells x'=(E.cells x).set j u)(hj:j<E.k):
 (w.setCell ⟨g,i*E.k+j,none⟩ u).ownsRow B e E.k (.slice (some ⟨g,0,none⟩) n cap) (L.set i x').length (E.all (L.set i x')):=by
 have hi:=(fT.1 hx).1;obtain⟨h1,h2⟩:=h;rcases h2 with⟨h2,_⟩|⟨g',cap',cur,hv,hg,hh,hn,hcp,hcs,ht⟩
 ·cases h2
 obtain⟨e1,e2,e3⟩:=mq hv;injection e1 with e1
 injection e1 with e1
 subst e1 e3;refine⟨by rw[iX],.inr ⟨g,cap,cur.setIfInBounds (i*E.k+j) u,by rw[qU,<-e2],hg,mr hh u,by rw[qU];exact hn,hcp,by simpa using hcs,?_⟩⟩;rw[qU,Em E L i j x x' u hx hc hj,<-ht,Array.toList_setIfInBounds,List.take_set]
theorem jG{α:Type}{E:jV α}{w:World}{B e:Nat}{v:Value}{L:List α}(h:w.ownsRow B e E.k v L.length (E.all L))(h0:0<L.length):
 ∃g cap,v=.slice (some ⟨g,0,none⟩) L.length cap/\B<=g/\(∀o,w.frozen? ⟨g,o,none⟩=false)/\L.length<=cap/\cap<=maxLen:=by
 rcases h.2 with⟨_,h2⟩|⟨g,cap,cur,hv,hg,hh,hn,hcp,hcs,ht⟩
 ·omega
 exact⟨g,cap,hv,hg,λo=>rW hh o,hn,hcp⟩
theorem gU{w:World}{B B' e e' s s' n n':Nat}{v v':Value}{xs xs':List Value}(h:w.ownsRow B e s v n xs)(h':w.ownsRow B' e' s' v' n' xs')(hne:e≠e')(g:Nat)(hg:v.ownBlock=some g):v'.ownBlock≠some g:=λhg'=>by
 rcases h.2 with⟨h1,_⟩|⟨b,cap,cur,hv,_,hh,_⟩
 ·rw[h1]at hg;cases hg
 rcases h'.2 with⟨h1,_⟩|⟨b',cap',cur',hv',_,hh',_⟩
 ·rw[h1]at hg';cases hg'
 rw[hv]at hg;rw[hv']at hg';obtain rfl:b=g:=by simpa [Value.ownBlock]using hg
 obtain rfl:b'=b:=by simpa [Value.ownBlock]using hg'
 rw[hh]at hh';injection hh' with hh'
 injection hh' with _ h3
 exact hne h3
structure OT(w:World)(B:Nat)(v:Value)(L:List Ln):Prop where
 row:w.ownsRow B 47 6 v L.length (nR.all L)
 kids:∀(i:Nat)(p:Ln),L[i]?=some p->w.ownsRow B 3 1 p.val p.nd.ks.length (encI.all p.nd.ks)
 apart:∀(i j:Nat)(p q:Ln),i≠j->L[i]?=some p->L[j]?=some q->∀g,p.val.ownBlock=some g->q.val.ownBlock≠some g
section
variable {w w':World}{B:Nat}{v:Value}{L:List Ln}
theorem OT.below(h:OT w B v L)(hb:Below w.heap.size w w'):OT w' B v L:=⟨own_below h.row hb,λi p hp=>own_below (h.kids i p hp) hb,h.apart⟩
theorem OT.base{B':Nat}(h:OT w B v L)(hB:B'<=B):OT w B' v L:=⟨iK h.row hB,λi p hp=>iK (h.kids i p hp) hB,h.apart⟩
theorem OT.nodes(h:OT w B v L):iR w v (L.map Ln.nd):=⟨L,rfl,Reads.fJ (E:=nR) h.row,λp hp=>by
 obtain⟨i,hi⟩:=rT hp
 exact Reads.fJ (E:=encI) (h.kids i p hi)⟩
theorem OT.nil(w:World)(B:Nat):OT w B (.slice none 0 0) []:=⟨jq nR _ _,λi p h=>by simp at h,λi j p q _ h=>by simp at h⟩
theorem OT.set{g n cap:Nat}(h:OT w B (.slice (some ⟨g,0,none⟩) n cap) L)(i j:Nat)(p:Ln)(nd:Nd)(u:Value)(hp:L[i]?=some p)(hks:nd.ks=p.nd.ks)(hc:CG {p with nd:=nd}=(CG p).set j u)(hj:j<6):
 OT (w.setCell ⟨g,i*6+j,none⟩ u) B (.slice (some ⟨g,0,none⟩) n cap) (L.set i {p with nd:=nd}):=by
 have hi:=(fT.1 hp).1;have key:∀(a:Nat)(q:Ln),(L.set i {p with nd:=nd})[a]?=some q->∃q',L[a]?=some q'/\q.val=q'.val/\q.nd.ks=q'.nd.ks:=by
  intro a q hq;rw[Ct]at hq;split at hq
  ·rename_i e;subst e;injection hq with hq;subst hq
   exact⟨p,hp,rfl,hks⟩
  exact⟨q,hq,rfl,rfl⟩
 refine⟨pR h.row i j p _ u hp hc hj,λa q hq=>?_,λa b q r hab hq hr g' hg'=>?_⟩
 ·obtain⟨q',h1,h2,h3⟩:=key a q hq;rw[h2,h3];exact LY (h.kids a q' h1) (gU h.row (h.kids a q' h1) (by decide) g rfl) u
 obtain⟨q',h1,h2,_⟩:=key a q hq;obtain⟨r',h4,h5,_⟩:=key b r hr;rw[h2]at hg';rw[h5];exact h.apart a b q' r' hab h1 h4 g' hg'
end
end
section
open Go.RowKit
open Sq
open Ar
section
variable {α:Type}{E:jV α}{w:World}
theorem iw{P:Program}{t e:TypeId}{bytes:Nat}(T:Ty P E t e bytes){ops:Array Oper}{rest:List Oper}{o:Oper}{act:Act}{Q:Exit->Act->World->Prop}(hgd:o.guard=none)(x y:Operand)
 (ho:o.op=.call {callee:=.builtin .append,args:=#[x,y],argTypes:=#[t,t]})
 (base:Nat) (v:Value) (l:List α) (hs:act.eval x=v) (hown:w.ownsRow base e E.k v l.length (E.all l)) (yv:Value) (m:List α) (hy:act.eval y=yv) (hb:Reads E w yv m)
 (hmax:l.length+m.length<=maxLen) (hlen:(l.length+m.length)*bytes<=140737488355328) (hbase:base<=w.heap.size)
 (h:∀v' w',w'.ownsRow base e E.k v' (l++m).length (E.all (l++m))->w.grownBy w' v.ownBlock->(v'.ownBlock=v.ownBlock\/v'.ownBlock=some w.heap.size)->wpList P ops Q rest (act.put o.dst v') w'):wpList P ops Q (o::rest) act w:=by
 obtain⟨i,z,hi,hz,hsz,hby,hzs⟩:=T.parts;rcases hb with⟨rfl,rfl⟩|⟨b,off,cap,rfl,h2,h3,h4⟩
 ·refine OM hgd x y t ho base e i E.k T.ht hi v l.length (E.all l) hs hown hy ?_;refine h v w ?_ ⟨rfl,rfl,rfl,fC _,λ_ _ _=>rfl⟩ (.inl rfl);rw[kH];exact hown
 exact wpList_append_own_at w hgd x y t ho base e i z E.k bytes T.ht hi hz hsz hby hzs E.pos v l.length (E.all l) hs hown ⟨b,off,none⟩ m.length cap (E.all m) hy (iX E m) (news h4) (pO E m) hmax hlen hbase (λv' w' q1 q2 _ q3=>h v' w' (by rw[mK,ig];exact q1) q2 q3)
theorem Dh(w:World)(u:α)(cs:List Value)(t:TypeId)(hc:E.cells u=cs):Reads E (w.alloc (.cells cs.toArray t)) (.slice (some ⟨w.heap.size,0,none⟩) 1 1) [u]:=
 .inr ⟨w.heap.size,0,1,rfl,fC _,by decide,λj x hj i c hi=>by
  match j,hj with
  |0,hj=>
   obtain rfl:u=x:=by simpa using hj
   rw[hc]at hi;have e:(⟨w.heap.size,0+0*E.k+i,none⟩:Addr)=⟨w.heap.size,i,none⟩:=by simp
   rw[e,o6,Hy];exact hi
  |j+1,hj=>simp at hj⟩
theorem sW{x y:Value}(h:∀g,x.ownBlock=some g->y.ownBlock≠some g):y.ownBlock=none\/y.ownBlock≠x.ownBlock:=by
 cases hy:y.ownBlock with
 |none=>exact .inl rfl
 |some g=>exact .inr (λe=>h g e.symm hy)
end
section
variable {w w':World}{B:Nat}{v:Value}{L:List Ln}
theorem OT.push{v':Value}{o:Obj}{p:Ln}(h:OT w B v L)(hk:w.ownsRow B 3 1 p.val p.nd.ks.length (encI.all p.nd.ks))(ha:∀(i:Nat)(q:Ln),L[i]?=some q->∀g,p.val.ownBlock=some g->q.val.ownBlock≠some g)
 (hg:(w.alloc o).grownBy w' v.ownBlock) (hrow:w'.ownsRow B 47 6 v' (L++[p]).length (nR.all (L++[p]))):OT w' B v' (L++[p]):=by
 have key:∀(a:Nat)(q:Ln),(L++[p])[a]?=some q->(L[a]?=some q/\a<L.length)\/(a=L.length/\q=p):=by
  intro a q hq;rcases FE a L.length with hj|hj|hj
  ·rw[qx hj]at hq;exact .inl ⟨hq,hj⟩
  ·subst hj;rw[uU (fC _)]at hq;simp at hq;exact .inr ⟨rfl,hq.symm⟩
  rw[uV (by simp;omega)]at hq;cases hq
 refine⟨hrow,λa q hq=>?_,λa b q r hab hq hr g aa=>?_⟩
 ·rcases key a q hq with⟨h1,_⟩|⟨_,rfl⟩
  ·exact((h.kids a q h1).alloc o).kept hg (sW (gU h.row (h.kids a q h1) (by decide)))
  exact(hk.alloc o).kept hg (sW (gU h.row hk (by decide)))
 rcases key a q hq with⟨h1,_⟩|⟨ha1,rfl⟩
 ·rcases key b r hr with⟨h2,_⟩|⟨_,rfl⟩
  ·exact h.apart a b q r hab h1 h2 g aa
  exact λe=>ha a q h1 g e aa
 rcases key b r hr with⟨h2,_⟩|⟨hb1,rfl⟩
 ·exact ha b r h2 g aa
 omega
theorem OT.kid{g n cap i:Nat}{o:Obj}{p:Ln}{a':Option Addr}{n' c':Nat}(h:OT w B (.slice (some ⟨g,0,none⟩) n cap) L)(hp:L[i]?=some p)(z:Int)(hg:(w.alloc o).grownBy w' p.val.ownBlock)
 (hown:w'.ownsRow B 3 1 (.slice a' n' c') (p.nd.ks++[z]).length (encI.all (p.nd.ks++[z]))) (hat:(Value.slice a' n' c').ownBlock=p.val.ownBlock\/(Value.slice a' n' c').ownBlock=some (w.alloc o).heap.size):
 OT (w'.setCell ⟨g,i*6+4,none⟩ (.slice a' n' c')) B (.slice (some ⟨g,0,none⟩) n cap) (L.set i ⟨{p.nd with ks:=p.nd.ks++[z]},a',n',c'⟩):=by
 have hi:=(fT.1 hp).1;have hrow:w'.ownsRow B 47 6 (.slice (some ⟨g,0,none⟩) n cap) L.length (nR.all L):=
  (h.row.alloc o).kept hg (sW (gU (h.kids i p hp) h.row (by decide)))
 have key:∀(a:Nat)(q:Ln),(L.set i ⟨{p.nd with ks:=p.nd.ks++[z]},a',n',c'⟩)[a]?=some q->(a=i/\q=⟨{p.nd with ks:=p.nd.ks++[z]},a',n',c'⟩)\/(a≠i/\L[a]?=some q):=by
  intro a q hq;rw[Ct]at hq;split at hq
  ·rename_i e;subst e;injection hq with hq;exact .inl ⟨rfl,hq.symm⟩
  rename_i e;exact .inr ⟨λx=>e x.symm,hq⟩
 have new:∀(b:Nat)(r:Ln),b≠i->L[b]?=some r->∀g,(Value.slice a' n' c').ownBlock=some g->r.val.ownBlock≠some g:=by
  intro b r hb hr g1 hg1;rcases hat with e|e
  ·exact h.apart i b p r (λx=>hb x.symm) hp hr g1 (e▸hg1)
  intro hr1;have:=((h.kids b r hr).lt g1 hr1).2;rw[hg1]at e;injection e with e
  rw[size_alloc]at e;omega
 refine⟨pR hrow i 4 p _ _ hp rfl (by decide),λa q hq=>?_,λa b q r hab hq hr g1 aa=>?_⟩
 ·rcases key a q hq with⟨rfl,rfl⟩|⟨ha,hq⟩
  ·exact LY hown (gU hrow hown (by decide) g rfl) _
  have h1:=((h.kids a q hq).alloc o).kept hg (sW (λg1 hg1=>h.apart i a p q (λx=>ha x.symm) hp hq g1 hg1));exact LY h1 (gU hrow h1 (by decide) g rfl) _
 rcases key a q hq with⟨rfl,rfl⟩|⟨ha,hq1⟩
 ·rcases key b r hr with⟨rfl,rfl⟩|⟨hb,hr⟩
  ·exact absurd rfl hab
  exact new b r hb hr g1 aa
 rcases key b r hr with⟨rfl,rfl⟩|⟨hb,hr1⟩
 ·exact λe=>new a q ha hq1 g1 e aa
 exact h.apart a b q r hab hq1 hr1 g1 aa
end
end
section
open Go.RowKit
open Sq
open Ar
theorem j4{w w1 w2:World}(h1:Below w.heap.size w w1)(h2:Below w1.heap.size w1 w2):Below w.heap.size w w2:=h1.trans (h2.mono h1.size)
def D5(own:Bool)(R:List Nd)(w:World)(e:Ending)(w':World):Prop:=
 ∃u,e=.returned (.agg #[u])/\iR w' u R/\(own=true->∃L,L.map Ln.nd=R/\OT w' w.heap.size u L)/\Below w.heap.size w w'
theorem En{α:Type}(E:jV α)(w:World)(e B:Nat)(l:List α)(C:Array Value)(hC:C=(E.all l).toArray)(hl:l.length<=1000)(hB:B<=w.heap.size):
 (w.alloc (.cells C e)).ownsRow B e E.k (.slice (some ⟨w.heap.size,0,none⟩) l.length l.length) l.length (E.all l):=by
 subst hC;refine⟨iX E l,.inr ⟨w.heap.size,l.length,(E.all l).toArray,rfl,hB,qj w _,fC _,by simp only[maxLen];omega,by simp[iX],?_⟩⟩;rw[<-iX E l];simp
theorem Pd(w:World)(B:Nat)(x:Nd)(hx:x.ks=[])(hB:B<=w.heap.size):OT (w.alloc (.cells #[.int .i64 x.k,.int .i64 x.f,.int .i64 x.t,.int .i64 x.u,.slice none 0 0,.bool x.y] 47)) B (.slice (some ⟨w.heap.size,0,none⟩) 1 1) [⟨x,none,0,0⟩]:=by
 refine⟨En nR w _ B [(⟨x,none,0,0⟩:Ln)] _ rfl (by simp) hB,λi p hp=>?_,λi j p q hij hp hq=>?_⟩
 ·cases i with
  |zero=>
   obtain rfl:(⟨x,none,0,0⟩:Ln)=p:=by simpa using hp
   show World.ownsRow _ _ _ _ (.slice none 0 0) x.ks.length (encI.all x.ks);rw[hx];exact jq encI _ _
  |succ i=>simp at hp
 cases i with
 |zero=>
  cases j with
  |zero=>exact absurd rfl hij
  |succ j=>simp at hq
 |succ i=>simp at hp
theorem OT.NV{w:World}{B:Nat}{v:Value}{L:List Ln}(h:OT w B v L)(b:Nat)(hb:b<B)(u:Value):OT (w.setCell ⟨b,0,none⟩ u) B v L:=
 ⟨QA h.row (a:=⟨b,0,none⟩) hb u,λi p hp=>QA (h.kids i p hp) (a:=⟨b,0,none⟩) hb u,h.apart⟩
theorem A8{l:List Nd}(h:0<l.length):∃x,l[0]?=some x/\firstT l=x.t:=by
 cases l with
 |nil=>simp at h
 |cons x r=>exact⟨x,rfl,rfl⟩
def CJ(own:Bool)(R:List Nd×Int)(w:World)(e:Ending)(w':World):Prop:=
 ∃u,e=.returned (.tuple #[.agg #[u],.int .i64 R.2])/\iR w' u R.1/\(own=true->∃L,L.map Ln.nd=R.1/\OT w' w.heap.size u L)/\Below w.heap.size w w'
def wC(l:List Nd)(p:Nd)(f:Int):Bool:=!(decide (f<p.f))&&match p.ks.getLast? with
 |none=>true
 |some z=>!(decide (f<Qb l z))
theorem FX(l:List Nd)(up kind f t:Int)(p:Nd)(hp:l[up.toNat]?=some p):
 iL l up kind f t=(!(decide (up<0)||decide ((l.length:Int)<=up)||decide (kind<1)||decide (11<kind)||decide (t<f)||decide (firstT l<t))&&wC l p f):=by
 unfold iL wC;rw[hp];rfl
theorem Js(l:List Nd)(up kind f t:Int)(hb:(decide (up<0)||decide ((l.length:Int)<=up)||decide (kind<1)||decide (11<kind)||decide (t<f)||decide (firstT l<t))=true):iL l up kind f t=false:=by
 unfold iL;rw[hb];rfl
theorem uC{W:World}{tb:Nat}{a:Option Addr}{n c:Nat}(hc:W.cell? ⟨tb,0,none⟩=some (.slice a n c))(v:Value)(q:Addr)(u:Value)(hq:W.cell? q=some u)(hu:q=⟨tb,0,none⟩->∀a n c,u≠.slice a n c):(W.setCell ⟨tb,0,none⟩ v).cell? q=some u:=by
 by_cases e:q=⟨tb,0,none⟩
 ·rw[e,hc]at hq;exact absurd (jF hq).symm (hu e a n c)
 rw[OQ _ _ _ _ (λh=>e h.symm)];exact hq
theorem iR.set{W:World}{tb:Nat}{a:Option Addr}{n c:Nat}{u:Value}{l:List Nd}(h:iR W u l)(hc:W.cell? ⟨tb,0,none⟩=some (.slice a n c))(v:Value):iR (W.setCell ⟨tb,0,none⟩ v) u l:=by
 obtain⟨L,h1,h2,h3⟩:=h;refine⟨L,h1,?_,λp hp=>?_⟩
 ·rcases h2 with h2|⟨b,off,cap,e1,e2,e3,e4⟩
  ·exact .inl h2
  refine .inr ⟨b,off,cap,e1,e2,e3,λj x hj i w hw=>uC hc v _ _ (e4 j x hj i w hw) (λe a n c=>?_)⟩;have h0:off+j*nR.k+i=0:=by injection e
  have hi:i=0:=by omega
  subst hi;have hx:(nR.cells x)[0]?=some (.int .i64 x.nd.k):=rfl;rw[hx]at hw;obtain rfl:=jF hw;intro e;cases e
 rcases h3 p hp with h2|⟨b,off,cap,e1,e2,e3,e4⟩
 ·exact .inl h2
 refine .inr ⟨b,off,cap,e1,e2,e3,λj x hj i w hw=>uC hc v _ _ (e4 j x hj i w hw) (λe a n c=>?_)⟩;cases i with
 |zero=>
  obtain rfl:=jF hw;intro e;cases e
 |succ i=>cases hw
end
section
open Go.RowKit
open Sq
open Ar
def Reached(R:List Nd)(B:Nat)(v:Value)(w:World)(e:Ending)(w':World):Prop:=
 e=.returned (.tuple #[])/\(∃L,L.map Ln.nd=R/\OT w' B v L)/\Below B w w'
theorem IQ(g cap B n:Nat)(L:List Ln)(k aa:Int)(w:World)(h:OT w B (.slice (some ⟨g,0,none⟩) n cap) L)(hn:L.length=n)(hG:Ar.bu (L.map Ln.nd))(hk1:-1<=k)(hk2:k<n):
 Calls prog 84 #[.slice (some ⟨g,0,none⟩) n cap,.int .i64 k,.int .i64 aa] w (Reached (gP (L.map Ln.nd) k aa) B (.slice (some ⟨g,0,none⟩) n cap) w):=by
 obtain⟨R,hR⟩:=eX (gP (L.map Ln.nd) k aa);rw[hR];have HQ:=eu (λw'=>show((∃L,L.map Ln.nd=R/\OT w' B (.slice (some ⟨g,0,none⟩) n cap) L)/\Below B w w')->Reached R B (.slice (some ⟨g,0,none⟩) n cap) w (.returned (.tuple #[])) w' from λh=>⟨rfl,h⟩);obtain⟨Q,hQ⟩:=eX (Reached R B (.slice (some ⟨g,0,none⟩) n cap) w);rw[hQ]at HQ⊢;have hcap:n<=cap/\cap<=maxLen:=by
  rcases h.row.2 with⟨h1,_⟩|⟨g',cap',cur,hv,_,_,h4,h5,_⟩
  ·cases h1
  obtain⟨_,_,e3⟩:=mq hv;rw[e3];exact⟨by rw[<-hn];exact h4,h5⟩
 simp only[maxLen]at hcap;obtain⟨H0,ae,af,ag⟩:=jk h hG hR hn;clear h hG hR hn hQ
 go_enter func84,ntmps84
 go_wp2_with fail
 go_loopw [6] (λkv wr=>∃(k:Int)(L:List Ln),kv=.int .i64 k/\-1<=k/\k<n/\Hid (OT wr B (.slice (some ⟨g,0,none⟩) n cap) L)/\Hid (Ar.bu (L.map Ln.nd))/\Hid (gP (L.map Ln.nd) k aa=R)/\Hid (L.length=n)/\Hid (Below B w wr)) (λkv _=>(intOf kv+1).toNat)
 case atStart=>exact⟨k,L,rfl,hk1,hk2,H0,ae,af,ag,eu (fu _ _)⟩
 case round=>
  clear hk1 hk2 H0 ae af ag;obtain⟨k,L,rfl,hk1,hk2,HO,HG,HR,HN,HB⟩:=hrel;by_cases hneg:k<0
  ·obtain rfl:k=-1:=by omega
   have hr:=HR.out;rw[xA _ _ _ (by omega)]at hr;have HD:=eu (HQ.out wr ⟨⟨L,hr,HO.out⟩,HB.out⟩);clear hr hk2;go_wp2_with fail
   go_end0
   exact HD.out
  obtain⟨i,rfl⟩:∃i:Nat,k=(i:Int):=⟨k.toNat,by omega⟩
  have hin:i<n:=by omega
  obtain⟨p,hp⟩:=iT L i (by rw[HN.out];exact hin);have hrow:=HO.out.row;have c2:wr.cell? ⟨g,i*6+2,none⟩=some (.int .i64 p.nd.t):=by
   have:=hrow.cells (g:=g) rfl _ _ ((ky nR L i p hp 2 (by decide)).trans rfl);rw[iy,j5]at this;exact this
  have c3:wr.cell? ⟨g,i*6+3,none⟩=some (.int .i64 p.nd.u):=by
   have:=hrow.cells (g:=g) rfl _ _ ((ky nR L i p hp 3 (by decide)).trans rfl);rw[iy,j5]at this;exact this
  obtain⟨g',cap',hv,hBg,hfz,_,_⟩:=jG hrow (by rw[HN.out];omega);obtain⟨e1,_,_⟩:=mq hv;injection e1 with e1
  injection e1 with e1
  subst e1;have f2:=hfz (i*6+2);have d3:=wB (o:=i*6+2) (v:=.int .i64 (max p.nd.t aa)) (by omega) c3;have hx:(L.map Ln.nd)[i]?=some p.nd:=by rw[nO,hp];rfl
  have hu:=HG.out.up i p.nd hx;have hst:=xw (L.map Ln.nd) i aa p.nd HG.out (by omega) (by rw[iE];exact hx);rw[iE]at hst;have hO2:=HO.out.set i 2 p {p.nd with t:=max p.nd.t aa } (.int .i64 (max p.nd.t aa)) hp rfl rfl (by decide);have hmap:(L.set i {p with nd:={p.nd with t:=max p.nd.t aa }}).map Ln.nd=(L.map Ln.nd).set i {p.nd with t:=max p.nd.t aa }:=by rw[Ov]
  obtain⟨L2,hL2⟩:=eX (L.set i {p with nd:={p.nd with t:=max p.nd.t aa }});rw[hL2]at hO2 hmap;have ah:=eu hO2;have ai:=eu (show Ar.bu (L2.map Ln.nd)by rw[hmap];exact qF HG.out i p.nd hx _ (Ht _ _));have HR2:=eu (show gP (L2.map Ln.nd) p.nd.u aa=R by rw[hmap,<-hst];exact HR.out);have aj:=eu (show L2.length=n by rw[<-hL2,qU];exact HN.out);have HB2:=eu (HB.out.setCell (p:=⟨g,i*6+2,none⟩) hBg (.int .i64 (max p.nd.t aa)));have hi2:(i:Int)<(n:Int):=by omega
  clear hrow hv hBg hfz hx hst hO2 hmap hL2 hp;go_wp2_with fail
  go_roundw
  case rel=>exact⟨p.nd.u,L2,rfl,by omega,by omega,ah,ai,HR2,aj,HB2⟩
  case measure=>simp[intOf];omega
end
section
open Go.RowKit
open Sq
open Ar
def CK(l:List Nd)(w:World)(e:Ending)(w':World):Prop:=
 ∃u,e=.returned u/\(∃L,L.map Ln.nd=l/\OT w' w.heap.size u L)/\Below w.heap.size w w'
theorem Eo(v:Value)(l:List Nd)(w:World)(h:iR w v l)(hs:l.length<=1000000000000)(hk:∀x∈l,x.ks.length<=1000000000000):
 Calls prog 83 #[.agg #[v]] w (CK l w):=by
 obtain⟨a,cap,rfl⟩:=h.shape;have HQ:=eu (λu w'=>show((∃L,L.map Ln.nd=l/\OT w' w.heap.size u L)/\Below w.heap.size w w')->CK l w (.returned u) w' from λh=>⟨u,rfl,h⟩);obtain⟨Q,hQ⟩:=eX (CK l w);rw[hQ]at HQ⊢;have HX:=eu (λW (hb:Below w.heap.size w W) j x (hj:l[j]?=some x)=>(h.below hb).at_ j x hj);have aM:=eu hk;obtain⟨N,hN⟩:=eX (l.length);rw[hN]at hs⊢;have HN:=eu hN;obtain⟨w1,hw1⟩:=eX (w.alloc (.cells #[.slice a N cap] 31));obtain⟨B,hB⟩:=eX (w.heap.size);have hb1:=eZ w (.cells #[.slice a N cap] 31);have c1:w1.cell? ⟨B,0,none⟩=some (.slice a N cap):=by rw[<-hw1,<-hB];exact at_new rfl
 rw[hw1]at hb1;have HB1:=eu hb1;have aN:=eu (show B<=w1.heap.size by rw[<-hB];exact hb1.size);have aO:=eu (λW (hb:Below w1.heap.size w1 W)=>fe hb c1);obtain⟨HW1,aP⟩:=fD hw1 hB;clear h hk hQ hN hw1 hB hb1 c1
 go_enter func83,ntmps83
 go_upto_region 1 with fail
 rw[HW1.out,aP.out];clear HW1;go_wp2_with fail
 go_loopw [3,4] (λlv iv wr=>∃(i:Nat)(L:List Ln),iv=.int .i64 i/\i<=N/\Hid (L.length=i)/\Hid (L.map Ln.nd=l.take i)/\Hid (OT wr w1.heap.size lv L)/\Hid (Below w1.heap.size w1 wr)) (λ_ iv _=>N-(intOf iv).toNat)
 case atStart=>exact⟨0,[],rfl,gG _,eu rfl,eu rfl,eu (OT.nil _ _),eu (fu _ _)⟩
 case round=>
  obtain⟨i,L,rfl,hi,HL,HM,HO,HB⟩:=hrel;have c1:=aO.out wr HB.out;by_cases hlt:i<N
  ·obtain⟨x,hx⟩:=iT l i (by rw[HN.out];exact hlt);obtain⟨b,off,ka,kc,rfl,x0,x1,x2,x3,x4,x5,hkr⟩:=HX.out wr (j4 HB1.out HB.out) i x hx;have hii:(i:Int)<(N:Int):=by omega
   have hkl:=aM.out x (nQ hx);have aD:=eu (fun(p:Ln)(hp:p.nd=x)=>show(L++[p]).map Ln.nd=l.take (i+1)by rw[Cu,HM.out,LM,hx,qi,hp];rfl);obtain⟨aQ,bz⟩:=fD hkr hx;obtain⟨xb,hxb⟩:=eX (wr.heap.size);obtain⟨wa,ah⟩:=eX (wr.alloc (.cells #[.int .i64 x.k,.int .i64 x.f,.int .i64 x.t,.int .i64 x.u,.slice ka x.ks.length kc,.bool x.y] 47));have aF:Below wr.heap.size wr wa:=ah▸eZ wr _;have hsa:wa.heap.size=xb+1:=by rw[<-ah,<-hxb];simp
   have blk:wa.heap[xb]?=some (.cells #[.int .i64 x.k,.int .i64 x.f,.int .i64 x.t,.int .i64 x.u,.slice ka x.ks.length kc,.bool x.y] 47 (0,0)):=by rw[<-ah,<-hxb];exact qj _ _
   have y4:wa.cell? ⟨xb,4,none⟩=some (.slice ka x.ks.length kc):=gQ blk 4;obtain⟨aG,aH,ak,aI,aJ⟩:=xZ aF hsa blk ah hxb;clear hx hkr ah aF hsa blk hxb;go_upto_region 6 with fail
   rw[aI.out,aJ.out];clear aI x0 x1 x2 x3 x4 x5;have aR:=eu (kK (e:=3) encI wa);have ay:=eu (eZ wa (.cells #[] 3));have z4:=gX (o:=.cells #[] 3) y4;have ai:=eu ((Below.heap_alloc wa (.cells #[] 3) _ (kg ak.out)).trans ak.out);clear y4;have bA:=aN.out;have aS:=eu (show([]:List Int).length+x.ks.length<=maxLen by simp only[maxLen,lI];omega);have aT:=eu (show(([]:List Int).length+x.ks.length)*8<=140737488355328 by simp only[lI];omega);have aU:=eu (show some xb≠(Value.slice (some ⟨wa.heap.size,0,none⟩) 0 0).ownBlock by rw[aH.out];intro e;have e2:xb=xb+1:=jF e;omega);go_upto_region 7 with(at_builtin;go_must (refine iw Od rfl (.tmp 18) (.tmp 20) rfl wa.heap.size _ ([]:List Int) rfl aR.out _ x.ks rfl (((aQ.out.below aG.out).below ay.out)) aS.out aT.out ay.out.size ?_;intro kv w2 hown2 hg2 av;rw[uk]at hown2;obtain⟨aa,ae,aV⟩:=(Reads.fJ (E:=encI) hown2).shape;subst aV;have az:=eu hown2;have aW:=eu hg2;have aK:=eu av;have ag:=(hg2.block xb (kg ai.out) aU.out).trans ai.out;have aA:=eu (mr (i:=4) ag (.slice aa x.ks.length ae));have e4:=gQ ag 4;have aX:=rW ag 4;clear hown2 hg2 av ag))
   obtain⟨w3,hw3⟩:=eX (w2.setCell ⟨xb,4,none⟩ (.slice aa x.ks.length ae));have af:w3.heap[xb]?=some (.cells #[.int .i64 x.k,.int .i64 x.f,.int .i64 x.t,.int .i64 x.u,.slice aa x.ks.length ae,.bool x.y] 47 (0,0)):=by rw[<-hw3];exact aA.out
   have hsw:=aH.out;have aY:=aJ.out;have hkb:∀gg,(Value.slice aa x.ks.length ae).ownBlock=some gg->xb<gg:=λgg hgg=>by
    rcases aK.out with e|e
    ·rw[hgg]at e;have e2:gg=wa.heap.size:=jF e;omega
    rw[hgg]at e;have e2:gg=(wa.alloc (.cells #[] 3)).heap.size:=jF e;rw[size_alloc]at e2;omega
   have hb2:Below wr.heap.size wr w2:=((aG.out).trans (ay.out.mono (by omega))).grown aW.out (by simp;omega) (λq hq=>by have e2:wa.heap.size=q:=jF hq;omega);have hbw:Below wr.heap.size wr w3:=by rw[<-hw3];exact hb2.setCell (p:=⟨xb,4,none⟩) (by show wr.heap.size<=xb;omega) _
   have ax:=HB.out.size;have hk3:w3.ownsRow w1.heap.size 3 1 (.slice aa x.ks.length ae) x.ks.length (encI.all x.ks):=by
    rw[<-hw3];exact LY (iK az.out (by omega)) (λe=>by have:=hkb xb e;omega) _
   have hO3:=HO.out.below hbw;have hap:∀(j:Nat)(q:Ln),L[j]?=some q->∀gg,(Value.slice aa x.ks.length ae).ownBlock=some gg->q.val.ownBlock≠some gg:=λj q hq gg hgg hqq=>by
    have h1:=hkb gg hgg;have h2:=((HO.out.kids j q hq).lt gg hqq).2;omega
   obtain⟨aB,aZ,bf⟩:=gW hO3 hk3 hap;have aL:=eu (HB.out.trans (hbw.mono ax));have HW3:=eu hw3;have x0:=gQ af 0;have x1:=gQ af 1;have x2:=gQ af 2;have x3:=gQ af 3;have x4:=gQ af 4;have x5:=gQ af 5;have aj:=eu aL.out.size;rw[hw3];have bg:=eu (show nR.cells (⟨x,aa,x.ks.length,ae⟩:Ln)=[.int .i64 x.k,.int .i64 x.f,.int .i64 x.t,.int .i64 x.u,.slice aa x.ks.length ae,.bool x.y]from rfl);have bB:=HL;have hln:L.length<=1000000000000:=by rw[HL.out];omega
   have bn:=eu (show L.length+1<=maxLen by simp only[maxLen];omega);have bq:=eu (show(L.length+1)*64<=140737488355328 by omega);clear af hsw aY hkb hb2 hbw ax hk3 hO3 hap hw3 e4 aX z4 hln;go_wp2_with (at_builtin;go_must (refine jA Rm rfl (.tmp 23) (.tmp 25) rfl w1.heap.size _ L (⟨x,aa,x.ks.length,ae⟩:Ln) _ bg.out rfl aB.out.row rfl bn.out bq.out aj.out ?_;intro v4 w4 aC hg4))
   have hO4:=aB.out.push aZ.out bf.out hg4 aC;have hB4:Below w1.heap.size w1 w4:=(aL.out.alloc aj.out _).grown hg4 (by have:=aj.out;simp;omega) (λq hq=>(aB.out.row.lt q hq).1)
   go_roundw
   case rel=>
    first
     |exact⟨i+1,L++[⟨x,aa,x.ks.length,ae⟩],by go_num,by omega,eu (by simp[HL.out]),eu (aD.out _ rfl),eu hO4,eu hB4⟩
     |((repeat apply Exists.intro);exact⟨⟨i+1,L++[⟨x,aa,x.ks.length,ae⟩],by go_num,by omega,eu (by simp[HL.out]),eu (aD.out _ rfl),eu hO4,eu hB4⟩,rfl⟩)
   case measure=>simp[intOf];omega
  obtain rfl:i=N:=by omega
  have hii:¬((i:Int)<(i:Int)):=by omega
  have hm:=HM.out;rw[zk (by rw[HN.out];exact fC _)]at hm;have HD:=eu (HQ.out _ wr ⟨⟨L,hm,HO.out.base HB1.out.size⟩,j4 HB1.out HB.out⟩);clear hm hlt;go_wp2_with fail
  exact HD.out
end
section
open Go.RowKit
open Sq
open Ar
theorem Pe(w:World)(u:Value)(x:Nd)(hx:x.ks=[]):OT ((w.alloc (.cells #[u] 31)).alloc (.cells #[.int .i64 x.k,.int .i64 x.f,.int .i64 x.t,.int .i64 x.u,.slice none 0 0,.bool x.y] 47)) w.heap.size (.slice (some ⟨w.heap.size+1,0,none⟩) 1 1) [⟨x,none,0,0⟩]:=by
 have h:=Pd (w.alloc (.cells #[u] 31)) w.heap.size x hx (by simp);rw[size_alloc]at h;exact h
theorem Ro(n:Int)(w:World):Calls prog 25 #[.int .i64 n] w (D5 true (mU n) w):=by
 obtain⟨m,hm⟩:=eX ((if n<0\/32768<n then 0 else n));have e:mU n=[⟨1,0,m,-1,[],false⟩]:=by unfold mU;rw[hm]
 have hO:=λu=>Pe w u ⟨1,0,m,-1,[],false⟩ rfl
 have HO:=eu hO;rw[e];have HB:=eu (λo o'=>mQ (eZ w o) o');clear e hO;by_cases h1:n<0
 ·rw[eT (.inl h1)]at hm;subst hm
  go_enter func25,ntmps25
  go_wp2;refine o8 (v:=.agg #[.slice (some ⟨w.heap.size+1,0,none⟩) 1 1]) ?_ rfl ⟨_,rfl,(HO.out _).nodes,λ_=>⟨_,rfl,HO.out _⟩,HB.out _ _⟩;simp[results,results25,go_sem]
 by_cases h2:32768<n
 ·rw[eT (.inr h2)]at hm;subst hm
  go_enter func25,ntmps25
  go_wp2;refine o8 (v:=.agg #[.slice (some ⟨w.heap.size+1,0,none⟩) 1 1]) ?_ rfl ⟨_,rfl,(HO.out _).nodes,λ_=>⟨_,rfl,HO.out _⟩,HB.out _ _⟩;simp[results,results25,go_sem]
 rw[eQ (λh=>h.elim h1 h2)]at hm;subst hm
 go_enter func25,ntmps25
 go_wp2;refine o8 (v:=.agg #[.slice (some ⟨w.heap.size+1,0,none⟩) 1 1]) ?_ rfl ⟨_,rfl,(HO.out _).nodes,λ_=>⟨_,rfl,HO.out _⟩,HB.out _ _⟩;simp[results,results25,go_sem]
theorem QL(v:Value)(l:List Nd)(i t:Int)(w:World)(h:iR w v l)(hG:Ar.bu l)(hs:l.length<=1000000000000)(hk:∀x∈l,x.ks.length<=1000000000000):
 Calls prog 70 #[.agg #[v],.int .i64 i,.int .i64 t] w (D5 (ku l i t) (gJ l i t) w):=by
 obtain⟨a,cap,rfl⟩:=h.shape;obtain⟨y,hy,ak⟩:=A8 hG.pos;have HX:=eu (λW (hb:Below w.heap.size w W)=>h.below hb);have HC:=eu (λW (hb:Below w.heap.size w W)=>Eo _ l W (h.below hb) hs hk);obtain⟨N,hN⟩:=eX (l.length);have hm:ku l i t=!(decide (i<0)||decide ((N:Int)<=i)||decide (y.t<t)):=by unfold ku;rw[hN,ak]
 have hgr:gJ l i t=if ku l i t=true then gP l i t else l:=rfl
 obtain⟨M,hM⟩:=eX (ku l i t);obtain⟨R,hR⟩:=eX (gJ l i t);rw[hM]at hm hgr;rw[hR]at hgr;have HQ:=eu (λu w'=>show(iR w' u R/\(M=true->∃L,L.map Ln.nd=R/\OT w' w.heap.size u L)/\Below w.heap.size w w')->D5 M R w (.returned (.agg #[u])) w' from λh=>⟨u,rfl,h⟩);rw[hM,hR];obtain⟨Q,hQ⟩:=eX (D5 M R w);rw[hQ]at HQ⊢;rw[hN]at HX HC⊢;have hpos:=hG.pos;rw[hN]at hpos;obtain⟨HG,HY,HN,aa⟩:=jk hG hy hN hgr;obtain⟨w2,hw2⟩:=eX ((w.alloc (.cells #[.slice a N cap] 31)).alloc (.cells #[.slice none 0 0] 31));obtain⟨Bt,ag⟩:=eX (w.heap.size);obtain⟨Br,hBr⟩:=eX (w.heap.size+1);have hb2:=mQ (eZ w (.cells #[.slice a N cap] 31)) (.cells #[.slice none 0 0] 31);have ct:w2.cell? ⟨Bt,0,none⟩=some (.slice a N cap):=by rw[<-hw2,<-ag];exact gX (at_new rfl)
 have cr:Lj w2 Br 0 (.slice none 0 0):=by
  rw[<-hw2,<-hBr];have h:=pP (W:=w.alloc (.cells #[.slice a N cap] 31)) (C:=#[.slice none 0 0]) (t:=31) (k:=0) rfl;rw[size_alloc]at h;exact h
 rw[hw2]at hb2;obtain⟨HB2,ah,HW2,av⟩:=jk hb2 cr hw2 ag;have hlt:Br<w2.heap.size:=lt_of_cell cr.1
 have hbr:w.heap.size<=Br:=by omega
 have ax:=eu hBr;clear h hy ak hk hN hM hR hQ hgr hG hw2 ag hBr hb2 cr
 go_enter func70,ntmps70
 go_upto_region 1 with fail
 rw[HW2.out,ax.out,av.out];clear HW2 ax av;have ae:=ah.out.1;have aA:=ah.out.2;by_cases q1:i<0
 ·obtain rfl:M=false:=by rw[hm];simp[q1]
  have hr:R=l:=by rw[aa.out];rfl
  have HD:=eu (HQ.out (.slice a N cap) _ ⟨by rw[hr];exact HX.out _ (HB2.out.setCell (p:=⟨Br,0,none⟩) hbr (.slice a N cap)),λe=>absurd e (by decide),HB2.out.setCell (p:=⟨Br,0,none⟩) hbr (.slice a N cap)⟩);clear hm hr;go_wp2_with fail
  refine o8 (v:=.agg #[.slice a N cap]) ?_ rfl HD.out;simp[results,results70,go_sem,ae,jO]
 by_cases q2:(N:Int)<=i
 ·obtain rfl:M=false:=by rw[hm];simp[q2]
  have hr:R=l:=by rw[aa.out];rfl
  have HD:=eu (HQ.out (.slice a N cap) _ ⟨by rw[hr];exact HX.out _ (HB2.out.setCell (p:=⟨Br,0,none⟩) hbr (.slice a N cap)),λe=>absurd e (by decide),HB2.out.setCell (p:=⟨Br,0,none⟩) hbr (.slice a N cap)⟩);clear hm hr;go_wp2_with fail
  refine o8 (v:=.agg #[.slice a N cap]) ?_ rfl HD.out;simp[results,results70,go_sem,ae,jO]
 have y0:=HX.out w2 HB2.out;rw[<-HN.out]at y0;obtain⟨b,off,ka,kc,rfl,-,-,y2,-,-,-,-⟩:=y0.at_ 0 y HY.out;simp only[vT,sO]at y2;have hN0:(0:Int)<(N:Int):=by omega
 clear y0;by_cases q3:y.t<t
 ·obtain rfl:M=false:=by rw[hm];simp[q3]
  have hr:R=l:=by rw[aa.out];rfl
  have HD:=eu (HQ.out (.slice (some ⟨b,off,none⟩) N cap) _ ⟨by rw[hr];exact HX.out _ (HB2.out.setCell (p:=⟨Br,0,none⟩) hbr (.slice (some ⟨b,off,none⟩) N cap)),λe=>absurd e (by decide),HB2.out.setCell (p:=⟨Br,0,none⟩) hbr (.slice (some ⟨b,off,none⟩) N cap)⟩);clear hm hr;go_wp2_with fail
  refine o8 (v:=.agg #[.slice (some ⟨b,off,none⟩) N cap]) ?_ rfl HD.out;simp[results,results70,go_sem,ae,jO]
 have hmt:M=true:=by rw[hm];simp[q1,q2,q3]
 have hr:R=gP l i t:=by rw[aa.out,eT hmt]
 obtain⟨aB,aC⟩:=fD hr (HC.out w2 HB2.out);clear hm hr hmt;go_wp2_with fail
 refine aC.out.mono ?_;rintro e w3 ⟨u,rfl,⟨L,hL,hO⟩,hb3⟩;have hln:L.length=N:=by rw[<-HN.out,<-hL,nP]
 obtain⟨g,cp,hu,hBg,_,_,_⟩:=jG hO.row (by omega);subst hu;rw[hln]at hO⊢;have hre:=IQ g cp w2.heap.size N L i t w3 hO hln (by rw[hL];exact HG.out) (by omega) (by omega);rw[hL,<-aB.out]at hre;obtain⟨aD,HB3⟩:=fD hre (j4 HB2.out hb3);have ay:=oN hb3 ah.out;have af:=eu ay;have aF:=hb3.size;clear hL hO hln hBg hre hb3 ay y2 ae aA;go_wp2_with fail
 refine aD.out.mono ?_;rintro e w4 ⟨rfl,⟨L2,hL2,hO2⟩,hb4⟩;have ai:Lj w4 Br 0 (.slice none 0 0):=⟨by rw[hb4.cell (p:=⟨Br,0,none⟩) hlt];exact af.out.1,by rw[hb4.frozen (p:=⟨Br,0,none⟩) hlt];exact af.out.2⟩
 have az:=ai.1;have aG:=ai.2;have aj:=hO2.NV Br hlt (.slice (some ⟨g,0,none⟩) N cp);have hb5:=(HB3.out.trans (hb4.mono HB2.out.size)).setCell (p:=⟨Br,0,none⟩) hbr (.slice (some ⟨g,0,none⟩) N cp);have HD:=eu (HQ.out (.slice (some ⟨g,0,none⟩) N cp) _ ⟨hL2▸aj.nodes,λ_=>⟨L2,hL2,aj.base HB2.out.size⟩,hb5⟩);clear hL2 hO2 hb4 ai aj hb5;go_wp2;refine o8 (v:=.agg #[.slice (some ⟨g,0,none⟩) N cp]) ?_ rfl HD.out;simp[results,results70,go_sem,az,jO]
end
end Go.Proofs.YtfbiffdmhcjhbaaGreat

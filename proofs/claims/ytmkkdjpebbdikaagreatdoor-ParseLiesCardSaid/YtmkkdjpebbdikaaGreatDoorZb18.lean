import Derived.Test.YtmkkdjpebbdikaaGreatDoorZb13
import Derived.Test.YtmkkdjpebbdikaaGreatDoorZb14
import Derived.Test.YtmkkdjpebbdikaaGreatDoorZb15
set_option linter.all false
set_option maxHeartbeats 16000000
set_option maxRecDepth 100000
namespace Go.Proofs.YtmkkdjpebbdikaaGreatDoor
open Go.RowKit Tryz
section
open Go.RowKit
open Sq
open Fl (raw iy oD Ku cnt back)
theorem ahj(k:Nat)(w:World):Calls prog 70 #[.int .i64 k] w λe w'=>e=.returned (.bool (!cnt k))/\w=w':=by
 go_enter func70,ntmps70
 exact aam
theorem ajg(k:Nat)(w:World):Calls prog 38 #[.int .i64 k] w λe w'=>e=.returned (.bool (k==20||k==21))/\w=w':=by
 go_enter func38,ntmps38
 exact JU
theorem Aa(rb:Nat)(v:Value)(l:List Tk)(f p:Nat)(w:World)(hc:w.cell? ⟨rb,1,none⟩=some v)(h:Reads iQ w v l)(hf:f<=p)(hp:p<=l.length)(hs:l.length<=100000):
 Calls prog 44 #[RP rb,.int .i64 f,.int .i64 p] w λe w'=>e=.returned (.int .i64 (Ps.lo l f p:Nat))/\w=w':=by
 obtain⟨a,cap,rfl⟩:=h.shape;obtain⟨P,hP⟩:∃P:Nat->Bool,(λj=>!cnt (raw l j))=P:=⟨_,rfl⟩
 have HX:=dY (λi (x:Tk)(hi:l[i]?=some x)=>show(!cnt (x.1))=P i by rw[<-hP];show _=(!cnt (raw l i));rw[Fl.uU hi]);have H:=dY (λj x (hj:l[j]?=some x)=>iY h j x hj);have HC:=dY (λk=>ahj k w);obtain⟨T,hT⟩:=eu (Ps.lo l f p);rw[hT];have HF:=dY hf;unfold Ps.lo at hT;rw[hP]at hT;have HT:=dY hT;obtain⟨N,hN⟩:=eu (l.length);have HN:=dY hN;rw[hN]at hs hc hp;clear h hN hT hP hf
 go_enter func44,ntmps44
 go_wp2_with fail
 go_loopw [1] (λiv wr=>∃k:Nat,iv=.int .i64 k/\k<=p/\Hid (iy P (p-k) k=T)/\w=wr) (λiv _=>p-(intOf iv).toNat)
 case atStart=>exact⟨f,rfl,HF.out,HT,rfl⟩
 case round=>
  obtain⟨k,rfl,hk,qj,rfl⟩:=hrel;by_cases hlt:k<p
  ·obtain⟨x,hx⟩:∃x,l[k]?=some x:=⟨_,fu mP⟩
   have aa:=HX.out k x hx;obtain⟨b,off,rfl,c0,-,-⟩:=H.out k x hx;have hst:=oD P p k hlt;obtain⟨K,hK⟩:=eu (x.1);rw[hK]at c0 aa;have hcl:=HC.out K;have gk:(k:Int)<(N:Int):=dS
   have gp:(k:Int)<(p:Int):=dS
   have gd:decide ((k:Int)<(p:Int))=true:=kD gp;cases q:P k with
   |true=>
    rw[q]at hst aa;rw[dX rfl]at hst;have HK3:=dY (show iy P (p-(k+1)) (k+1)=T by rw[<-qj.out];exact hst.symm);have e:(!cnt K)=true:=aa;rw[e]at hcl;have Bq:=dY hcl;clear hcl hst hx hK q e H HX HC qj HT aa HF;go_wp2_with fail
    exact QF
   |false=>
    rw[q]at hst aa;rw[dW dU]at hst;obtain rfl:T=k:=yO
    have e:(!cnt K)=false:=aa;rw[e]at hcl;have Bq:=dY hcl;clear hcl hst hx hK q e H HX HC qj HT aa HF;go_wp2_with fail
    exact QE
  ·exact aaJ
theorem abq(rb:Nat)(v:Value)(l:List Tk)(f:Nat)(w:World)(hc:w.cell? ⟨rb,1,none⟩=some v)(h:Reads iQ w v l)(hf:f<=l.length)(hs:l.length<=100000):
 Calls prog 21 #[RP rb,.int .i64 f] w λe w'=>e=.returned (.int .i64 (Ps.limit l f:Nat))/\w=w':=by
 obtain⟨a,cap,rfl⟩:=h.shape;obtain⟨P,hP⟩:∃P:Nat->Bool,(λj=>raw l j !=20&&raw l j !=21)=P:=⟨_,rfl⟩
 have HX:=dY (λi (x:Tk)(hi:l[i]?=some x)=>show(x.1 !=20&&x.1 !=21)=P i by rw[<-hP];show _=(raw l i !=20&&raw l i !=21);rw[Fl.uU hi]);have H:=dY (λj x (hj:l[j]?=some x)=>iY h j x hj);have HC:=dY (λk=>ajg k w);obtain⟨T,hT⟩:=eu (Ps.limit l f);rw[hT];unfold Ps.limit at hT;rw[hP]at hT;obtain⟨p,hN⟩:=eu (l.length);have HN:=dY hN;rw[hN]at hs hc hT hf;obtain⟨HF,HT⟩:=fw hf hT;clear h hN hT hP hf
 go_enter func21,ntmps21
 go_wp2_with fail
 go_loopw [1] (λiv wr=>∃k:Nat,iv=.int .i64 k/\k<=p/\Hid (iy P (p-k) k=T)/\w=wr) (λiv _=>p-(intOf iv).toNat)
 case atStart=>exact⟨f,rfl,HF.out,HT,rfl⟩
 case round=>
  obtain⟨k,rfl,hk,qj,rfl⟩:=hrel;by_cases hlt:k<p
  ·obtain⟨x,hx⟩:∃x,l[k]?=some x:=⟨_,fu mP⟩
   have aa:=HX.out k x hx;obtain⟨b,off,rfl,c0,-,-⟩:=H.out k x hx;have hst:=oD P p k hlt;obtain⟨K,hK⟩:=eu (x.1);rw[hK]at c0 aa;have hcl:=HC.out K;have gp:(k:Int)<(p:Int):=dS
   have gd:decide ((k:Int)<(p:Int))=true:=kD gp;cases q:P k with
   |true=>
    rw[q]at hst aa;rw[dX rfl]at hst;have HK3:=dY (show iy P (p-(k+1)) (k+1)=T by rw[<-qj.out];exact hst.symm);have e:(K==20||K==21)=false:=by simp at aa⊢;exact aa
    rw[e]at hcl;have Bq:=dY hcl;clear hcl hst hx hK q e H HX HC qj HT aa HF;go_wp2_with fail
    exact QF
   |false=>
    rw[q]at hst aa;rw[dW dU]at hst;obtain rfl:T=k:=yO
    have e:(K==20||K==21)=true:=by simp at aa⊢;omega
    rw[e]at hcl;have Bq:=dY hcl;clear hcl hst hx hK q e H HX HC qj HT aa HF;go_wp2_with fail
    exact QE
  ·exact aaJ
theorem M4(rb:Nat)(v:Value)(l:List Tk)(p m:Nat)(w:World)(hc:w.cell? ⟨rb,1,none⟩=some v)(h:Reads iQ w v l)(hp:p<=l.length)(hs:l.length<=100000)(hm0:0<m)(hmp:m<=p)(hm:∃z,m<=z/\z<=p/\cnt (raw l (z-1))=true):
 Calls prog 96 #[RP rb,.int .i64 p] w λe w'=>e=.returned (.int .i64 (back l p m:Nat))/\w=w':=by
 obtain⟨a,cap,rfl⟩:=h.shape;obtain⟨z,hz1,hz2,hz3⟩:=hm;have H:=dY (λj x (hj:l[j]?=some x)=>iY h j x hj);have HC:=dY (λk=>ahj k w)
 have HB:=dY (λi (h1:z<=i)(h2:0<i)=>show back l i m=if cnt (raw l (i-1))=true then i else back l (i-1) m by
  obtain⟨i,rfl⟩:∃k,i=k+1:=⟨i-1,dS⟩
  rw[back,lW];by_cases e:cnt (raw l i)=true
  ·rw[dW (λh=>by rw[e]at h;exact absurd h.2 dU),dX e]
  ·rw[dW e];have hne:z≠i+1:=λh=>by rw[h,lW]at hz3;exact e hz3
   rw[dX ⟨dS,by simpa using e⟩])
 obtain⟨T,hT⟩:=eu (back l p m);rw[hT];obtain⟨HT,HZ⟩:=fw hT hz3;obtain⟨N,hN⟩:=eu (l.length);have HN:=dY hN;rw[hN]at hp hs hc;have hz0:0<z:=dS
 clear h hN hT hz3 hmp
 go_enter func96,ntmps96
 go_wp2_with fail
 go_loopw [1] (λiv wr=>∃k:Nat,iv=.int .i64 k/\k<=N/\z<=k/\Hid (back l k m=T)/\w=wr) (λiv _=>(intOf iv).toNat)
 case atStart=>exact⟨p,rfl,hp,hz2,HT,rfl⟩
 case round=>
  obtain⟨k,rfl,hk,hzk,qj,rfl⟩:=hrel;have hst:=HB.out k hzk dS;obtain⟨i,rfl⟩:∃i,k=i+1:=⟨k-1,dS⟩
  rw[lW]at hst;obtain⟨x,hx⟩:∃x,l[i]?=some x:=⟨_,fu mP⟩
  obtain⟨b,off,rfl,c0,-,-⟩:=H.out i x hx;have hr:=Fl.uU hx;obtain⟨K,hK⟩:=eu (x.1);rw[hK]at c0 hr;rw[hr]at hst;have hcl:=HC.out K
  have HZ2:=dY (fun(e:cnt K=false)=>show z<=i by
   have h1:=HZ.out;by_cases h2:z=i+1
   ·rw[h2,lW,hr,e]at h1;cases h1
   ·omega)
  have gw:IntKind.i64.wrap (((i+1:Nat):Int)-1)=(i:Int):=by
   rw[show((i+1:Nat):Int)-1=(i:Int)by omega];exact sj _ dS
  have gi:(i:Int)<(N:Int):=dS
  cases q:cnt K with
  |true=>
   exact aaK
  |false=>
   exact Z4
end
section
open Go.RowKit
open Sq
open Ar
def oh(x:Pr.Lv):List Value:=[.int .i64 x.kind,.int .i64 x.node,.int .i64 x.eT,.int .i64 x.cur,.bool x.full]
def qK:mW Pr.Lv:=⟨oh,5,dU,λ_=>rfl,λx u hu=>by
 cases hu with
 |head=>rfl
 |tail _ hu=>cases hu with
  |head=>rfl
  |tail _ hu=>cases hu with
   |head=>rfl
   |tail _ hu=>cases hu with
    |head=>rfl
    |tail _ hu=>cases hu with
     |head=>rfl
     |tail _ hu=>cases hu⟩
theorem tyL:Ty prog qK 56 91 40:=Ty.of (z:=.agg #[.int .i64 0,.int .i64 0,.int .i64 0,.int .i64 0,.bool false]) underlying56 dV dV rfl (λw=>dV)
structure Ctx where
 b:ByteArray
 l:List Tk
 rs:List Rw.R
 depth:Nat
 bv:Value
 tv:Value
 rv:Value
structure Mh(c:Ctx)(w:World):Prop where
 text:qR w c.bv c.b
 toks:Reads iQ w c.tv c.l
 rows:Reads encR w c.rv c.rs
 size:c.l.length<=32768
 rsz:c.rs.length<=32768
def jU(nv dv lv:Value)(L:List Ln)(g:Nat):Prop:=nv.ownBlock=some g\/dv.ownBlock=some g\/lv.ownBlock=some g\/∃p∈L,p.val.ownBlock=some g
abbrev jR(c:Ctx)(nv dv lv:Value)(row en:Nat):Array Value:=#[c.bv,c.tv,c.rv,.int .i64 (c.depth:Int),nv,dv,.int .i64 (row:Int),.int .i64 (en:Int),lv]
theorem bx0{w:World}{rb:Nat}{c:Ctx}{nv dv lv:Value}{row en:Nat}{T:TypeId}{fr:Nat×Nat}(h:w.heap[rb]?=some (.cells (jR c nv dv lv row en) T fr)):w.cell? ⟨rb,0,none⟩=some (c.bv):=(fq h 0).trans rfl
theorem bx1{w:World}{rb:Nat}{c:Ctx}{nv dv lv:Value}{row en:Nat}{T:TypeId}{fr:Nat×Nat}(h:w.heap[rb]?=some (.cells (jR c nv dv lv row en) T fr)):w.cell? ⟨rb,1,none⟩=some (c.tv):=(fq h 1).trans rfl
theorem bx2{w:World}{rb:Nat}{c:Ctx}{nv dv lv:Value}{row en:Nat}{T:TypeId}{fr:Nat×Nat}(h:w.heap[rb]?=some (.cells (jR c nv dv lv row en) T fr)):w.cell? ⟨rb,2,none⟩=some (c.rv):=(fq h 2).trans rfl
theorem bx3{w:World}{rb:Nat}{c:Ctx}{nv dv lv:Value}{row en:Nat}{T:TypeId}{fr:Nat×Nat}(h:w.heap[rb]?=some (.cells (jR c nv dv lv row en) T fr)):w.cell? ⟨rb,3,none⟩=some (.int .i64 (c.depth:Int)):=(fq h 3).trans rfl
theorem Jc{w:World}{rb:Nat}{c:Ctx}{nv dv lv:Value}{row en:Nat}{T:TypeId}{fr:Nat×Nat}(h:w.heap[rb]?=some (.cells (jR c nv dv lv row en) T fr)):w.cell? ⟨rb,4,none⟩=some (nv):=(fq h 4).trans rfl
theorem XD{w:World}{rb:Nat}{c:Ctx}{nv dv lv:Value}{row en:Nat}{T:TypeId}{fr:Nat×Nat}(h:w.heap[rb]?=some (.cells (jR c nv dv lv row en) T fr)):w.cell? ⟨rb,5,none⟩=some (dv):=(fq h 5).trans rfl
theorem bx6{w:World}{rb:Nat}{c:Ctx}{nv dv lv:Value}{row en:Nat}{T:TypeId}{fr:Nat×Nat}(h:w.heap[rb]?=some (.cells (jR c nv dv lv row en) T fr)):w.cell? ⟨rb,6,none⟩=some (.int .i64 (row:Int)):=(fq h 6).trans rfl
theorem bx7{w:World}{rb:Nat}{c:Ctx}{nv dv lv:Value}{row en:Nat}{T:TypeId}{fr:Nat×Nat}(h:w.heap[rb]?=some (.cells (jR c nv dv lv row en) T fr)):w.cell? ⟨rb,7,none⟩=some (.int .i64 (en:Int)):=(fq h 7).trans rfl
theorem bx8{w:World}{rb:Nat}{c:Ctx}{nv dv lv:Value}{row en:Nat}{T:TypeId}{fr:Nat×Nat}(h:w.heap[rb]?=some (.cells (jR c nv dv lv row en) T fr)):w.cell? ⟨rb,8,none⟩=some (lv):=(fq h 8).trans rfl
structure PM(w0 w:World)(rb:Nat)(c:Ctx)(nv dv lv:Value)(row en:Nat)(L:List Ln)(D:List Fl.Dg)(V:List Pr.Lv):Prop where
 kL:Below w0.heap.size w0 w
 ctx:Mh c w0
 low:w0.heap.size<=rb
 box:w.heap[rb]?=some (.cells (jR c nv dv lv row en) 58 (0,0))
 nodes:OT w w0.heap.size nv L
 told:w.ownsRow w0.heap.size 40 3 dv D.length (fK.all D)
 levels:w.ownsRow w0.heap.size 91 5 lv V.length (qK.all V)
section
variable {w0 w w':World}{rb:Nat}{c:Ctx}{nv dv lv:Value}{row en:Nat}{L:List Ln}{D:List Fl.Dg}{V:List Pr.Lv}
theorem PM.lt(h:PM w0 w rb c nv dv lv row en L D V):rb<w.heap.size:=gK h.box
theorem PM.cell(h:PM w0 w rb c nv dv lv row en L D V)(i:Nat)(u:Value)(hu:(jR c nv dv lv row en)[i]?=some u):w.cell? ⟨rb,i,none⟩=some u:=(fq h.box i).trans hu
theorem PM.free(h:PM w0 w rb c nv dv lv row en L D V)(o:Nat):w.frozen? ⟨rb,o,none⟩=false:=qc h.box o
theorem PM.size(h:PM w0 w rb c nv dv lv row en L D V):w0.heap.size<=w.heap.size:=h.kL.size
theorem PM.rows(h:PM w0 w rb c nv dv lv row en L D V){g:Nat}(hg:jU nv dv lv L g):w0.heap.size<=g/\g<w.heap.size/\g≠rb:=by
 rcases hg with hg|hg|hg|⟨p,hp,hg⟩
 ·exact Zm
 ·exact Zr
 ·exact⟨(h.levels.lt g hg).1,(h.levels.lt g hg).2,λe=>eU h.levels h.box dU (e▸hg)⟩
 ·obtain⟨i,hi⟩:=jy hp;have hk:=h.nodes.kids i p hi;exact⟨(hk.lt g hg).1,(hk.lt g hg).2,λe=>eU hk h.box dU (e▸hg)⟩
theorem PM.off(h:PM w0 w rb c nv dv lv row en L D V){k:Nat}{C:Array Value}{T:TypeId}{fr:Nat×Nat}(hb:w.heap[k]?=some (.cells C T fr))(h1:3≠T)(h2:38≠T)(h3:40≠T)(h4:91≠T):¬jU nv dv lv L k:=λhg=>by
 rcases hg with hg|hg|hg|⟨p,hp,hg⟩
 ·exact eU h.nodes.row hb h2 hg
 ·exact eU h.told hb h3 hg
 ·exact eU h.levels hb h4 hg
 ·obtain⟨i,hi⟩:=jy hp;exact eU (h.nodes.kids i p hi) hb h1 hg
theorem OT.same{B:Nat}{v:Value}(h:OT w B v L)(hk:∀g,(v.ownBlock=some g\/∃p∈L,p.val.ownBlock=some g)->w'.heap[g]?=w.heap[g]?):OT w' B v L:=
 ⟨fE h.row (λg hg=>hk g (.inl hg)),λi p hp=>fE (h.kids i p hp) (λg hg=>hk g (.inr ⟨p,gW hp,hg⟩)),h.apart⟩
theorem PM.keep(h:PM w0 w rb c nv dv lv row en L D V)(hb:Below w0.heap.size w0 w')(hk:∀g,g=rb\/jU nv dv lv L g->w'.heap[g]?=w.heap[g]?):PM w0 w' rb c nv dv lv row en L D V:=
 ⟨hb,h.ctx,h.low,(hk rb (.inl rfl)).trans h.box,h.nodes.same (λg hg=>hk g (.inr (hg.elim .inl (λx=>.inr (.inr (.inr x)))))),
  fE h.told (λg hg=>hk g (.inr (.inr (.inl hg)))),fE h.levels (λg hg=>hk g (.inr (.inr (.inr (.inl hg)))))⟩
theorem PM.below(h:PM w0 w rb c nv dv lv row en L D V)(hb:Below w.heap.size w w'):PM w0 w' rb c nv dv lv row en L D V:=
 h.keep (h.kL.trans (hb.mono h.kL.size)) (λg hg=>hb.block g (hg.elim (λe=>e▸h.lt) (λh2=>(h.rows h2).2.1)))
theorem PM.store(h:PM w0 w rb c nv dv lv row en L D V){b:Nat}(h0:w0.heap.size<=b)(hr:b≠rb)(hn:¬jU nv dv lv L b)(o:Nat)(u:Value):PM w0 (w.setCell ⟨b,o,none⟩ u) rb c nv dv lv row en L D V:=
 h.keep (h.kL.setCell (p:=⟨b,o,none⟩) h0 u) (λg hg=>jo _ _ _ _ (λe=>hg.elim (λh2=>hr (e.symm.trans h2)) (λh2=>hn ((show g=b from e)▸h2))))
theorem PM.toCell{C:Array Value}{i:Nat}{u:Value}(hb:Below w0.heap.size w0 w')(hc:Mh c w0)(hlow:w0.heap.size<=rb)(hx:w'.heap[rb]?=some (.cells C 58 (0,0)))(hC:C.setIfInBounds i u=jR c nv dv lv row en)
 (hO:OT w' w0.heap.size nv L) (hT:w'.ownsRow w0.heap.size 40 3 dv D.length (fK.all D)) (hL:w'.ownsRow w0.heap.size 91 5 lv V.length (qK.all V)):
 PM w0 (w'.setCell ⟨rb,i,none⟩ u) rb c nv dv lv row en L D V:=by
 have st:∀g,g≠rb->(w'.setCell ⟨rb,i,none⟩ u).heap[g]?=w'.heap[g]?:=λg hg=>jo _ _ _ _ hg
 refine⟨hb.setCell (p:=⟨rb,i,none⟩) hlow _,hc,hlow,?_,hO.same (λg hg=>st g (λe=>?_)),fE hT (λg hg=>st g (λe=>eU hT hx dU (e▸hg))),fE hL (λg hg=>st g (λe=>eU hL hx dU (e▸hg)))⟩
 ·rw[<-hC];exact sw hx u
 ·rcases hg with hg|⟨p,hp,hg⟩
  ·exact eU hO.row hx dU (e▸hg)
  ·obtain⟨j,hj⟩:=jy hp;exact eU (hO.kids j p hj) hx dU (e▸hg)
theorem nD{B e s n:Nat}{v x:Value}{xs:List Value}{wq w6:World}(h:w.ownsRow B e s v n xs)(hq:Below w.heap.size w wq)(hg:wq.grownBy w6 x.ownBlock)(hne:∀g,v.ownBlock=some g->x.ownBlock≠some g):w6.ownsRow B e s v n xs:=
 fE h (λg hgv=>(hg.block g (zx (h.lt g hgv).2 hq.size) (λe=>hne g hgv e.symm)).trans (hq.block g (h.lt g hgv).2))
theorem OT.over{B:Nat}{v x:Value}{wq w6:World}(h:OT w B v L)(hq:Below w.heap.size w wq)(hg:wq.grownBy w6 x.ownBlock)(hne:∀g,(v.ownBlock=some g\/∃p∈L,p.val.ownBlock=some g)->x.ownBlock≠some g):OT w6 B v L:=
 ⟨nD h.row hq hg (λg e=>hne g (.inl e)),λi p hp=>nD (h.kids i p hp) hq hg (λg e=>hne g (.inr ⟨p,gW hp,e⟩)),h.apart⟩
end
structure Tr(t:List Nd):Prop where
 up:∀(i:Nat)(x:Nd),0<i->t[i]?=some x->0<=x.u/\x.u<i
 kb:∀x∈t,x.ks.length<=t.length
def fF(w0 w:World)(rb:Nat)(c:Ctx)(q:Pr.QS)(lv:Value)(R:Nat->Prop):Prop:=
 ∃nv dv L,PM w0 w rb c nv dv lv q.row q.en L q.s.d q.st.reverse/\L.map Ln.nd=q.s.t/\Tr q.s.t/\R=jU nv dv lv L
section
variable {w0 w w':World}{rb:Nat}{c:Ctx}{q:Pr.QS}{lv:Value}{R:Nat->Prop}
theorem fF.below(h:fF w0 w rb c q lv R)(hb:Below w.heap.size w w'):fF w0 w' rb c q lv R:=by
 obtain⟨nv,dv,L,h1,h2⟩:=h;exact⟨nv,dv,L,h1.below hb,h2⟩
theorem fF.kL(h:fF w0 w rb c q lv R):Below w0.heap.size w0 w:=by
 obtain⟨nv,dv,L,h1,h2⟩:=h;exact h1.kL
theorem fF.lt(h:fF w0 w rb c q lv R):w0.heap.size<=rb/\rb<w.heap.size:=by
 obtain⟨nv,dv,L,h1,h2⟩:=h;exact⟨h1.low,h1.lt⟩
theorem fF.ctx(h:fF w0 w rb c q lv R):Mh c w0:=by
 obtain⟨nv,dv,L,h1,h2⟩:=h;exact h1.ctx
theorem fF.rows(h:fF w0 w rb c q lv R){g:Nat}(hg:R g):w0.heap.size<=g/\g<w.heap.size/\g≠rb:=by
 obtain⟨nv,dv,L,h1,h2,h3,rfl⟩:=h;exact h1.rows hg
theorem fF.off(h:fF w0 w rb c q lv R){k:Nat}{C:Array Value}{T:TypeId}{fr:Nat×Nat}(hb:w.heap[k]?=some (.cells C T fr))(h1:3≠T)(h2:38≠T)(h3:40≠T)(h4:91≠T):¬R k:=by
 obtain⟨nv,dv,L,g1,g2,g3,rfl⟩:=h;exact g1.off hb h1 h2 h3 h4
theorem fF.tok(h:fF w0 w rb c q lv R):w.cell? ⟨rb,1,none⟩=some c.tv/\Reads iQ w c.tv c.l/\c.l.length<=100000:=by
 obtain⟨nv,dv,L,h1,h2⟩:=h;exact⟨h1.cell 1 _ rfl,h1.ctx.toks.below h1.kL,by have:=h1.ctx.size;omega⟩
end
def nW(w0 w:World)(rb:Nat)(c:Ctx)(lv:Value)(R:Nat->Prop)(v:Value)(q:Pr.QS)(e:Ending)(w':World):Prop:=
 e=.returned v/\∃R',fF w0 w' rb c q lv R'/\FP w w' rb R R'
def tV(w0 w:World)(rb:Nat)(c:Ctx)(R:Nat->Prop)(v:Value)(q:Pr.QS)(e:Ending)(w':World):Prop:=
 e=.returned v/\∃lv' R',fF w0 w' rb c q lv' R'/\FP w w' rb R R'
end
section
open Go.RowKit
open Sq
open Ar
section
variable {w0 w wq w6:World}{rb:Nat}{c:Ctx}{nv dv lv v6:Value}{row en:Nat}{L:List Ln}{D:List Fl.Dg}{V:List Pr.Lv}
theorem xP{x:Value}{R R':Nat->Prop}(hq:Below w.heap.size w wq)(hg:wq.grownBy w6 x.ownBlock)(hx:∀g,x.ownBlock=some g->R g)(hR:∀k,R' k->R k\/w.heap.size<=k){b:Nat}(hb:b=rb\/R b)(i:Nat)(u:Value):FP w (w6.setCell ⟨b,i,none⟩ u) rb R R':=by
 refine⟨?_,λk hk1 hk2 hn=>?_,hR⟩
 ·have h1:=hg.size;have h2:=hq.size;have h3:(w6.setCell ⟨b,i,none⟩ u).heap.size=w6.heap.size:=by simp
  omega
 ·have hkb:k≠b:=λe=>hb.elim (λh=>hk2 (e.trans h)) (λh=>hn (e▸h))
  rw[jo _ _ _ _ hkb,hg.block k (zx hk1 hq.size) (λe=>hn (hx k e.symm)),hq.block k hk1]
theorem CY{x:Value}{B e s n:Nat}{xs:List Value}(h:PM w0 w rb c nv dv lv row en L D V)(hx:w.ownsRow B e s x n xs)(he:e≠58)(hq:Below w.heap.size w wq)(hg:wq.grownBy w6 x.ownBlock):w6.heap[rb]?=some (.cells (jR c nv dv lv row en) 58 (0,0)):=
 ((hg.block rb (zx h.lt hq.size) (λe'=>eU hx h.box he e'.symm)).trans (hq.block rb h.lt)).trans h.box
theorem Ab{x:Value}{B e s n:Nat}{xs:List Value}(h:PM w0 w rb c nv dv lv row en L D V)(hx:w.ownsRow w0.heap.size e s x n xs)(hq:Below w.heap.size w wq)(hg:wq.grownBy w6 x.ownBlock):Below w0.heap.size w0 w6:=
 (h.kL.trans (hq.mono h.size)).grown hg (iU h.size hq.size) (λg e=>(hx.lt g e).1)
theorem PM.more{xs:List Fl.Dg}(h:PM w0 w rb c nv dv lv row en L D V)(hq:Below w.heap.size w wq)(hg:wq.grownBy w6 dv.ownBlock)(hown:w6.ownsRow w0.heap.size 40 3 v6 (D++xs).length (fK.all (D++xs)))
 (hat:v6.ownBlock=dv.ownBlock\/v6.ownBlock=some wq.heap.size):
 w6.heap[rb]?=some (.cells (jR c nv dv lv row en) 58 (0,0))/\
 PM w0 (w6.setCell ⟨rb,5,none⟩ v6) rb c nv v6 lv row en L (D++xs) V/\FP w (w6.setCell ⟨rb,5,none⟩ v6) rb (jU nv dv lv L) (jU nv v6 lv L):=by
 have hb:=CY h h.told dU hq hg;refine⟨hb,PM.toCell (Ab (B:=w0.heap.size) h h.told hq hg) h.ctx h.low hb rfl (h.nodes.over hq hg (λg hgg e=>?_)) hown (nD h.levels hq hg (λg e1 e2=>eX h.levels h.told dU g e1 e2)),xP hq hg (λg e=>.inr (.inl e)) (λk hk=>?_) (.inl rfl) 5 v6⟩
 ·rcases hgg with hgg|⟨p,hp,hgg⟩
  ·exact eX h.nodes.row h.told dU g hgg e
  ·obtain⟨j,hj⟩:=jy hp;exact eX (h.nodes.kids j p hj) h.told dU g hgg e
 ·rcases hk with hk|hk|hk|hk
  ·exact wH
  ·rcases hat with e|e
   ·exact .inl (.inr (.inl (e▸hk)))
   ·rw[e]at hk;injection hk with hk
    have:=hq.size;exact .inr dS
  ·exact .inl (.inr (.inr (.inl hk)))
  ·exact Ec
theorem PM.lev{xs:List Pr.Lv}(h:PM w0 w rb c nv dv lv row en L D V)(hq:Below w.heap.size w wq)(hg:wq.grownBy w6 lv.ownBlock)(hown:w6.ownsRow w0.heap.size 91 5 v6 (V++xs).length (qK.all (V++xs)))
 (hat:v6.ownBlock=lv.ownBlock\/v6.ownBlock=some wq.heap.size):
 w6.heap[rb]?=some (.cells (jR c nv dv lv row en) 58 (0,0))/\
 PM w0 (w6.setCell ⟨rb,8,none⟩ v6) rb c nv dv v6 row en L D (V++xs)/\FP w (w6.setCell ⟨rb,8,none⟩ v6) rb (jU nv dv lv L) (jU nv dv v6 L):=by
 have hb:=CY h h.levels dU hq hg;refine⟨hb,PM.toCell (Ab (B:=w0.heap.size) h h.levels hq hg) h.ctx h.low hb rfl (h.nodes.over hq hg (λg hgg e=>?_)) (nD h.told hq hg (λg e1 e2=>eX h.told h.levels dU g e1 e2)) hown,xP hq hg (λg e=>.inr (.inr (.inl e))) (λk hk=>?_) (.inl rfl) 8 v6⟩
 ·rcases hgg with hgg|⟨p,hp,hgg⟩
  ·exact eX h.nodes.row h.levels dU g hgg e
  ·obtain⟨j,hj⟩:=jy hp;exact eX (h.nodes.kids j p hj) h.levels dU g hgg e
 ·rcases hk with hk|hk|hk|hk
  ·exact wH
  ·exact yV
  ·rcases hat with e|e
   ·exact .inl (.inr (.inr (.inl (e▸hk))))
   ·rw[e]at hk;injection hk with hk
    have:=hq.size;exact .inr dS
  ·exact Ec
structure Own(w:World)(B:Nat)(L P:List Ln):Prop where
 kids:∀(i:Nat)(p:Ln),P[i]?=some p->w.ownsRow B 3 1 p.val p.nd.ks.length (encI.all p.nd.ks)
 apart:∀(i j:Nat)(p q:Ln),i≠j->P[i]?=some p->P[j]?=some q->∀g,p.val.ownBlock=some g->q.val.ownBlock≠some g
 off:∀p∈P,∀q∈L,∀g,p.val.ownBlock=some g->q.val.ownBlock≠some g
theorem Own.one(w:World)(B:Nat)(L:List Ln)(x:Nd)(hx:x.ks=[]):Own w B L [⟨x,none,0,0⟩]:=by
 refine⟨λi p hp=>?_,λi j p q hij hp hq=>?_,λp hp q hq g hg=>?_⟩
 ·have hp:p=⟨x,none,0,0⟩:=by simpa using gW hp
  subst hp;show World.ownsRow _ _ _ _ (.slice none 0 0) x.ks.length (encI.all x.ks);rw[hx];exact kX encI _ _
 ·have hp:p=⟨x,none,0,0⟩:=by simpa using gW hp
  subst hp;intro g hg;cases hg
 ·have hp:p=⟨x,none,0,0⟩:=by simpa using hp
  subst hp;cases hg
theorem PM.push{P:List Ln}(h:PM w0 w rb c nv dv lv row en L D V)(hP:Own w w0.heap.size L P)(hq:Below w.heap.size w wq)(hg:wq.grownBy w6 nv.ownBlock)(hown:w6.ownsRow w0.heap.size 38 6 v6 (L++P).length (fZ.all (L++P)))
 (hat:v6.ownBlock=nv.ownBlock\/v6.ownBlock=some wq.heap.size):
 w6.heap[rb]?=some (.cells (jR c nv dv lv row en) 58 (0,0))/\
 PM w0 (w6.setCell ⟨rb,4,none⟩ v6) rb c v6 dv lv row en (L++P) D V/\FP w (w6.setCell ⟨rb,4,none⟩ v6) rb (λk=>jU nv dv lv L k\/∃p∈P,p.val.ownBlock=some k) (jU v6 dv lv (L++P)):=by
 have hb:=CY h h.nodes.row dU hq hg;have key:∀(a:Nat)(q:Ln),(L++P)[a]?=some q->(a<L.length/\L[a]?=some q)\/(L.length<=a/\P[a-L.length]?=some q):=by
  intro a q hq;rcases mD a L.length with hj|hj
  ·rw[nK hj]at hq;exact .inl ⟨hj,hq⟩
  ·rw[oH hj]at hq;exact .inr ⟨hj,hq⟩
 have hO:OT w6 w0.heap.size v6 (L++P):=by
  refine⟨hown,λa q hq'=>?_,λa b q r hab hq' hr g aa=>?_⟩
  ·rcases key a q hq' with⟨_,h1⟩|⟨_,h1⟩
   ·exact nD (h.nodes.kids a q h1) hq hg (λg e1 e2=>eX (h.nodes.kids a q h1) h.nodes.row dU g e1 e2)
   ·exact nD (hP.kids _ q h1) hq hg (λg e1 e2=>eX (hP.kids _ q h1) h.nodes.row dU g e1 e2)
  ·rcases key a q hq' with⟨ha,h1⟩|⟨ha,h1⟩
   ·rcases key b r hr with⟨hb',h2⟩|⟨hb',h2⟩
    ·exact h.nodes.apart a b q r hab h1 h2 g aa
    ·exact λe=>hP.off r (gW h2) q (gW h1) g e aa
   ·rcases key b r hr with⟨hb',h2⟩|⟨hb',h2⟩
    ·exact hP.off q (gW h1) r (gW h2) g aa
    ·exact hP.apart _ _ q r dS h1 h2 g aa
 refine⟨hb,PM.toCell (Ab (B:=w0.heap.size) h h.nodes.row hq hg) h.ctx h.low hb rfl hO (nD h.told hq hg (λg e1 e2=>eX h.told h.nodes.row dU g e1 e2)) (nD h.levels hq hg (λg e1 e2=>eX h.levels h.nodes.row dU g e1 e2)),xP hq hg (λg e=>.inl (.inl e)) (λk hk=>?_) (.inl rfl) 4 v6⟩;rcases hk with hk|hk|hk|⟨q,hq',hk⟩
 ·rcases hat with e|e
  ·exact .inl (.inl (.inl (e▸hk)))
  ·rw[e]at hk;injection hk with hk
   have:=hq.size;exact .inr dS
 ·exact .inl (.inl (.inr (.inl hk)))
 ·exact .inl (.inl (.inr (.inr (.inl hk))))
 ·rcases kC.1 hq' with hq'|hq'
  ·exact .inl (.inl (.inr (.inr (.inr ⟨q,hq',hk⟩))))
  ·exact .inl (.inr ⟨q,hq',hk⟩)
theorem FP.less{a b:World}{R R' K:Nat->Prop}(h:FP a b rb (λk=>R k\/K k) R')(hK:∀k,K k->R k\/a.heap.size<=k):FP a b rb R R' :=
 ⟨h.size,λk hk hr hn=>h.block k hk hr (λe=>e.elim hn (λe=>(hK k e).elim hn (λe=>absurd hk (aeD.2 e)))),λk hk=>(h.rows k hk).elim (λe=>e.elim .inl (hK k)) .inr⟩
theorem PM.setNode{g n cap:Nat}(h:PM w0 w rb c (.slice (some ⟨g,0,none⟩) n cap) dv lv row en L D V)(i j:Nat)(p:Ln)(nd:Nd)(u:Value)(hp:L[i]?=some p)(hks:nd.ks=p.nd.ks)(hc:l8 {p with nd:=nd}=(l8 p).set j u)(hj:j<6):
 PM w0 (w.setCell ⟨g,i*6+j,none⟩ u) rb c (.slice (some ⟨g,0,none⟩) n cap) dv lv row en (L.set i {p with nd:=nd}) D V/\
 FP w (w.setCell ⟨g,i*6+j,none⟩ u) rb (jU (.slice (some ⟨g,0,none⟩) n cap) dv lv L) (jU (.slice (some ⟨g,0,none⟩) n cap) dv lv (L.set i {p with nd:=nd})):=by
 have hg:jU (.slice (some ⟨g,0,none⟩) n cap) dv lv L g:=.inl rfl;have hr:=h.rows hg;have st:∀k,k≠g->(w.setCell ⟨g,i*6+j,none⟩ u).heap[k]?=w.heap[k]?:=λk hk=>jo _ _ _ _ hk
 refine⟨⟨h.kL.setCell (p:=⟨g,i*6+j,none⟩) hr.1 u,h.ctx,h.low,(st rb (λe=>hr.2.2 e.symm)).trans h.box,h.nodes.set i j p nd u hp hks hc hj,fE h.told (λk hk=>st k (λe=>eX h.nodes.row h.told dU g rfl (e▸hk))),fE h.levels (λk hk=>st k (λe=>eX h.nodes.row h.levels dU g rfl (e▸hk)))⟩,
  xP (w6:=w) (fD _ _) (x:=.slice none 0 0) ⟨rfl,rfl,rfl,eO _,λ_ _ _=>rfl⟩ (λg e=>uP) (λk hk=>.inl ?_) (.inr hg) (i*6+j) u⟩
 rcases hk with hk|hk|hk|⟨q,hq,hk⟩
 ·exact .inl hk
 ·exact .inr (.inl hk)
 ·exact .inr (.inr (.inl hk))
 ·obtain⟨a,ha⟩:=jy hq;rw[oI]at ha;split at ha
  ·split at ha
   ·injection ha with ha
    subst ha;exact .inr (.inr (.inr ⟨p,gW hp,hk⟩))
   ·cases ha
  ·exact .inr (.inr (.inr ⟨q,gW ha,hk⟩))
theorem PM.kid{o:Obj}{g n cap i:Nat}{p:Ln}{a':Option Addr}{n' c':Nat}(h:PM w0 w rb c (.slice (some ⟨g,0,none⟩) n cap) dv lv row en L D V)(hp:L[i]?=some p)(z:Int)(hg:(w.alloc o).grownBy w6 p.val.ownBlock)
 (hown:w6.ownsRow w0.heap.size 3 1 (.slice a' n' c') (p.nd.ks++[z]).length (encI.all (p.nd.ks++[z]))) (hat:(Value.slice a' n' c').ownBlock=p.val.ownBlock\/(Value.slice a' n' c').ownBlock=some (w.alloc o).heap.size):
 w6.heap[rb]?=w.heap[rb]?/\w6.heap[g]?=w.heap[g]? /\
 PM w0 (w6.setCell ⟨g,i*6+4,none⟩ (.slice a' n' c')) rb c (.slice (some ⟨g,0,none⟩) n cap) dv lv row en (L.set i ⟨{p.nd with ks:=p.nd.ks++[z]},a',n',c'⟩) D V/\
 FP w (w6.setCell ⟨g,i*6+4,none⟩ (.slice a' n' c')) rb (jU (.slice (some ⟨g,0,none⟩) n cap) dv lv L) (jU (.slice (some ⟨g,0,none⟩) n cap) dv lv (L.set i ⟨{p.nd with ks:=p.nd.ks++[z]},a',n',c'⟩)):=by
 have hq:Below w.heap.size w (w.alloc o):=dZ w o;have hpk:=h.nodes.kids i p hp;have hgR:jU (.slice (some ⟨g,0,none⟩) n cap) dv lv L g:=.inl rfl;have hgr:=h.rows hgR;have aa:p.val.ownBlock≠some g:=λe=>eX hpk h.nodes.row dU g e rfl
 have hbx:=CY h hpk dU hq hg;have b2:w6.heap[g]?=w.heap[g]?:=(hg.block g (zx hgr.2.1 hq.size) (λe=>aa e.symm)).trans (hq.block g hgr.2.1);have st:∀k,k≠g->(w6.setCell ⟨g,i*6+4,none⟩ (.slice a' n' c')).heap[k]?=w6.heap[k]?:=λk hk=>jo _ _ _ _ hk
 have hb6:=Ab (B:=w0.heap.size) h hpk hq hg;have hT:=nD h.told hq hg (λg' e1 e2=>eX h.told hpk dU g' e1 e2);have hV:=nD h.levels hq hg (λg' e1 e2=>eX h.levels hpk dU g' e1 e2)
 refine⟨hbx.trans h.box.symm,b2,⟨hb6.setCell (p:=⟨g,i*6+4,none⟩) hgr.1 _,h.ctx,h.low,(st rb (λe=>hgr.2.2 e.symm)).trans hbx,h.nodes.kid hp z hg hown hat,fE hT (λk hk=>st k (λe=>eX h.nodes.row h.told dU g rfl (e▸hk))),fE hV (λk hk=>st k (λe=>eX h.nodes.row h.levels dU g rfl (e▸hk)))⟩,
  xP hq hg (λg' e=>.inr (.inr (.inr ⟨p,gW hp,e⟩))) (λk hk=>?_) (.inr hgR) (i*6+4) _⟩
 rcases hk with hk|hk|hk|⟨q,hq',hk⟩
 ·exact wH
 ·exact yV
 ·exact .inl (.inr (.inr (.inl hk)))
 ·obtain⟨j,hj⟩:=jy hq';rw[oI]at hj;split at hj
  ·split at hj
   ·injection hj with hj
    subst hj;rcases hat with e|e
    ·exact .inl (.inr (.inr (.inr ⟨p,gW hp,e▸hk⟩)))
    ·have hk:(Value.slice a' n' c').ownBlock=some k:=hk;rw[e]at hk;injection hk with hk
     have:=hq.size;exact .inr dS
   ·cases hj
  ·exact .inl (.inr (.inr (.inr ⟨q,gW hj,hk⟩)))
end
end
section
open Go.RowKit
open Sq
open Ar
theorem Mi(w0 w:World)(rb:Nat)(c:Ctx)(q:Pr.QS)(lv:Value)(R:Nat->Prop)(code f t:Nat)(hS:fF w0 w rb c q lv R)(hn:q.s.d.length<=1000000000000):
 Calls prog 43 #[RP rb,.int .i64 code,.int .i64 f,.int .i64 t] w (nW w0 w rb c lv R (.tuple #[]) {q with s:=⟨q.s.t,q.s.d++[⟨code,f,t⟩]⟩}):=by
 obtain⟨nv,dv,L,hM,hL,hTr,rfl⟩:=hS;obtain⟨da,dc,hdv⟩:=(Reads.fo (E:=fK) hM.told).shape;subst hdv
 have HQ:=dY (λW v6 (h:PM w0 W rb c nv v6 lv q.row q.en L (q.s.d++[⟨code,f,t⟩]) q.st.reverse/\FP w W rb (jU nv (.slice da q.s.d.length dc) lv L) (jU nv v6 lv L))=>show nW w0 w rb c lv (jU nv (.slice da q.s.d.length dc) lv L) (.tuple #[]) {q with s:=⟨q.s.t,q.s.d++[⟨code,f,t⟩]⟩} (.returned (.tuple #[])) W from
  ⟨rfl,_,⟨_,_,_,h.1,hL,hTr,rfl⟩,h.2⟩)
 obtain⟨Q,hQ⟩:=eu (nW w0 w rb c lv (jU nv (.slice da q.s.d.length dc) lv L) (.tuple #[]) {q with s:=⟨q.s.t,q.s.d++[⟨code,f,t⟩]⟩});rw[hQ]at HQ⊢;have c5:=XD hM.box;obtain⟨D,hD⟩:=eu (q.s.d);rw[hD]at hM HQ hn c5;have HM:=dY hM;have aa:=dY (λo=>show(w.alloc o).ownsRow w0.heap.size 40 fK.k (.slice da D.length dc) D.length (fK.all D)from hM.told.alloc o);have aj:=dY (show D.length+([(⟨code,f,t⟩:Fl.Dg)]).length<=maxLen by simp only[maxLen,akf];omega);have ak:=dY (show(D.length+([(⟨code,f,t⟩:Fl.Dg)]).length)*24<=140737488355328 by simp only[akf];omega);have av:=dY (zf (E:=fK) w (⟨code,f,t⟩:Fl.Dg) [.int .i64 code,.int .i64 f,.int .i64 t] 40 rfl);have hws:∀o,w0.heap.size<=(w.alloc o).heap.size:=λo=>iU hM.size (dZ w o).size
 have ax:=dY hws;obtain⟨N,hN⟩:=eu (D.length);have HN:=dY hN;rw[hN]at c5 HM HQ aa;clear hM hL hTr hQ hD hn hws hN
 go_enter func43,ntmps43
 go_wp2_with (at_builtin;go_must (refine lS tyD rfl (.tmp 12) (.tmp 17) rfl w0.heap.size _ D rfl (by rw[HN.out];exact aa.out _) _ [(⟨code,f,t⟩:Fl.Dg)] rfl av.out aj.out ak.out (ax.out _) ?_;intro v6 w6 hown6 af ae;obtain⟨a6,c6,hv6⟩:=(Reads.fo (E:=fK) hown6).shape;obtain⟨n6,ag⟩:∃n6,(D++[(⟨code,f,t⟩:Fl.Dg)]).length=n6:=⟨_,rfl⟩;rw[ag]at hv6;clear ag;subst hv6;obtain⟨hb6,ah,ai⟩:=HM.out.more (dZ w _) af hown6 ae;have c56:=XD hb6;have f56:=qc hb6 5;have HD:=dY (HQ.out _ _ ⟨ah,ai⟩);clear hown6 af ae hb6 ah ai))
 go_end0
 exact HD.out
theorem acF{L:List Ln}{k:Nat}{p:Ln}(hp:L[k]?=some p)(z:Int):(L.set k {p with nd:={p.nd with t:=max p.nd.t z}}).map Ln.nd=(L.map Ln.nd).set k {p.nd with t:=max p.nd.t z}:=by rw[Gj]
theorem abr(w0 w:World)(rb:Nat)(c:Ctx)(nv dv lv:Value)(row en:Nat)(L:List Ln)(D:List Fl.Dg)(V:List Pr.Lv)(k jC:Nat)(h:PM w0 w rb c nv dv lv row en L D V)(hk:k<L.length)(hu:∀(i:Nat)(x:Nd),0<i->(L.map Ln.nd)[i]?=some x->0<=x.u/\x.u<i):
 Calls prog 62 #[RP rb,.int .i64 k,.int .i64 jC] w λe w'=>e=.returned (.tuple #[])/\∃L',PM w0 w' rb c nv dv lv row en L' D V/\L'.map Ln.nd=Pr.reach (L.map Ln.nd) k jC/\FP w w' rb (jU nv dv lv L) (jU nv dv lv L'):=by
 obtain⟨g,cap,rfl,-,-,-,-⟩:=jf h.nodes.row dS;obtain⟨F,hF⟩:=eu (Pr.reach (L.map Ln.nd) k jC);rw[hF];have HQ:=dY (λW (h:∃L',PM w0 W rb c (.slice (some ⟨g,0,none⟩) L.length cap) dv lv row en L' D V/\L'.map Ln.nd=F/\FP w W rb (jU (.slice (some ⟨g,0,none⟩) L.length cap) dv lv L) (jU (.slice (some ⟨g,0,none⟩) L.length cap) dv lv L'))=>show(λe w'=>e=Ending.returned (.tuple #[])/\∃L',PM w0 w' rb c (.slice (some ⟨g,0,none⟩) L.length cap) dv lv row en L' D V/\L'.map Ln.nd=F/\FP w w' rb (jU (.slice (some ⟨g,0,none⟩) L.length cap) dv lv L) (jU (.slice (some ⟨g,0,none⟩) L.length cap) dv lv L')) (.returned (.tuple #[])) W from⟨rfl,h⟩);obtain⟨Q,hQ⟩:=eu ((λe w'=>e=Ending.returned (.tuple #[])/\∃L',PM w0 w' rb c (.slice (some ⟨g,0,none⟩) L.length cap) dv lv row en L' D V/\L'.map Ln.nd=F/\FP w w' rb (jU (.slice (some ⟨g,0,none⟩) L.length cap) dv lv L) (jU (.slice (some ⟨g,0,none⟩) L.length cap) dv lv L')));rw[hQ]at HQ⊢;obtain⟨N,hN⟩:=eu (L.length);rw[hN]at h hk HQ;obtain⟨R0,hR0⟩:=eu (jU (.slice (some ⟨g,0,none⟩) N cap) dv lv L);rw[hR0]at HQ;have hF:Pr.iO (k+1) (L.map Ln.nd) k jC=F:=hF;obtain⟨H0,ag,ah,ai⟩:=oK h hu hF hN;have aa:=dY (show FP w w rb R0 (jU (.slice (some ⟨g,0,none⟩) N cap) dv lv L)by rw[hR0];exact FP.refl _ _ _);clear h hu hF hN hQ hR0
 go_enter func62,ntmps62
 go_wp2_with fail
 go_loopw [1] (λkv wr=>∃(k:Nat)(L:List Ln),kv=.int .i64 k/\k<N/\Hid (PM w0 wr rb c (.slice (some ⟨g,0,none⟩) N cap) dv lv row en L D V)/\Hid (∀(i:Nat)(x:Nd),0<i->(L.map Ln.nd)[i]?=some x->0<=x.u/\x.u<i)/\Hid (Pr.iO (k+1) (L.map Ln.nd) k jC=F)/\Hid (L.length=N)/\Hid (FP w wr rb R0 (jU (.slice (some ⟨g,0,none⟩) N cap) dv lv L))) (λkv _=>(intOf kv).toNat)
 case atStart=>exact⟨k,L,rfl,hk,H0,ag,ah,ai,aa⟩
 case round=>
  clear hk H0 ag ah ai aa;obtain⟨k,L,rfl,hk,HM,HU,HF,HN,ae⟩:=hrel;by_cases h0:k=0
  ·subst h0;have hF:=HF.out;rw[Pr.iO,dX rfl]at hF;have HD:=dY (HQ.out wr ⟨L,HM.out,hF,ae.out⟩);clear hF hk;go_wp2_with fail
   go_end0
   exact HD.out
  ·obtain⟨p,hp⟩:∃p,L[k]?=some p:=⟨_,fu (by rw[HN.out];exact hk)⟩
   have hx:(L.map Ln.nd)[k]?=some p.nd:=by rw[kS,hp];rfl
   obtain⟨hu1,hu2⟩:=HU.out k p.nd dS hx;have hF:=HF.out;rw[Pr.iO,dW h0,hx]at hF;dsimp only at hF;have hrow:=HM.out.nodes.row;have c4:=Jc HM.out.box;have c2:wr.cell? ⟨g,k*6+2,none⟩=some (.int .i64 p.nd.t):=by
    have:=hrow.cells (g:=g) rfl _ _ ((iJ fZ L k p hp 2 dU).trans rfl);rw[fT,jY]at this;exact this
   have c3:wr.cell? ⟨g,k*6+3,none⟩=some (.int .i64 p.nd.u):=by
    have:=hrow.cells (g:=g) rfl _ _ ((iJ fZ L k p hp 3 dU).trans rfl);rw[fT,jY]at this;exact this
   obtain⟨g',cap',hv,-,hfz,-,-⟩:=jf hrow mP;have e1:=(lX hv).1;injection e1 with e1
   injection e1 with e1
   subst e1;have f2:=hfz (k*6+2);obtain⟨hM2,hF2⟩:=HM.out.setNode k 2 p {p.nd with t:=max p.nd.t (jC:Int)} (.int .i64 (max p.nd.t (jC:Int))) hp rfl rfl dU;obtain⟨m,hm⟩:=ahG hu1;rw[hm]at c3;have hmu:p.nd.u.toNat=m:=dS
   rw[hmu]at hF;obtain⟨T,hT⟩:=eu (p.nd.t);have hmap:=acF hp (jC:Int);obtain⟨L2,hL2⟩:=eu (L.set k {p with nd:={p.nd with t:=max p.nd.t (jC:Int)}});rw[hL2]at hM2 hF2 hmap;have hl2:L2.length=N:=by rw[<-hL2,nQ];exact HN.out
   have af:∀(i:Nat)(x:Nd),0<i->(L2.map Ln.nd)[i]?=some x->0<=x.u/\x.u<i:=λi x hi hx'=>by
    rw[hmap,oI]at hx';split at hx'
    ·split at hx'
     ·rename_i e _;subst e;injection hx' with hx'
      subst hx';exact HU.out k p.nd hi hx
     ·cases hx'
    ·exact HU.out i x hi hx'
   have ku:Pr.iO (m+1) (L2.map Ln.nd) m jC=F:=by
    rw[hmap,<-hF];have aj:Pr.Pn ((L.map Ln.nd).set k {p.nd with t:=max p.nd.t (jC:Int)}):=λi x hi hx'=>by
     rw[<-hmap]at hx';exact af i x hi hx'
    exact(Pr.Oc m _ _ _ _ aj (by rw[nQ,jl,HN.out];omega) dS dS)
   have c32:(wr.setCell ⟨g,k*6+2,none⟩ (.int .i64 (max T (jC:Int)))).cell? ⟨g,k*6+3,none⟩=some (.int .i64 (m:Int)):=yX dS c3;have az:(wr.setCell ⟨g,k*6+2,none⟩ (.int .i64 (max T (jC:Int)))).cell? ⟨rb,4,none⟩=some (.slice (some ⟨g,0,none⟩) N cap):=by rw[<-hT];exact Jc hM2.box
   rw[hT]at c2 hM2 hF2;obtain⟨qx,ak,av,ax,HL2⟩:=vV hM2 (ae.out.trans hF2) af ku hl2;have gk:(k:Int)<(N:Int):=dS
   have gz:((k:Int) !=0)=true:=eQ
   have ay:m<N:=dS
   have hmk:m<k:=dS
   clear hp hx hF hrow hv hfz hM2 hF2 hm hmu hT hmap hL2 hl2 af ku HM HU HF HN ae hu1 hu2 h0 c3;go_wp2_with fail
   go_roundw
   case rel=>exact⟨m,L2,rfl,ay,qx,av,ax,HL2,ak⟩
   case measure=>simp[intOf];omega
end
section
open Go.RowKit
open Sq
open Ar
theorem ahk(w0 w:World)(rb:Nat)(c:Ctx)(nv dv lv:Value)(row en:Nat)(L:List Ln)(D:List Fl.Dg)(V:List Pr.Lv)(i jC:Nat)(h:PM w0 w rb c nv dv lv row en L D V)(hi:i<L.length)(hu:Pr.Pn (L.map Ln.nd))(hkl:∀p∈L,p.nd.ks.length<=1000000000000)(hn:L.length<=1000000000000):
 Calls prog 130 #[RP rb,.int .i64 i,.int .i64 jC] w λe w'=>e=.returned (.int .i64 L.length)/\∃L',PM w0 w' rb c nv dv lv row en L' D V/\L'.map Ln.nd=Pr.hold (L.map Ln.nd) i jC/\FP w w' rb (jU nv dv lv L) (jU nv dv lv L'):=by
 obtain⟨g,cap,rfl,-,-,-,-⟩:=jf h.nodes.row dS;obtain⟨R0,hR0⟩:=eu (jU (.slice (some ⟨g,0,none⟩) L.length cap) dv lv L);obtain⟨F,hF⟩:=eu (Pr.hold (L.map Ln.nd) i jC);have HQ:=dY (λW (h:∃L',PM w0 W rb c (.slice (some ⟨g,0,none⟩) L.length cap) dv lv row en L' D V/\L'.map Ln.nd=F/\FP w W rb R0 (jU (.slice (some ⟨g,0,none⟩) L.length cap) dv lv L'))=>show(λe w'=>e=Ending.returned (.int .i64 L.length)/\∃L',PM w0 w' rb c (.slice (some ⟨g,0,none⟩) L.length cap) dv lv row en L' D V/\L'.map Ln.nd=F/\FP w w' rb R0 (jU (.slice (some ⟨g,0,none⟩) L.length cap) dv lv L')) (.returned (.int .i64 L.length)) W from⟨rfl,h⟩);rw[hR0,hF];obtain⟨Q,hQ⟩:=eu ((λe w'=>e=Ending.returned (.int .i64 L.length)/\∃L',PM w0 w' rb c (.slice (some ⟨g,0,none⟩) L.length cap) dv lv row en L' D V/\L'.map Ln.nd=F/\FP w w' rb R0 (jU (.slice (some ⟨g,0,none⟩) L.length cap) dv lv L')));rw[hQ]at HQ⊢;clear hQ;obtain⟨p,hp⟩:∃p,L[i]?=some p:=⟨_,fu hi⟩
 have aA:=hkl p (gW hp);have hkr:=h.nodes.kids i p hp;obtain⟨ka,kc,af⟩:=(Reads.fo (E:=encI) hkr).shape;obtain⟨kn,hkn⟩:=eu (p.nd.ks.length);rw[hkn]at af;have hx:(L.map Ln.nd)[i]?=some p.nd:=by rw[kS,hp];rfl
 have ag:∀(a':Option Addr)(n' c':Nat),(L.set i ⟨{p.nd with ks:=p.nd.ks++[(L.length:Int)]},a',n',c'⟩).map Ln.nd=Pr.ql (L.map Ln.nd) i:=λa' n' c'=>by
  unfold Pr.ql;rw[hx,Gj,jl]
 have aj:Pr.Pn (Pr.ql (L.map Ln.nd) i):=by
  unfold Pr.ql;rw[hx];exact hu.set i p.nd _ hx rfl
 obtain⟨N,hN⟩:=eu (L.length);have HN:=dY hN;rw[hN]at h hi HQ ag hR0 hn;have hF:Pr.reach (Pr.ql (L.map Ln.nd) i) i jC=F:=hF;have c4:=Jc h.box;have ck:w.cell? ⟨g,i*6+4,none⟩=some (.slice ka kn kc):=by
  have:=h.nodes.row.cells (g:=g) rfl _ _ ((iJ fZ L i p hp 4 dU).trans rfl);rw[fT,jY]at this;rw[<-af];exact this
 have ak:=dY (show p.nd.ks.length+1<=maxLen by simp only[maxLen];omega);have av:=dY (show(p.nd.ks.length+1)*8<=140737488355328 by omega);obtain⟨wx,hwx⟩:=eu ((w.alloc (.cells #[.int .i64 (N:Int)] 3)).drew);have hbx:Below w.heap.size w wx:=by rw[<-hwx];exact(dZ w _).drew
 have aB:=dY (show wx.ownsRow w0.heap.size 3 encI.k (.slice ka kn kc) p.nd.ks.length (encI.all p.nd.ks)by rw[<-af];exact eZ hkr hbx);have ah:∀jj c,(encI.all [(N:Int)])[jj]?=some c->wx.cell? ⟨w.heap.size,jj,none⟩=some c:=by
  intro jj c hj;rw[<-hwx];show(w.alloc _).cell? ⟨w.heap.size,jj,none⟩=_;rw[yJ]
  simpa [mW.all,encI]using hj
 have mE:=dY ah;have aC:=eB hbx c4;have aD:=eB hbx ck;have ax:w0.heap.size<=wx.heap.size:=iU h.size hbx.size;obtain⟨L5,HP,Pq,L8,HM,ai⟩:=kG hwx hp af hkn h ag;obtain⟨aF,HF,aQ⟩:=je aj hF hR0;have aV:(i:Int)<(N:Int):=dS
 clear hkr af hkn ah hbx hwx hp h hu hkl hx ag aj hN hF hR0 aA hn
 go_enter func130,ntmps130
 go_upto_region 2 with fail
 refine fO (λwx=>wx.cell? ⟨rb,4,none⟩=some (.slice (some ⟨g,0,none⟩) N cap)/\wx.cell? ⟨g,i*6+4,none⟩=some (.slice ka kn kc)) 20 dV ?_;have hH:(λwx:World=>wx.cell? ⟨rb,4,none⟩=some (.slice (some ⟨g,0,none⟩) N cap)/\wx.cell? ⟨g,i*6+4,none⟩=some (.slice ka kn kc)) w.drew:=⟨eP c4,eP ck⟩
 refine iE 0 (.pointer (some ⟨rb,0,none⟩)) hH ?_;refine iE 1 (.pointer (some ⟨rb,0,none⟩)) hH ?_;refine iE 2 (.pointer (some ⟨rb,4,none⟩)) hH ?_;refine iE 3 (.pointer (some ⟨rb,4,none⟩)) hH ?_;refine rV 4 (.slice (some ⟨g,0,none⟩) N cap) (λW hW=>?_) hH ?_
 ·obtain⟨z0,z1⟩:=hW;go_simp
 refine iE 5 (.int .i64 (i:Int)) hH ?_;refine iE 6 (.pointer (some ⟨rb,0,none⟩)) hH ?_;refine iE 7 (.pointer (some ⟨rb,0,none⟩)) hH ?_;refine iE 8 (.pointer (some ⟨rb,4,none⟩)) hH ?_;refine iE 9 (.pointer (some ⟨rb,4,none⟩)) hH ?_;refine rV 10 (.slice (some ⟨g,0,none⟩) N cap) (λW hW=>?_) hH ?_
 ·obtain⟨z0,z1⟩:=hW;go_simp
 refine iE 11 (.int .i64 (i:Int)) hH ?_;refine iE 12 (.pointer (some ⟨g,i*6,none⟩)) hH ?_;refine iE 13 (.pointer (some ⟨g,i*6+4,none⟩)) hH ?_;refine rV 14 (.slice ka kn kc) (λW hW=>?_) hH ?_
 ·obtain⟨z0,z1⟩:=hW;go_simp
 refine iE 15 (.int .i64 (N:Int)) hH ?_;refine mY 16 λK hK=>?_
 go_simp;rw[L5.out];refine hK.out _ _ (λ_=>⟨aC,aD⟩) (λhH2=>?_);clear hK K;replace hH:=hH2 dV;clear hH2;try simp only[Act.put,fG,fB,fC]
 refine mY 17 λK hK=>?_
 refine oO tyI rfl (.tmp 27) (.tmp 29) rfl w0.heap.size (.slice ka kn kc) p.nd.ks rfl aB.out w.heap.size 1 [(N:Int)] rfl rfl mE.out ak.out av.out ax ?_;intro v8 w8 aa hg8 O7;obtain⟨a8,c8,aG⟩:=(Reads.fo (E:=encI) aa).shape;obtain⟨n8,aH⟩:=eu ((p.nd.ks++[(N:Int)]).length);rw[aH]at aG;clear aH;subst aG;have hgw:(w.alloc (.cells #[.int .i64 (N:Int)] 3)).grownBy w8 p.val.ownBlock:=(um (fD _ (w.alloc (.cells #[.int .i64 (N:Int)] 3))).drew p.val.ownBlock).trans YC;have ay:(Value.slice a8 n8 c8).ownBlock=p.val.ownBlock\/(Value.slice a8 n8 c8).ownBlock=some (w.alloc (.cells #[.int .i64 (N:Int)] 3)).heap.size:=YD
 obtain⟨aI,az,aJ,aK⟩:=HM.out.kid HP.out (N:Int) hgw aa ay;have c18:w8.cell? ⟨rb,4,none⟩=some (.slice (some ⟨g,0,none⟩) N cap):=Jc (aI.trans HM.out.box);have ae:=fE HM.out.nodes.row (w':=w8) (λg1 hg=>by have e:g=g1:=iG hg;rw[<-e];exact az);have aR:w8.cell? ⟨g,i*6+4,none⟩=some (.slice ka kn kc):=by have h5:=ae.cells (g:=g) rfl _ _ ((iJ fZ L i p HP.out 4 dU).trans rfl);rw[fT,jY]at h5;rw[<-Pq.out];exact h5
 obtain⟨gx,aW,aL,-,hfx,-,-⟩:=jf (E:=fZ) ae mP;have ex:=(lX aL).1;injection ex with ex
 injection ex with ex
 have f48:w8.frozen? ⟨g,i*6+4,none⟩=false:=Jl
 have HD:=dY (And.intro aJ (show FP w _ rb R0 _ by rw[<-aQ.out];exact aK));have aS:=dY (ai.out a8 n8 c8);clear aa hg8 O7 hgw ay aI az aJ aK ae aL hfx ex;refine hK.out _ _ (λ_=>⟨c18,aR⟩) (λhH2=>?_);clear hK K;replace hH:=hH2 dV;clear hH2;try simp only[Act.put,fG,fB,fC]
 refine gZ 18 (.pointer (some ⟨g,i*6,none⟩)) (λ_=>hH) ?_;refine iE 19 (.pointer (some ⟨g,i*6+4,none⟩)) hH ?_;refine mY 20 λK hK=>?_
 go_simp;refine hK.out _ _ lh (λ_=>?_);clear hK K;try simp only[Act.put,fG,fB,fC]
 refine fJ dV ?_ _;generalize aT:w8.setCell ⟨g,i*6+4,none⟩ (.slice a8 n8 c8)=w9 at HD aS⊢;obtain⟨aM,aN⟩:=HD.out;have aO:=dY (abr w0 w9 rb c _ dv lv row en _ D V i jC aM (by rw[nQ,HN.out];exact hi) (by rw[ai.out];exact aF.out));have aP:=dY aN;clear aM aN HD aT HM HP aB mE aC aD c4 ck ak av L5 ax;go_wp2_with fail
 refine aO.out.mono ?_;rintro e aU ⟨rfl,L',hM',hL',hF'⟩;have HD:=dY (HQ.out aU ⟨L',hM',by rw[hL',ai.out];exact HF.out,aP.out.trans hF'⟩);clear hM' hL' hF' aO aP;go_wp2_with fail
 exact HD.out
end
end Go.Proofs.YtmkkdjpebbdikaaGreatDoor

import Derived.Test.YtmkkdjpebbdikaaGreatDoorZn01
import Derived.Below
import Derived.BigQuiet
import Derived.Deep.RegionHeld
import Derived.Deep.RegionHeld3
import Derived.Deep.RegionLawGrows
import Derived.KernelRfl
import Derived.Laws.AppendOwn
import Derived.Laws.AppendOwnNone
import Derived.Laws.Slices
import Derived.OrdersHeld
import Derived.OwnWalk
import Derived.ScopeJumps
import Derived.Shelf.SlSortCmp.NoneTotal
import Derived.Shelf.Spec.DecodeRune
import Derived.Shelf.Spec.NilArms
import Derived.Shelf.Strings.IndexAnyAll
import Derived.Shelf.Strings.Prefix
import Derived.Shelf.Strings.Runes
import Derived.Shelf.Strings.SlTrimAscii
import Derived.StillTail
import Derived.Test.YtmkkdjpebbdikaaGreatDoorProg
import Derived.WalkKit
import Derived.WalkMore
set_option linter.all false
set_option maxHeartbeats 16000000
set_option maxRecDepth 100000
namespace Go.Proofs.YtmkkdjpebbdikaaGreatDoor
open Go.RowKit Tryz
def ll:=@Value.slice.inj
def M8:=@info_parts
def RQ:=@wpList_append_own
def XH:=@World.cell?_alloc_new
def H6:=@World.ownsRow_nil
def De:=@Calls.mono
def M9:=@wpOp_mono
def sU:=@getD_set_ne
def yK:=@ready_mono
def ER:=@mem_ready
def RU:=@Oper.apart_spec
def RX:=@wpOp_putIf
def RY:=@execOp_put
def RZ:=@wanted_put
def Sa:=@Region.noSelect_spec
def Sb:=@Region.free_spec
def l6:=@wpAnyH_take
def Sd:=@wpAnyH_ready
def H7:=@AllReadyH.cons
def Se:=@AllReadyH.nil
def VA:=@wp_scope_jumps
def VB:=@Code.wp_mono
namespace Sq
open Go.RowKit
theorem gQ(b off j:Nat):(⟨b,off,none⟩:Addr).add j=⟨b,off+j,none⟩:=by
 unfold Addr.add;split
 ·rename_i h;subst h;rfl
 rfl
theorem DX{w:World}{a:Addr}{v:Value}(h:w.cell? a=some v):a.block<w.heap.size:=by
 unfold World.cell? at h;rcases kS a.block w.heap.size with h'|h'
 ·exact h'
 simp[Array.getElem?_eq_none h']at h
structure mr(α:Type) where
 cells:α->List Value
 k:Nat
 pos:0<k
 len:∀x,(cells x).length=k
 one:∀x,∀u∈cells x,u.oneCell'=true
variable {α:Type}
def mr.all(E:mr α):List α->List Value
 |[]=>[]
 |x::r=>E.cells x++E.all r
theorem kX(E:mr α)(l:List α):(E.all l).length=l.length*E.k:=by
 induction l with
 |nil=>simp[mr.all]
 |cons x r ih=>rw[mr.all,iJ,E.len,ih,jh,xL];omega
theorem uK(E:mr α)(l m:List α):E.all (l++m)=E.all l++E.all m:=by
 induction l with
 |nil=>rfl
 |cons x r ih=>rw[KI,mr.all,mr.all,ih,nQ]
theorem uL(E:mr α)(l:List α):∀u∈E.all l,u.oneCell'=true:=by
 induction l with
 |nil=>intro u hu;cases hu
 |cons x r ih=>
  intro u hu;rw[mr.all,mU]at hu;rcases hu with hu|hu
  ·exact E.one x u hu
  exact ih u hu
theorem iO(E:mr α)(l:List α)(j:Nat)(x:α)(h:l[j]?=some x)(i:Nat)(hi:i<E.k):(E.all l)[j*E.k+i]?=(E.cells x)[i]?:=by
 induction l generalizing j with
 |nil=>simp at h
 |cons y r ih=>
  cases j with
  |zero=>
   obtain rfl:y=x:=by simpa using h
   rw[mr.all,oD (by rw[E.len];omega)];simp
  |succ j=>
   rw[mr.all,oM (by rw[E.len,xL];omega),E.len,show(j+1)*E.k+i-E.k=j*E.k+i from by rw[xL];omega];exact ih j (by simpa using h)
theorem O7(E:mr α)(l:List α)(n:Nat):(E.all l).take (n*E.k)=E.all (l.take n):=by
 induction l generalizing n with
 |nil=>simp[mr.all]
 |cons x r ih=>
  cases n with
  |zero=>simp[mr.all]
  |succ n=>
   rw[mr.all,uA,mr.all,List.take_append,E.len,show(n+1)*E.k-E.k=n*E.k from by rw[xL];omega,ih n,xK (by rw[E.len,xL];omega)]
def Reads(E:mr α)(w:World)(v:Value)(l:List α):Prop:=
 (v=.slice none 0 0/\l=[])\/∃b off cap,v=.slice (some ⟨b,off,none⟩) l.length cap/\l.length<=cap/\cap<=maxLen/\∀j x,l[j]?=some x->∀i u,(E.cells x)[i]?=some u->w.cell? ⟨b,off+j*E.k+i,none⟩=some u
variable {E:mr α}{w w':World}{v:Value}{l:List α}
theorem Reads.below(h:Reads E w v l)(hb:Below w.heap.size w w'):Reads E w' v l:=by
 rcases h with h|⟨b,off,cap,h1,h2,h3,h4⟩
 ·exact .inl h
 refine .inr ⟨b,off,cap,h1,h2,h3,λj x hj i u hu=>?_⟩;have h5:=h4 j x hj i u hu;rw[hb.cell (p:=⟨b,off+j*E.k+i,none⟩) (DX h5)];exact h5
theorem Reads.shape(h:Reads E w v l):∃a cap,v=.slice a l.length cap:=by
 rcases h with⟨h1,h2⟩|⟨b,off,cap,h1,_⟩
 ·exact⟨none,0,by rw[h1,h2];rfl⟩
 exact⟨_,_,h1⟩
theorem Reads.vM{a:Option Addr}{cap:Nat}(h:Reads E w (.slice a l.length cap) l):l.length<=cap/\cap<=maxLen:=by
 rcases h with⟨hv,h0⟩|⟨b,off,cap',hv,g2,g3,g4⟩
 ·obtain⟨rfl,-,rfl⟩:=ll hv;exact⟨by rw[h0];exact fB _,ic _⟩
 obtain⟨rfl,-,rfl⟩:=ll hv;exact⟨g2,g3⟩
theorem Reads.at_{a:Option Addr}{cap:Nat}(h:Reads E w (.slice a l.length cap) l)(j:Nat)(x:α)(hj:l[j]?=some x):
 ∃b off,a=some ⟨b,off,none⟩/\∀i u,(E.cells x)[i]?=some u->w.cell? ⟨b,off+j*E.k+i,none⟩=some u:=by
 rcases h with⟨_,rfl⟩|⟨b,off,cap',hv,h2,h3,h4⟩
 ·simp at hj
 obtain⟨rfl,-,rfl⟩:=ll hv;exact⟨b,off,rfl,h4 j x hj⟩
theorem Reads.fJ{base:Nat}{e:TypeId}(h:w.ownsRow base e E.k v l.length (E.all l)):Reads E w v l:=by
 rcases h.2 with⟨h1,h2⟩|⟨g,cap,cur,h1,h2,h3,h4,h5,h6,h7⟩
 ·exact .inl ⟨h1,oC h2⟩
 refine .inr ⟨g,0,cap,h1,h4,h5,λj x hj i u hu=>?_⟩;have hi:i<E.k:=by rw[<-E.len x];exact(gD.1 hu).1
 have c1:=h.cells (g:=g) (by rw[h1];rfl) _ _ ((iO E l j x hj i hi).trans hu);rw[gQ]at c1;rw[kU]at c1⊢;exact c1
theorem own_below{B e size n:Nat}{xs:List Value}(h:w.ownsRow B e size v n xs)(hb:Below w.heap.size w w'):w'.ownsRow B e size v n xs:=by
 refine⟨h.1,?_⟩;rcases h.2 with h0|⟨g,cap,cur,hv,hbg,hg,rest⟩
 ·exact .inl h0
 have hlt:g<w.heap.size:=(xI.1 hg).1
 exact .inr ⟨g,cap,cur,hv,hbg,(hb.block g hlt).trans hg,rest⟩
theorem lq{B B' e size n:Nat}{xs:List Value}(h:w.ownsRow B e size v n xs)(hB:B'<=B):w.ownsRow B' e size v n xs:=by
 refine⟨h.1,?_⟩;rcases h.2 with h0|⟨g,cap,cur,hv,hbg,rest⟩
 ·exact .inl h0
 exact .inr ⟨g,cap,cur,hv,jU hB hbg,rest⟩
structure Ty(P:Program)(E:mr α)(t e:TypeId)(bytes:Nat):Prop where
 ht:P.underlying t=some (.slice e)
 he:P.elem t=e
 parts:∃i z,P.info? e=some i/\i.zero=some z/\i.size=E.k/\i.bytes=bytes/\z.cells.size=E.k
 size:∀w,(sizeOf e).run P w=.ok E.k w
theorem Ty.of{P:Program}{E:mr α}{t e:TypeId}{bytes:Nat}{z:Value}(ht:P.underlying t=some (.slice e))(he:P.elem t=e)(hi:(P.info? e).map (λi=>(i.zero,i.size,i.bytes))=some (some z,E.k,bytes))(hz:z.cells.size=E.k)(hs:∀w,(sizeOf e).run P w=.ok E.k w):Ty P E t e bytes:=by
 obtain⟨i,h1,h2,h3,h4⟩:=M8 hi;exact⟨ht,he,⟨i,z,h1,h2,h3,h4,hz⟩,hs⟩
theorem uW{a:Option Addr}{cap lo hi:Nat}(h:Reads E w (.slice a l.length cap) l)(h1:lo<=hi)(h2:hi<=l.length):
 Reads E w (.slice (if cap=lo then a else a.map λx=>x.add (lo*E.k)) (hi-lo) (cap-lo)) ((l.drop lo).take (hi-lo)):=by
 have hz:((l.drop lo).take (hi-lo)).length=hi-lo:=by rw[kD,iT];omega
 rcases h with⟨hv,h0⟩|⟨b,off,cap',hv,g2,g3,g4⟩
 ·obtain⟨rfl,-,rfl⟩:=ll hv;subst h0;obtain rfl:hi=0:=by simpa using h2
  obtain rfl:lo=0:=by omega
  exact .inl ⟨rfl,rfl⟩
 obtain⟨rfl,-,rfl⟩:=ll hv;by_cases hc:cap=lo
 ·rw[eY hc];refine .inr ⟨b,off,cap-lo,by rw[hz],by omega,by omega,λj x hj=>?_⟩;have:=(gD.1 hj).1;omega
 rw[eX hc];refine .inr ⟨b,off+lo*E.k,cap-lo,?_,by omega,by omega,λj x hj i u hu=>?_⟩
 ·rw[hz,yJ,gQ]
 have hj1:=(gD.1 hj).1;rw[List.getElem?_take,eY (by omega),sJ]at hj;rw[show off+lo*E.k+j*E.k+i=off+(lo+j)*E.k+i from by rw[xL];omega];exact g4 (lo+j) x hj i u hu
theorem Dq{P:Program}{t e:TypeId}{bytes:Nat}(T:Ty P E t e bytes){a:Option Addr}{cap lo hi:Nat}(h:Reads E w (.slice a l.length cap) l)(h1:lo<=hi)(h2:hi<=l.length):
 ∃v,(∀W:World,(Instr.slice t (.slice a l.length cap) (some (.int .i64 (lo:Int))) (some (.int .i64 (hi:Int))) none).run P W=.ok v W)/\Reads E w v ((l.drop lo).take (hi-lo)):=by
 have hb:=uW h h1 h2;have hc:=h.vM;refine⟨_,λW=>?_,hb⟩;rw[run_slice_lh W _ a l.length cap (by rw[T.he];exact T.ht) .i64 .i64 lo hi (by omega) (by omega) (by omega),T.he,T.size];simp[Result.andThen,sliced]
theorem UK{P:Program}{t e:TypeId}{bytes:Nat}(T:Ty P E t e bytes){a:Option Addr}{cap n:Nat}(h:Reads E w (.slice a l.length cap) l)(hn:n<=l.length):
 ∃v,(∀W:World,(Instr.slice t (.slice a l.length cap) none (some (.int .i64 (n:Int))) none).run P W=.ok v W)/\Reads E w v (l.take n):=by
 have hb:=uW h (ic n) hn;have hc:=h.vM;rw[lQ,BC]at hb;refine⟨_,λW=>?_,hb⟩;rw[run_slice_h W _ a l.length cap (by rw[T.he];exact T.ht) .i64 n (by omega) (by omega),T.he,T.size];simp[Result.andThen,sliced]
theorem XW{P:Program}{t e:TypeId}{bytes:Nat}(T:Ty P E t e bytes){a:Option Addr}{cap n:Nat}(h:Reads E w (.slice a l.length cap) l)(hn:n<=l.length):
 ∃v,(∀W:World,(Instr.slice t (.slice a l.length cap) (some (.int .i64 (n:Int))) none none).run P W=.ok v W)/\Reads E w v (l.drop n):=by
 have hb:=uW h hn (fB _);have hc:=h.vM;rw[xK (by rw[iT];exact fB _)]at hb;refine⟨_,λW=>?_,hb⟩;rw[run_slice_l W _ a l.length cap (by rw[T.he];exact T.ht) .i64 n (by omega) (by omega),T.he,T.size];simp[Result.andThen,sliced]
theorem news{b off:Nat}(h:∀j x,l[j]?=some x->∀i u,(E.cells x)[i]?=some u->w.cell? ⟨b,off+j*E.k+i,none⟩=some u):
 ∀j u,(E.all l)[j]?=some u->w.cell? ((⟨b,off,none⟩:Addr).add j)=some u:=by
 intro j u hu;have hj:j<l.length*E.k:=by rw[<-kX];exact(gD.1 hu).1
 have hk:=E.pos;have hd:j/E.k<l.length:=(Nat.div_lt_iff_lt_mul hk).2 hj
 have hm:j%E.k<E.k:=Nat.mod_lt _ hk
 have e1:j=j/E.k*E.k+j%E.k:=by rw[Nat.mul_comm];exact(Nat.div_add_mod j E.k).symm
 have hx:=mR hd;have h2:=h (j/E.k) _ hx (j%E.k) u (by rw[<-iO E l (j/E.k) _ hx _ hm,<-e1];exact hu);rw[gQ,show off+j=off+j/E.k*E.k+j%E.k from by omega];exact h2
theorem vQ{w0:World}{P:Program}{t e:TypeId}{bytes:Nat}(T:Ty P E t e bytes){ops:Array Oper}{rest:List Oper}{o:Oper}{act:Act}{Q:Exit->Act->World->Prop}(hgd:o.guard=none)(x y:Operand)
 (ho:o.op=.call {callee:=.builtin .append,args:=#[x,y],argTypes:=#[t,t]})
 (base:Nat) (v:Value) (l:List α) (u:α) (cs:List Value) (hc:E.cells u=cs) (hs:act.eval x=v) (hown:w0.ownsRow base e E.k v l.length (E.all l))
 (hy:act.eval y=.slice (some ⟨w0.heap.size,0,none⟩) 1 1) (hmax:l.length+1<=maxLen) (hlen:(l.length+1)*bytes<=140737488355328) (hbase:base<=w0.heap.size)
 (h:∀v' w',w'.ownsRow base e E.k v' (l++[u]).length (E.all (l++[u]))->(w0.alloc (.cells cs.toArray e)).grownBy w' v.ownBlock->wpList P ops Q rest (act.put o.dst v') w'):
 wpList P ops Q (o::rest) act (w0.alloc (.cells cs.toArray e)):=by
 obtain⟨i,z,hi,hz,hsz,hby,hzs⟩:=T.parts;subst hc;have ea:E.all [u]=E.cells u:=by rw[mr.all,mr.all,mP]
 refine RQ _ hgd x y t ho base e i z E.k bytes T.ht hi hz hsz hby hzs E.pos v l.length (E.all l) hs (hown.alloc _) ⟨w0.heap.size,0,none⟩ 1 1 (E.all [u]) hy (kX E [u]) ?_ (uL E [u]) hmax hlen (by simp;omega) (λv' w' q1 q2 _=>h v' w' (by rw[uK,iJ];exact q1) q2);intro j c hj;rw[ea]at hj;rw[gQ,kU];rw[XH]
 simpa using hj
theorem kY{e:TypeId}(E:mr α)(w:World)(base:Nat):w.ownsRow base e E.k (.slice none 0 0) ([]:List α).length (E.all []):=H6 w base e E.k
end Sq
namespace Sq
open Go.RowKit
variable {α:Type}{E:mr α}{w w':World}{l:List α}
def Full(E:mr α)(w:World)(v:Value)(l:List α):Prop:=Reads E w v l/\∃a,v=.slice a l.length l.length
theorem yz{P:Program}{t e:TypeId}{bytes:Nat}(T:Ty P E t e bytes){ops:Array Oper}{o:Oper}{act:Act}{K:Act->World->Prop}{Q:Exit->Act->World->Prop}{G:Prop}(hgd:o.guard=none)(x y:Operand)
 (ho:o.op=.call {callee:=.builtin .append,args:=#[x,y],argTypes:=#[t,t]})
 (v:Value) (l:List α) (hs:act.eval x=v) (hF:Full E w v l) (b m:Nat) (us:List α) (hm:us.length=m) (hm0:0<m) (hy:act.eval y=.slice (some ⟨b,0,none⟩) m m)
 (hnew:∀j c,(E.all us)[j]?=some c->w.cell? ⟨b,j,none⟩=some c) (hmax:l.length+m<=maxLen) (hlen:(l.length+m)*bytes<=140737488355328)
 (h:∀v' w',w'.ownsRow w.heap.size e E.k v' (l++us).length (E.all (l++us))->w.grownBy w' none->K (act.put o.dst v') w'):
 if Region.wanted o (yielded ops act.tmps)=true then Oper.wp P o act w K Q else G:=by
 obtain⟨i,z,hi,hz,hsz,hby,hzs⟩:=T.parts;obtain⟨hR,a,rfl⟩:=hF;refine step_append_grows hgd x y t ho e i z E.k bytes T.ht hi hz hsz hby hzs E.pos a l.length l.length (E.all l) hs ?_ (kX E l) ?_ ⟨b,0,none⟩ m m (E.all us) hy (by rw[kX,hm]) ?_ (uL E us) (by omega) hmax hlen (λv' w' q1 q2=>h v' w' (by rw[uK,iJ,hm];exact q1) q2)
 ·intro ha;subst ha;rcases hR with⟨hv,h0⟩|⟨b,off,cap',hv,g2,g3,g4⟩
  ·rw[h0];exact⟨rfl,rfl⟩
  cases (ll hv).1
 ·intro p hp;subst hp;rcases hR with⟨hv,h0⟩|⟨b,off,cap',hv,g2,g3,g4⟩
  ·cases (ll hv).1
  obtain⟨e1,-,-⟩:=ll hv;obtain rfl:=jl e1;exact news g4
 intro j c hj;rw[gQ,kU];exact hnew j c hj
theorem kP{P:Program}{t e:TypeId}{bytes:Nat}(T:Ty P E t e bytes){ops:Array Oper}{o:Oper}{act:Act}{K:Act->World->Prop}{Q:Exit->Act->World->Prop}{G:Prop}(hgd:o.guard=none)(x y:Operand)
 (ho:o.op=.call {callee:=.builtin .append,args:=#[x,y],argTypes:=#[t,t]})
 (base:Nat) (v:Value) (l:List α) (hs:act.eval x=v) (hown:w.ownsRow base e E.k v l.length (E.all l)) (b m:Nat) (us:List α) (hm:us.length=m) (hy:act.eval y=.slice (some ⟨b,0,none⟩) m m)
 (hnew:∀j c,(E.all us)[j]?=some c->w.cell? ⟨b,j,none⟩=some c) (hmax:l.length+m<=maxLen) (hlen:(l.length+m)*bytes<=140737488355328) (hbase:base<=w.heap.size)
 (h:∀v' w',w'.ownsRow base e E.k v' (l++us).length (E.all (l++us))->w.grownBy w' v.ownBlock->K (act.put o.dst v') w'):
 if Region.wanted o (yielded ops act.tmps)=true then Oper.wp P o act w K Q else G:=by
 obtain⟨i,z,hi,hz,hsz,hby,hzs⟩:=T.parts;have hw:Region.wanted o (yielded ops act.tmps)=true:=by simp[Region.wanted,hgd]
 rw[eY hw];refine wp_append_own w x y t ho base e i z E.k bytes T.ht hi hz hsz hby hzs E.pos v l.length (E.all l) hs hown ⟨b,0,none⟩ m m (E.all us) hy (by rw[kX,hm]) ?_ (uL E us) hmax hlen hbase (λv' w' q1 q2 _=>h v' w' (by rw[uK,iJ,hm];exact q1) q2);intro j c hj;rw[gQ,kU];exact hnew j c hj
end Sq
end Go.Proofs.YtmkkdjpebbdikaaGreatDoor
namespace Go
open Go.Proofs.YtmkkdjpebbdikaaGreatDoor
section
variable {P:Program}{ops:Array Oper}{Q:Exit->Act->World->Prop}{md:Region.Mode}{C:World->Prop}{st:Nat}
def lV(P:Program)(m:Sem Next)(v:Value)(w:World):Prop:=
 match m.run P w with
 | .ok (.value u) w'=>u=v/\w'=w
 | .ok (.enter f args) w'=>w'=w/\Calls P f args w (λe w''=>e=.returned v/\w=w'')
 |_=>False
theorem lV.of_run{m:Sem Next}{v:Value}{w:World}(h:m.run P w=.ok (.value v) w):lV P m v w:=by
 unfold lV;rw[h];exact⟨rfl,rfl⟩
theorem lV.DY{m:Sem Next}{v:Value}{w:World}{f:FuncId}{args:Array Value}(h:m.run P w=.ok (.enter f args) w)(hc:Calls P f args w (λe w''=>e=.returned v/\w=w'')):lV P m v w:=by
 unfold lV;rw[h];exact⟨rfl,hc⟩
def jX(P:Program)(ops:Array Oper)(C:World->Prop)(o:Oper)(v:Value)(a:Act):Prop:=
 (Region.wanted o (yielded ops a.tmps)=true/\∀w,C w->lV P (execOp a.eval o) v w)\/
 (Region.wanted o (yielded ops a.tmps)=false/\v=undef)
theorem jX.of_same{o:Oper}{v:Value}{a a':Act}(hy:jX P ops C o v a)(he:execOp a'.eval o=execOp a.eval o)
 (hw:Region.wanted o (yielded ops a'.tmps)=Region.wanted o (yielded ops a.tmps)):jX P ops C o v a':=by
 unfold jX at*;rw[he,hw];exact hy
theorem jX.wpOp{i:Nat}{o:Oper}{v:Value}{a:Act}(hi:ops[i]?=some o)(hy:jX P ops C o v a)
 {K:Act->World->Prop} {w:World} (hC:C w) (h:K (a.put o.dst v) w):wpOp P ops Q i K a w:=by
 unfold Go.wpOp;simp only[hi];rcases hy with⟨hw,hv⟩|⟨hw,rfl⟩
 ·rw[eY hw];refine .inl ?_;have hq:=hv w hC;unfold lV at hq;unfold Oper.wp
  revert hq
  generalize (execOp a.eval o).run P w=r;intro hq;cases r with
  |halt x w'=>exact hq.elim
  |ok n w' =>
   cases n<;>simp only at hq
   case value u=>
    obtain⟨rfl,rfl⟩:=hq;exact h
   case enter f args=>
    obtain⟨rfl,hc⟩:=hq;simp only[Oper.upon];refine De hc λe w'' he=>?_
    obtain⟨rfl,rfl⟩:=he;exact h
 rw[eX (by rw[hw];decide)];exact h
theorem su{j:Nat}{oj:Oper}{R:Act->Prop}(hj:ops[j]?=some oj)(hp:∀a u,R a->R (a.put oj.dst u))(hd:∀a d,R a->R {a with defers:=d::a.defers}){K:Act->World->Prop}{a:Act}{w:World}
 (hR:R a) (h:wpOp P ops Q j K a w):wpOp P ops Q j (λa' w'=>R a'/\K a' w') a w:=by
 unfold wpOp at*;simp only[hj]at*;split
 ·rename_i hw;simp only[hw,if_true]at h;rcases h with h|h
  ·refine .inl ?_;unfold Oper.wp at*;generalize (execOp a.eval oj).run P w=r at*;cases r with
   |ok n w' =>
    cases n<;>simp only[Oper.upon]at h⊢
    case value u=>exact⟨hp _ _ hR,h⟩
    case skip=>exact⟨hp _ _ hR,h⟩
    case defer d=>exact⟨hp _ _ (hd _ _ hR),h⟩
    case enter f args=>
     refine De h λe w'' he=>?_
     cases e with
     |returned u=>exact⟨hp _ _ hR,he⟩
     |panicked c=>exact he
     |outgrown=>exact he
    case row row args=>exact Rows.mono h λu w'' he=>⟨hp _ _ hR,he⟩
   |halt x w' =>
    cases x<;>simp only[Oper.upon]at h⊢
    case panic u=>exact h
  exact .inr h
 rename_i hw;simp only[hw]at h;exact⟨hp _ _ hR,h⟩
def iN(P:Program)(md:Region.Mode)(ops:Array Oper)(Q:Exit->Act->World->Prop)(C:World->Prop)(st:Nat):Nat->Array Bool->Act->World->Prop
 |0,listed,a,w=>Region.ready md ops listed=[]/\Q .normal a w
 |fuel+1,listed,a,w=>
  (Region.ready md ops listed=[]->Q .normal a w)/\
  ∀i∈Region.ready md ops listed,wpOp P ops Q i (λa' w'=>((listed.setIfInBounds i true).getD st true=false->C w')/\iN P md ops Q C st fuel (listed.setIfInBounds i true) a' w') a w
theorem AQ:∀(fuel:Nat)(listed:Array Bool)(a:Act)(w:World),iN P md ops Q C st fuel listed a w->wpAny P md ops Q fuel listed a w
 |0,_,_,_,h=>h
 |fuel+1,_,_,_,h=>⟨h.1,λi hi=>M9 (λa' w' h'=>AQ fuel _ a' w' h'.2) (h.2 i hi)⟩
theorem El{i:Nat}{oi ae:Oper}{v:Value}(hi:ops[i]?=some oi)(hsel:∀(j:Nat)(o:Oper) cs b,ops[j]?=some o->o.op≠.select cs b)
 (hQ:∀c a w,Q (.panic c) (a.put oi.dst v) w->Q (.panic c) a w) (hst:ops[st]?=some ae) (af:∃e∈ae.after,Region.binds md e=true/\e.on=i) (hne:i≠st):
 ∀(fuel:Nat)(listed:Array Bool)(a:Act)(w:World),
  (∀j oj,ops[j]?=some oj->j≠i->listed.getD j true=false->(∀e∈oj.after,Region.binds md e=true->e.on≠i)->oi.apart ops oj=true)->
  i∈Region.ready md ops listed->listed.getD st true=false->jX P ops C oi v a->C w->
  iN P md ops Q C st fuel (listed.setIfInBounds i true) (a.put oi.dst v) w->iN P md ops Q C st (fuel+1) listed a w:=by
 have ag:∀(listed:Array Bool),(listed.setIfInBounds i true).getD st true=listed.getD st true:=λlisted=>sU true hne
 intro fuel
 induction fuel with
 |zero=>
  intro listed a w _ hr hs hy hC H;refine⟨λh=>(by rw[h]at hr;cases hr),λj hj=>?_⟩;by_cases hji:j=i
  ·subst hji;exact hy.wpOp hi hC ⟨λ_=>hC,H⟩
  have h1:=yK hj hji;rw[H.1]at h1;cases h1
 |succ fuel ih=>
  intro listed a w hfree hr hs hy hC H;refine⟨λh=>(by rw[h]at hr;cases hr),λj hj=>?_⟩;by_cases hji:j=i
  ·subst hji;exact hy.wpOp hi hC ⟨λ_=>hC,H⟩
  have h1:=H.2 j (yK hj hji);obtain⟨hjun,oj,hoj,hall⟩:=ER.1 hj;have hnot:∀e∈oj.after,Region.binds md e=true->e.on≠i:=λe he hb heq=>by
   have h3:=hall e he hb;have h0:=(ER.1 hr).1;rw[heq]at h3;rcases kS i listed.size with h'|h'
   ·simp[h']at h0 h3;rw[h0]at h3;cases h3
   simp[Array.getElem?_eq_none h']at h3
  have aa:j≠st:=λe=>by
   subst e;rw[hoj]at hst;obtain rfl:=jl hst;obtain⟨e,he,hb,heq⟩:=af;exact hnot e he hb heq
  have hap:=hfree j oj hoj hji hjun hnot;obtain⟨_,_,h3⟩:=RU hap;have hw:YieldsIf P ops (λ_=>False) oi v a:=hy.imp (λh=>⟨h.1,λ_ h=>h.elim⟩) id;have h2:=RX (S:=λ_=>False) hoj hap (λcs b=>hsel i oi cs b hi) (λcs b=>hsel j oj cs b hoj) hQ hw h1;have h4:=su (R:=λa'=>jX P ops C oi v a') hoj
   (λa' u hR=>hR.of_same (RY oi (λcs b=>hsel i oi cs b hi) a' oj.dst u h3) (RZ oi a' oj.dst u h3)) (λa' d hR=>hR.of_same rfl rfl) hy h2
  have hfree':∀k ok,ops[k]?=some ok->k≠i->(listed.setIfInBounds j true).getD k true=false->
   (∀e∈ok.after,Region.binds md e=true->e.on≠i)->oi.apart ops ok=true:=λk ok hk hki hun hno=>by
   refine hfree k ok hk hki ?_ hno;by_cases hjk:j=k
   ·subst hjk;exact hjun
   rw[sU true hjk]at hun;exact hun
  have hs':(listed.setIfInBounds j true).getD st true=false:=by rw[sU true aa];exact hs
  refine M9 (λa' w' h5=>?_) h4;obtain⟨h6,h7,h8,h9⟩:=h5;have hC':C w':=h8 (by rw[sU true aa,ag];exact hs);refine⟨λ_=>hC',ih (listed.setIfInBounds j true) a' w' hfree' (yK hr (MZ hji)) hs' h6 hC' ?_⟩;rw[MW _ _ hji];exact h9
theorem BR{i k:Nat}{oi ae ok:Oper}{v:Value}(hi:ops[i]?=some oi)(hsel:∀(j:Nat)(o:Oper) cs b,ops[j]?=some o->o.op≠.select cs b)
 (hQ:∀c a w,Q (.panic c) (a.put oi.dst v) w->Q (.panic c) a w) (hst:ops[st]?=some ae) (hok:ops[k]?=some ok) (af:∃e∈ae.after,Region.binds md e=true/\e.on=k) (ag:∃e∈ok.after,Region.binds md e=true/\e.on=i) (hne:i≠st):
 ∀(fuel:Nat)(listed:Array Bool)(a:Act)(w:World),
  (∀j oj,ops[j]?=some oj->j≠i->listed.getD j true=false->(∀e∈oj.after,Region.binds md e=true->e.on≠i)->oi.apart ops oj=true)->
  i∈Region.ready md ops listed->listed.getD st true=false->listed.getD k true=false->jX P ops C oi v a->C w->
  iN P md ops Q C st fuel (listed.setIfInBounds i true) (a.put oi.dst v) w->iN P md ops Q C st (fuel+1) listed a w:=by
 have ah:∀(listed:Array Bool),(listed.setIfInBounds i true).getD st true=listed.getD st true:=λlisted=>sU true hne
 intro fuel
 induction fuel with
 |zero=>
  intro listed a w _ hr hs hk hy hC H;refine⟨λh=>(by rw[h]at hr;cases hr),λj hj=>?_⟩;by_cases hji:j=i
  ·subst hji;exact hy.wpOp hi hC ⟨λ_=>hC,H⟩
  have h1:=yK hj hji;rw[H.1]at h1;cases h1
 |succ fuel ih=>
  intro listed a w hfree hr hs hk hy hC H;refine⟨λh=>(by rw[h]at hr;cases hr),λj hj=>?_⟩;by_cases hji:j=i
  ·subst hji;exact hy.wpOp hi hC ⟨λ_=>hC,H⟩
  have h1:=H.2 j (yK hj hji);obtain⟨hjun,oj,hoj,hall⟩:=ER.1 hj;have hnot:∀e∈oj.after,Region.binds md e=true->e.on≠i:=λe he hb heq=>by
   have h3:=hall e he hb;have h0:=(ER.1 hr).1;rw[heq]at h3;rcases kS i listed.size with h'|h'
   ·simp[h']at h0 h3;rw[h0]at h3;cases h3
   simp[Array.getElem?_eq_none h']at h3
  have hjk:j≠k:=λe=>by
   subst e;rw[hoj]at hok;obtain rfl:=jl hok;obtain⟨e,he,hb,heq⟩:=ag;exact hnot e he hb heq
  have aa:j≠st:=λe=>by
   subst e;rw[hoj]at hst;obtain rfl:=jl hst;obtain⟨e,he,hb,heq⟩:=af;have h3:=hall e he hb;rw[heq]at h3;rcases kS k listed.size with h'|h'
   ·simp[h']at hk h3;rw[hk]at h3;cases h3
   simp[Array.getElem?_eq_none h']at h3
  have hap:=hfree j oj hoj hji hjun hnot;obtain⟨_,_,h3⟩:=RU hap;have hw:YieldsIf P ops (λ_=>False) oi v a:=hy.imp (λh=>⟨h.1,λ_ h=>h.elim⟩) id;have h2:=RX (S:=λ_=>False) hoj hap (λcs b=>hsel i oi cs b hi) (λcs b=>hsel j oj cs b hoj) hQ hw h1;have h4:=su (R:=λa'=>jX P ops C oi v a') hoj
   (λa' u hR=>hR.of_same (RY oi (λcs b=>hsel i oi cs b hi) a' oj.dst u h3) (RZ oi a' oj.dst u h3)) (λa' d hR=>hR.of_same rfl rfl) hy h2
  have hfree':∀k ok,ops[k]?=some ok->k≠i->(listed.setIfInBounds j true).getD k true=false->
   (∀e∈ok.after,Region.binds md e=true->e.on≠i)->oi.apart ops ok=true:=λk ok hk hki hun hno=>by
   refine hfree k ok hk hki ?_ hno;by_cases hjk:j=k
   ·subst hjk;exact hjun
   rw[sU true hjk]at hun;exact hun
  have hs':(listed.setIfInBounds j true).getD st true=false:=by rw[sU true aa];exact hs
  have hk':(listed.setIfInBounds j true).getD k true=false:=by rw[sU true hjk];exact hk
  refine M9 (λa' w' h5=>?_) h4;obtain⟨h6,h7,h8,h9⟩:=h5;have hC':C w':=h8 (by rw[sU true aa,ah];exact hs);refine⟨λ_=>hC',ih (listed.setIfInBounds j true) a' w' hfree' (yK hr (MZ hji)) hs' hk' h6 hC' ?_⟩;rw[MW _ _ hji];exact h9
theorem BS{i k m:Nat}{oi ae ok om:Oper}{v:Value}(hi:ops[i]?=some oi)(hsel:∀(j:Nat)(o:Oper) cs b,ops[j]?=some o->o.op≠.select cs b)
 (hQ:∀c a w,Q (.panic c) (a.put oi.dst v) w->Q (.panic c) a w) (hst:ops[st]?=some ae) (hok:ops[k]?=some ok) (af:ops[m]?=some om) (ag:∃e∈ae.after,Region.binds md e=true/\e.on=k) (ah:∃e∈ok.after,Region.binds md e=true/\e.on=m) (ai:∃e∈om.after,Region.binds md e=true/\e.on=i) (hne:i≠st):
 ∀(fuel:Nat)(listed:Array Bool)(a:Act)(w:World),
  (∀j oj,ops[j]?=some oj->j≠i->listed.getD j true=false->(∀e∈oj.after,Region.binds md e=true->e.on≠i)->oi.apart ops oj=true)->
  i∈Region.ready md ops listed->listed.getD st true=false->listed.getD k true=false->listed.getD m true=false->jX P ops C oi v a->C w->
  iN P md ops Q C st fuel (listed.setIfInBounds i true) (a.put oi.dst v) w->iN P md ops Q C st (fuel+1) listed a w:=by
 have aj:∀(listed:Array Bool),(listed.setIfInBounds i true).getD st true=listed.getD st true:=λlisted=>sU true hne
 intro fuel
 induction fuel with
 |zero=>
  intro listed a w _ hr hs hk hm hy hC H;refine⟨λh=>(by rw[h]at hr;cases hr),λj hj=>?_⟩;by_cases hji:j=i
  ·subst hji;exact hy.wpOp hi hC ⟨λ_=>hC,H⟩
  have h1:=yK hj hji;rw[H.1]at h1;cases h1
 |succ fuel ih=>
  intro listed a w hfree hr hs hk hm hy hC H;refine⟨λh=>(by rw[h]at hr;cases hr),λj hj=>?_⟩;by_cases hji:j=i
  ·subst hji;exact hy.wpOp hi hC ⟨λ_=>hC,H⟩
  have h1:=H.2 j (yK hj hji);obtain⟨hjun,oj,hoj,hall⟩:=ER.1 hj;have hnot:∀e∈oj.after,Region.binds md e=true->e.on≠i:=λe he hb heq=>by
   have h3:=hall e he hb;have h0:=(ER.1 hr).1;rw[heq]at h3;rcases kS i listed.size with h'|h'
   ·simp[h']at h0 h3;rw[h0]at h3;cases h3
   simp[Array.getElem?_eq_none h']at h3
  have hjm:j≠m:=λe=>by
   subst e;rw[hoj]at af;obtain rfl:=jl af;obtain⟨e,he,hb,heq⟩:=ai;exact hnot e he hb heq
  have hjk:j≠k:=λe=>by
   subst e;rw[hoj]at hok;obtain rfl:=jl hok;obtain⟨e,he,hb,heq⟩:=ah;have h3:=hall e he hb;rw[heq]at h3;rcases kS m listed.size with h'|h'
   ·simp[h']at hm h3;rw[hm]at h3;cases h3
   simp[Array.getElem?_eq_none h']at h3
  have aa:j≠st:=λe=>by
   subst e;rw[hoj]at hst;obtain rfl:=jl hst;obtain⟨e,he,hb,heq⟩:=ag;have h3:=hall e he hb;rw[heq]at h3;rcases kS k listed.size with h'|h'
   ·simp[h']at hk h3;rw[hk]at h3;cases h3
   simp[Array.getElem?_eq_none h']at h3
  have hap:=hfree j oj hoj hji hjun hnot;obtain⟨_,_,h3⟩:=RU hap;have hw:YieldsIf P ops (λ_=>False) oi v a:=hy.imp (λh=>⟨h.1,λ_ h=>h.elim⟩) id;have h2:=RX (S:=λ_=>False) hoj hap (λcs b=>hsel i oi cs b hi) (λcs b=>hsel j oj cs b hoj) hQ hw h1;have h4:=su (R:=λa'=>jX P ops C oi v a') hoj
   (λa' u hR=>hR.of_same (RY oi (λcs b=>hsel i oi cs b hi) a' oj.dst u h3) (RZ oi a' oj.dst u h3)) (λa' d hR=>hR.of_same rfl rfl) hy h2
  have hfree':∀k ok,ops[k]?=some ok->k≠i->(listed.setIfInBounds j true).getD k true=false->
   (∀e∈ok.after,Region.binds md e=true->e.on≠i)->oi.apart ops ok=true:=λk ok hk hki hun hno=>by
   refine hfree k ok hk hki ?_ hno;by_cases hjk:j=k
   ·subst hjk;exact hjun
   rw[sU true hjk]at hun;exact hun
  have hs':(listed.setIfInBounds j true).getD st true=false:=by rw[sU true aa];exact hs
  have hk':(listed.setIfInBounds j true).getD k true=false:=by rw[sU true hjk];exact hk
  have hm':(listed.setIfInBounds j true).getD m true=false:=by rw[sU true hjm];exact hm
  refine M9 (λa' w' h5=>?_) h4;obtain⟨h6,h7,h8,h9⟩:=h5;have hC':C w':=h8 (by rw[sU true aa,aj];exact hs);refine⟨λ_=>hC',ih (listed.setIfInBounds j true) a' w' hfree' (yK hr (MZ hji)) hs' hk' hm' h6 hC' ?_⟩;rw[MW _ _ hji];exact h9
theorem BU{i:Nat}{oi:Oper}{v:Value}(hi:ops[i]?=some oi)(hsel:∀(j:Nat)(o:Oper) cs b,ops[j]?=some o->o.op≠.select cs b)
 (hQ:∀c a w,Q (.panic c) (a.put oi.dst v) w->Q (.panic c) a w) (hne:i≠st):
 ∀(fuel:Nat)(listed:Array Bool)(a:Act)(w:World),
  (∀j oj,ops[j]?=some oj->j≠i->listed.getD j true=false->(∀e∈oj.after,Region.binds md e=true->e.on≠i)->oi.apart ops oj=true)->
  i∈Region.ready md ops listed->jX P ops (λ_=>True) oi v a->(listed.getD st true=false->C w)->
  iN P md ops Q C st fuel (listed.setIfInBounds i true) (a.put oi.dst v) w->iN P md ops Q C st (fuel+1) listed a w:=by
 have aa:∀(listed:Array Bool),(listed.setIfInBounds i true).getD st true=listed.getD st true:=λlisted=>sU true hne
 intro fuel
 induction fuel with
 |zero=>
  intro listed a w _ hr hy hC H;refine⟨λh=>(by rw[h]at hr;cases hr),λj hj=>?_⟩;by_cases hji:j=i
  ·subst hji;exact hy.wpOp hi trivial ⟨λh=>hC (by rw[<-aa];exact h),H⟩
  have h1:=yK hj hji;rw[H.1]at h1;cases h1
 |succ fuel ih=>
  intro listed a w hfree hr hy hC H;refine⟨λh=>(by rw[h]at hr;cases hr),λj hj=>?_⟩;by_cases hji:j=i
  ·subst hji;exact hy.wpOp hi trivial ⟨λh=>hC (by rw[<-aa];exact h),H⟩
  have h1:=H.2 j (yK hj hji);obtain⟨hjun,oj,hoj,hall⟩:=ER.1 hj;have hnot:∀e∈oj.after,Region.binds md e=true->e.on≠i:=λe he hb heq=>by
   have h3:=hall e he hb;have h0:=(ER.1 hr).1;rw[heq]at h3;rcases kS i listed.size with h'|h'
   ·simp[h']at h0 h3;rw[h0]at h3;cases h3
   simp[Array.getElem?_eq_none h']at h3
  have hap:=hfree j oj hoj hji hjun hnot;obtain⟨_,_,h3⟩:=RU hap;have hw:YieldsIf P ops (λ_=>False) oi v a:=hy.imp (λh=>⟨h.1,λ_ h=>h.elim⟩) id;have h2:=RX (S:=λ_=>False) hoj hap (λcs b=>hsel i oi cs b hi) (λcs b=>hsel j oj cs b hoj) hQ hw h1;have h4:=su (R:=λa'=>jX P ops (λ_=>True) oi v a') hoj
   (λa' u hR=>hR.of_same (RY oi (λcs b=>hsel i oi cs b hi) a' oj.dst u h3) (RZ oi a' oj.dst u h3)) (λa' d hR=>hR.of_same rfl rfl) hy h2
  have hfree':∀k ok,ops[k]?=some ok->k≠i->(listed.setIfInBounds j true).getD k true=false->
   (∀e∈ok.after,Region.binds md e=true->e.on≠i)->oi.apart ops ok=true:=λk ok hk hki hun hno=>by
   refine hfree k ok hk hki ?_ hno;by_cases hjk:j=k
   ·subst hjk;exact hjun
   rw[sU true hjk]at hun;exact hun
  refine M9 (λa' w' h5=>?_) h4;obtain⟨h6,h7,h8,h9⟩:=h5;have hC':(listed.setIfInBounds j true).getD st true=false->C w':=λh=>h8 (by rw[MW _ _ (MZ hji),aa];exact h)
  refine⟨hC',ih (listed.setIfInBounds j true) a' w' hfree' (yK hr (MZ hji)) h6 hC' ?_⟩;rw[MW _ _ hji];exact h9
theorem Em{i:Nat}{oi:Oper}{v:Value}{fuel:Nat}{listed:Array Bool}{a:Act}{w:World}(hi:ops[i]?=some oi)
 (hs:Region.noSelect ops=true) (hf:Region.free md ops listed i=true) (hr:(Region.ready md ops listed).contains i=true) (hne:(i !=st)=true)
 (hQ:∀c a w,Q (.panic c) (a.put oi.dst v) w->Q (.panic c) a w) (hy:jX P ops (λ_=>True) oi v a) (hC:listed.getD st true=false->C w)
 (h:iN P md ops Q C st fuel (listed.setIfInBounds i true) (a.put oi.dst v) w):iN P md ops Q C st (fuel+1) listed a w:=
 BU hi (Sa hs) hQ (KR.1 hne) fuel listed a w (Sb hi hf) (by simpa using hr) hy hC h
def Region.waits(md:Region.Mode)(ops:Array Oper)(st i:Nat):Bool:=match ops[st]? with
 |some o=>o.after.any (λe=>Region.binds md e&&e.on==i)&&(i !=st)
 |none=>false
theorem qp{i:Nat}{oi:Oper}{v:Value}{fuel:Nat}{listed:Array Bool}{a:Act}{w:World}(hi:ops[i]?=some oi)
 (hs:Region.noSelect ops=true) (hf:Region.free md ops listed i=true) (hr:(Region.ready md ops listed).contains i=true) (hw:Region.waits md ops st i=true) (hst:listed.getD st true=false)
 (hQ:∀c a w,Q (.panic c) (a.put oi.dst v) w->Q (.panic c) a w) (hy:jX P ops C oi v a) (hC:C w)
 (h:iN P md ops Q C st fuel (listed.setIfInBounds i true) (a.put oi.dst v) w):iN P md ops Q C st (fuel+1) listed a w:=by
 unfold Region.waits at hw;cases ho:ops[st]? with
 |none=>rw[ho]at hw;cases hw
 |some aa=>
  rw[ho]at hw;simp only[qH,Vb,KR,ne_eq,uD]at hw;obtain⟨⟨e,he,hb,heq⟩,hne⟩:=hw;exact El hi (Sa hs) hQ ho ⟨e,he,hb,heq⟩ hne fuel listed a w (Sb hi hf) (by simpa using hr) hst hy hC h
theorem En{i:Nat}(k:Nat){oi:Oper}{v:Value}{fuel:Nat}{listed:Array Bool}{a:Act}{w:World}(hi:ops[i]?=some oi)
 (hs:Region.noSelect ops=true) (hf:Region.free md ops listed i=true) (hr:(Region.ready md ops listed).contains i=true) (hw:(Region.waits md ops st k&&Region.waits md ops k i&&(i !=st))=true) (hst:(!listed.getD st true&& !listed.getD k true)=true)
 (hQ:∀c a w,Q (.panic c) (a.put oi.dst v) w->Q (.panic c) a w) (hy:jX P ops C oi v a) (hC:C w)
 (h:iN P md ops Q C st fuel (listed.setIfInBounds i true) (a.put oi.dst v) w):iN P md ops Q C st (fuel+1) listed a w:=by
 unfold Region.waits at hw;rw[qH,MX,MX]at hst;cases ho:ops[st]? with
 |none=>rw[ho]at hw;simp at hw
 |some aa=>
  cases hk:ops[k]? with
  |none=>rw[ho,hk]at hw;simp at hw
  |some ok=>
   rw[ho,hk]at hw;simp only[qH,Vb,KR,ne_eq,uD]at hw;obtain⟨⟨⟨⟨e,he,hb,heq⟩,_⟩,⟨e',he',hb',heq'⟩,_⟩,hne⟩:=hw;exact BR hi (Sa hs) hQ ho hk ⟨e,he,hb,heq⟩ ⟨e',he',hb',heq'⟩ hne fuel listed a w (Sb hi hf) (by simpa using hr) hst.1 hst.2 hy hC h
theorem Eo{i:Nat}(k m:Nat){oi:Oper}{v:Value}{fuel:Nat}{listed:Array Bool}{a:Act}{w:World}(hi:ops[i]?=some oi)
 (hs:Region.noSelect ops=true) (hf:Region.free md ops listed i=true) (hr:(Region.ready md ops listed).contains i=true) (hw:(Region.waits md ops st k&&(Region.waits md ops k m&&Region.waits md ops m i&&(i !=st)))=true) (hst:(!listed.getD st true&&(!listed.getD k true&& !listed.getD m true))=true)
 (hQ:∀c a w,Q (.panic c) (a.put oi.dst v) w->Q (.panic c) a w) (hy:jX P ops C oi v a) (hC:C w)
 (h:iN P md ops Q C st fuel (listed.setIfInBounds i true) (a.put oi.dst v) w):iN P md ops Q C st (fuel+1) listed a w:=by
 unfold Region.waits at hw;rw[qH,qH,MX,MX,MX]at hst;cases ho:ops[st]? with
 |none=>rw[ho]at hw;simp at hw
 |some aa=>
  cases hk:ops[k]? with
  |none=>rw[ho,hk]at hw;simp at hw
  |some ok=>
   cases hm:ops[m]? with
   |none=>rw[ho,hk,hm]at hw;simp at hw
   |some om=>
    rw[ho,hk,hm]at hw;simp only[qH,Vb,KR,ne_eq,uD]at hw;obtain⟨⟨⟨e,he,hb,heq⟩,_⟩,⟨⟨⟨e',he',hb',heq'⟩,_⟩,⟨e2,he2,hb2,heq2⟩,_⟩,hne⟩:=hw;exact BS hi (Sa hs) hQ ho hk hm ⟨e,he,hb,heq⟩ ⟨e',he',hb',heq'⟩ ⟨e2,he2,hb2,heq2⟩ hne fuel listed a w (Sb hi hf) (by simpa using hr) hst.1 hst.2.1 hst.2.2 hy hC h
theorem gH{listed:Array Bool}{a:Act}{w:World}(hr:Region.ready md ops listed=[])(h:Q .normal a w):
 ∀fuel,iN P md ops Q C st fuel listed a w
 |0=>⟨hr,h⟩
 |_+1=>⟨λ_=>h,by rw[hr];simp⟩
def iE(P:Program)(md:Region.Mode)(ops:Array Oper)(Q:Exit->Act->World->Prop)(C:World->Prop)(st fuel:Nat)(listed:Array Bool)(a:Act)(w:World)(rs:List Nat):Prop:=
 ∀i∈rs,wpOp P ops Q i (λa' w'=>((listed.setIfInBounds i true).getD st true=false->C w')/\iN P md ops Q C st fuel (listed.setIfInBounds i true) a' w') a w
theorem iE.nil{fuel:Nat}{listed:Array Bool}{a:Act}{w:World}:iE P md ops Q C st fuel listed a w []:=λ_ h=>by cases h
theorem iE.cons{fuel:Nat}{listed:Array Bool}{a:Act}{w:World}{i:Nat}{o:Oper}{rs:List Nat}(ho:ops[i]?=some o)
 (h:∀K':Act->World->Prop,Shut (∀a w,((listed.setIfInBounds i true).getD st true=false->C w)->(((listed.setIfInBounds i true).getD st true=false->C w)->iN P md ops Q C st fuel (listed.setIfInBounds i true) a w)->K' a w)->if Region.wanted o (yielded ops a.tmps)=true then Oper.wp P o a w K' Q else K' (a.put o.dst undef) w)
 (hs:iE P md ops Q C st fuel listed a w rs):iE P md ops Q C st fuel listed a w (i::rs):=λj hj=>by
 rcases l5.1 hj with rfl|hj
 ·exact wpOp_step ho (λK' hK=>h K' (λa w hC hW=>hK a w ⟨hC,hW hC⟩))
 exact hs j hj
theorem nI{rs:List Nat}{fuel:Nat}{listed:Array Bool}{a:Act}{w:World}(hr:Region.ready md ops listed=rs)(hne:rs≠[])
 (h:iE P md ops Q C st fuel listed a w rs):iN P md ops Q C st (fuel+1) listed a w:=
 ⟨λh0=>absurd (hr▸h0) hne,hr▸h⟩
theorem gK{id:Nat}{a:Act}{w:World}(C:World->Prop)(st:Nat)(hm:P.follows .mixedOrders=true)
 (h:iN P .any ops Q C st ops.size (Array.replicate ops.size false) a w.drew):(Code.region id ops true).wp P Q a w:=
 wp_region_any hm (AQ _ _ _ _ h)
end
end Go
namespace Go.Proofs.YtmkkdjpebbdikaaGreatDoor
open RowKit Tryz
end Go.Proofs.YtmkkdjpebbdikaaGreatDoor
namespace Go
open Go.Proofs.YtmkkdjpebbdikaaGreatDoor
class sI (l:List Value) (n:Nat) (v:Value) (r:outParam (List Value)):Prop where
 is:l.set n v=r
instance {x v:Value}{l:List Value}:sI (x::l) 0 v (v::l):=⟨rfl⟩
instance {x v:Value}{l r:List Value}{n:Nat}[h:sI l n v r]:sI (x::l) (n+1) v (x::r):=⟨by rw[fO,h.is]⟩
instance {v u:Value}{l k r:List Value}{n m:Nat}[h:sI l m u k][g:sI k n v r]:sI (l.set m u) n v r:=⟨by rw[h.is,g.is]⟩
def yL(md:Region.Mode)(ops:Array Oper)(listed:Array Bool)(i:Nat):Bool:=Region.noSelect ops&&Region.free md ops listed i&&(Region.ready md ops listed).contains i
section
variable {P:Program}{ops:Array Oper}{Q:Exit->Act->World->Prop}{md:Region.Mode}{C:World->Prop}{st:Nat}
variable {d:Tmp}{op:Op}{ty:TypeId}{ps:String}{af:Array Edge}{g:Option (Nat×Bool)}{fuel:Nat}{listed:Array Bool}{l l':List Value}{df:List Deferred}{w:World}
theorem iD(i:Nat)(v:Value)(hi:ops[i]?=some ⟨some d,op,ty,ps,af,g⟩)(hk:(yL md ops listed i&&(i !=st))=true)(hw:Region.wanted ⟨some d,op,ty,ps,af,g⟩ (yielded ops l.toArray)=true)
 (hQ:∀c a w,Q (.panic c) (Act.put a (some d) v) w->Q (.panic c) a w) (hy:∀w,(execOp (Act.eval ⟨l.toArray,df⟩) ⟨some d,op,ty,ps,af,g⟩).run P w=.ok (.value v) w) (hC:listed.getD st true=false->C w) [hs:sI l d v l'] (h:iN P md ops Q C st fuel (listed.setIfInBounds i true) ⟨l'.toArray,df⟩ w):iN P md ops Q C st (fuel+1) listed ⟨l.toArray,df⟩ w:=by
 have ha:Act.put ⟨l.toArray,df⟩ (some d) v=⟨l'.toArray,df⟩:=by simp only[Act.put,fK,hs.is]
 rw[<-ha]at h;simp only[yL,qH]at hk;obtain⟨⟨⟨h1,h2⟩,h3⟩,h4⟩:=hk;exact Em hi h1 h2 h3 h4 hQ (.inl ⟨hw,λw _=>.of_run (hy w)⟩) hC h
theorem ik(i:Nat)(v:Value)(hi:ops[i]?=some ⟨some d,op,ty,ps,af,g⟩)(hk:(yL md ops listed i&&Region.waits md ops st i&&(!listed.getD st true))=true)(hw:Region.wanted ⟨some d,op,ty,ps,af,g⟩ (yielded ops l.toArray)=true)
 (hQ:∀c a w,Q (.panic c) (Act.put a (some d) v) w->Q (.panic c) a w) (hy:∀w,C w->(execOp (Act.eval ⟨l.toArray,df⟩) ⟨some d,op,ty,ps,af,g⟩).run P w=.ok (.value v) w) (hC:C w) [hs:sI l d v l'] (h:iN P md ops Q C st fuel (listed.setIfInBounds i true) ⟨l'.toArray,df⟩ w):iN P md ops Q C st (fuel+1) listed ⟨l.toArray,df⟩ w:=by
 have ha:Act.put ⟨l.toArray,df⟩ (some d) v=⟨l'.toArray,df⟩:=by simp only[Act.put,fK,hs.is]
 rw[<-ha]at h;simp only[yL,qH]at hk;obtain⟨⟨⟨⟨h1,h2⟩,h3⟩,h4⟩,h5⟩:=hk;exact qp hi h1 h2 h3 h4 (by simpa using h5) hQ (.inl ⟨hw,λw hC=>.of_run (hy w hC)⟩) hC h
theorem Xn(k i:Nat)(v:Value)(hi:ops[i]?=some ⟨some d,op,ty,ps,af,g⟩)(hk:(yL md ops listed i&&(Region.waits md ops st k&&Region.waits md ops k i&&(i !=st))&&(!listed.getD st true&& !listed.getD k true))=true)(hw:Region.wanted ⟨some d,op,ty,ps,af,g⟩ (yielded ops l.toArray)=true)
 (hQ:∀c a w,Q (.panic c) (Act.put a (some d) v) w->Q (.panic c) a w) (hy:∀w,C w->(execOp (Act.eval ⟨l.toArray,df⟩) ⟨some d,op,ty,ps,af,g⟩).run P w=.ok (.value v) w) (hC:C w) [hs:sI l d v l'] (h:iN P md ops Q C st fuel (listed.setIfInBounds i true) ⟨l'.toArray,df⟩ w):iN P md ops Q C st (fuel+1) listed ⟨l.toArray,df⟩ w:=by
 have ha:Act.put ⟨l.toArray,df⟩ (some d) v=⟨l'.toArray,df⟩:=by simp only[Act.put,fK,hs.is]
 rw[<-ha]at h;simp only[yL,qH]at hk;obtain⟨⟨⟨⟨h1,h2⟩,h3⟩,h4⟩,h5⟩:=hk;exact En k hi h1 h2 h3 (by simpa using h4) (by simpa using h5) hQ (.inl ⟨hw,λw hC=>.of_run (hy w hC)⟩) hC h
theorem Xo(k m i:Nat)(v:Value)(hi:ops[i]?=some ⟨some d,op,ty,ps,af,g⟩)(hk:(yL md ops listed i&&(Region.waits md ops st k&&(Region.waits md ops k m&&Region.waits md ops m i&&(i !=st)))&&(!listed.getD st true&&(!listed.getD k true&& !listed.getD m true)))=true)(hw:Region.wanted ⟨some d,op,ty,ps,af,g⟩ (yielded ops l.toArray)=true)
 (hQ:∀c a w,Q (.panic c) (Act.put a (some d) v) w->Q (.panic c) a w) (hy:∀w,C w->(execOp (Act.eval ⟨l.toArray,df⟩) ⟨some d,op,ty,ps,af,g⟩).run P w=.ok (.value v) w) (hC:C w) [hs:sI l d v l'] (h:iN P md ops Q C st fuel (listed.setIfInBounds i true) ⟨l'.toArray,df⟩ w):iN P md ops Q C st (fuel+1) listed ⟨l.toArray,df⟩ w:=by
 have ha:Act.put ⟨l.toArray,df⟩ (some d) v=⟨l'.toArray,df⟩:=by simp only[Act.put,fK,hs.is]
 rw[<-ha]at h;simp only[yL,qH]at hk;obtain⟨⟨⟨⟨h1,h2⟩,h3⟩,h4⟩,h5⟩:=hk;exact Eo k m hi h1 h2 h3 (by simpa using h4) (by simpa using h5) hQ (.inl ⟨hw,λw hC=>.of_run (hy w hC)⟩) hC h
theorem gY(i:Nat)(v:Value)(hi:ops[i]?=some ⟨some d,op,ty,ps,af,g⟩)(hk:(yL md ops listed i)=true)(hw:Region.wanted ⟨some d,op,ty,ps,af,g⟩ (yielded ops l.toArray)=true)
 (hQ:∀c a w,Q (.panic c) (Act.put a (some d) v) w->Q (.panic c) a w) (hy:∀w,C w->(execOp (Act.eval ⟨l.toArray,df⟩) ⟨some d,op,ty,ps,af,g⟩).run P w=.ok (.value v) w) (hC:C w) [hs:sI l d v l'] (h:wpAnyH P md ops Q C fuel (listed.setIfInBounds i true) ⟨l'.toArray,df⟩ w):wpAnyH P md ops Q C (fuel+1) listed ⟨l.toArray,df⟩ w:=by
 have ha:Act.put ⟨l.toArray,df⟩ (some d) v=⟨l'.toArray,df⟩:=by simp only[Act.put,fK,hs.is]
 rw[<-ha]at h;simp only[yL,qH]at hk;obtain⟨⟨h1,h2⟩,h3⟩:=hk;exact l6 hi h1 h2 h3 hQ (.inl ⟨hw,hy⟩) hC h
theorem Zk(i:Nat)(hi:ops[i]?=some ⟨some d,op,ty,ps,af,g⟩)(hk:(yL md ops listed i)=true)(hw:Region.wanted ⟨some d,op,ty,ps,af,g⟩ (yielded ops l.toArray)=false)
 (hQ:∀c a w,Q (.panic c) (Act.put a (some d) undef) w->Q (.panic c) a w) (hC:C w) [hs:sI l d undef l'] (h:wpAnyH P md ops Q C fuel (listed.setIfInBounds i true) ⟨l'.toArray,df⟩ w):wpAnyH P md ops Q C (fuel+1) listed ⟨l.toArray,df⟩ w:=by
 have ha:Act.put ⟨l.toArray,df⟩ (some d) undef=⟨l'.toArray,df⟩:=by simp only[Act.put,fK,hs.is]
 rw[<-ha]at h;simp only[yL,qH]at hk;obtain⟨⟨h1,h2⟩,h3⟩:=hk;exact l6 hi h1 h2 h3 hQ (.inr ⟨hw,rfl⟩) hC h
theorem mO(i:Nat)(hr:Region.ready md ops listed=[i]){e:Option Tmp}{a:Act}(hi:ops[i]?=some ⟨e,op,ty,ps,af,g⟩)(h:∀K':Act->World->Prop,Shut (∀a w,((listed.setIfInBounds i true).getD st true=false->C w)->(((listed.setIfInBounds i true).getD st true=false->C w)->iN P md ops Q C st fuel (listed.setIfInBounds i true) a w)->K' a w)->if Region.wanted ⟨e,op,ty,ps,af,g⟩ (yielded ops a.tmps)=true then Oper.wp P ⟨e,op,ty,ps,af,g⟩ a w K' Q else K' (a.put e undef) w):iN P md ops Q C st (fuel+1) listed a w:=
 nI hr (by simp) (iE.cons hi h iE.nil)
theorem vB(i:Nat)(hr:Region.ready md ops listed=[i]){e:Option Tmp}{a:Act}(hi:ops[i]?=some ⟨e,op,ty,ps,af,g⟩)(h:∀K':Act->World->Prop,Shut (∀a w,C w->(C w->wpAnyH P md ops Q C fuel (listed.setIfInBounds i true) a w)->K' a w)->if Region.wanted ⟨e,op,ty,ps,af,g⟩ (yielded ops a.tmps)=true then Oper.wp P ⟨e,op,ty,ps,af,g⟩ a w K' Q else K' (a.put e undef) w):wpAnyH P md ops Q C (fuel+1) listed a w:=
 Sd hr (by simp) (H7 hi h Se)
end
theorem kC{a:Bool}{q:Prop}(h1:a=true):a=false->q:=λh=>absurd (h1.symm.trans h) (by decide)
end Go
namespace Go.Proofs.YtmkkdjpebbdikaaGreatDoor
open RowKit Tryz
end Go.Proofs.YtmkkdjpebbdikaaGreatDoor
namespace Go
open Go.Proofs.YtmkkdjpebbdikaaGreatDoor
theorem yA{P:Program}{o:Oper}{a:Act}{w:World}{v:Value}{K:Act->Prop}(h:o.quietAt P a (λW=>W=w) w v)(hk:K (a.put o.dst v)):o.still P a w K:=by
 unfold Oper.quietAt at h;unfold Oper.still
 revert h
 generalize (execOp a.eval o).run P w=r;intro h;cases r with
 |halt x w'=>exact h.elim
 |ok n w' =>
  cases n with
  |value u=>obtain⟨rfl,rfl⟩:=h;exact⟨rfl,hk⟩
  |skip=>obtain⟨rfl,rfl⟩:=h;exact⟨rfl,hk⟩
  |enter f args=>obtain⟨rfl,hc⟩:=h;exact⟨rfl,v,hc,hk⟩
  |_=>exact h.elim
theorem oh{P:Program}{ops:Array Oper}{w:World}{Q:Act->Prop}:∀(l:List Oper)(a:Act),wpQuiet P ops (λW=>W=w) Q l a->wpStill P ops w Q l a
 |[],_,h=>h
 |o::rest,a,h=>by
  unfold wpQuiet at h;unfold wpStill;by_cases hw:Region.wanted o (yielded ops a.tmps)=true
  ·rw[eY hw]at h⊢;obtain⟨v,h1,h2⟩:=h;exact yA (h1 w rfl) (oh rest _ h2)
  rw[eX hw]at h⊢;exact oh rest _ h
theorem iA{P:Program}{id:Nat}{Q:Exit->Act->World->Prop}{a:Act}{w:World}{l:List Oper}(n:Nat)(hm:P.follows .mixedOrders=true)(hB:Region.lexTailB .any l.toArray n=true)
 (h:wpQuiet P l.toArray (λW=>W=w.drew) (λa'=>wpList P l.toArray Q (l.drop n) a' w.drew) (l.take n) a):(Code.region id l.toArray true).wp P Q a w:=
 wp_region_still_tail n hm hB (oh _ _ h)
end Go
namespace Go.Proofs.YtmkkdjpebbdikaaGreatDoor
open RowKit Tryz
end Go.Proofs.YtmkkdjpebbdikaaGreatDoor
namespace Go
open Go.Proofs.YtmkkdjpebbdikaaGreatDoor
section
variable {P:Program}{a:Act}{w:World}{Q:Exit->Act->World->Prop}
theorem qG{c rest:Code}(l:Nat)(J:Act->World->Prop)(μ:Act->World->Nat)(hf:findLabel c l=some (Code.skip.seq rest))
 (pass:∀a w,J a w->rest.wp P (Exit.jump l (λa' w'=>J a' w'/\μ a' w'<μ a w) Q) a w)
 (first:(∀a w,J a w->rest.wp P (Exit.jump l J Q) a w)->c.wp P (Exit.jump l J Q) a w):(Code.scope c).wp P Q a w:=
 VA l J μ hf (first (λa w hJ=>VB (λe a' w' q=>by
  cases e with
  |goto l'=>exact⟨q.1,q.2.1⟩
  |normal=>exact q
  |exit id=>exact q
  |ret=>exact q
  |panic ch=>exact q
  |outgrown=>exact q) (pass a w hJ))) (λa w hJ=>wp_seq (wp_skip (pass a w hJ)))
end
end Go
namespace Go.Proofs.YtmkkdjpebbdikaaGreatDoor
open RowKit Tryz
section
open Go.Shelf
def SX:Go.Shelf.Ren:=⟨fun|32=>104|49=>134|n=>n,fun|0=>0|3=>3|4=>4|5=>5|21=>21|25=>108|30=>23|33=>102|66=>177|68=>179|69=>180|n=>n,fun|2=>0|3=>1|n=>n⟩
theorem O8:Lays7.n32 prog SX:={
 mixed:=by kernel_rfl,
 f32:=nK func104 (by kernel_rfl),
 f49:=nK func134 (by kernel_rfl),
 t0:=underlying0,
 a0:=isAgg0,
 z0:=sizeOf0,
 v0:=zeroValue0,
 i0:=by kernel_rfl,
 t3:=underlying3,
 a3:=isAgg3,
 z3:=sizeOf3,
 v3:=zeroValue3,
 i3:=by kernel_rfl,
 t4:=underlying4,
 a4:=isAgg4,
 z4:=sizeOf4,
 v4:=zeroValue4,
 i4:=by kernel_rfl,
 t5:=underlying5,
 a5:=isAgg5,
 z5:=sizeOf5,
 v5:=zeroValue5,
 i5:=by kernel_rfl,
 t21:=underlying21,
 a21:=isAgg21,
 z21:=sizeOf21,
 v21:=zeroValue21,
 i21:=by kernel_rfl,
 t25:=underlying108,
 a25:=isAgg108,
 z25:=sizeOf108,
 v25:=zeroValue108,
 i25:=by kernel_rfl,
 t30:=underlying23,
 a30:=isAgg23,
 z30:=sizeOf23,
 v30:=zeroValue23,
 i30:=by kernel_rfl,
 t33:=underlying102,
 a33:=isAgg102,
 z33:=sizeOf102,
 v33:=zeroValue102,
 i33:=by kernel_rfl,
 t66:=underlying177,
 a66:=isAgg177,
 z66:=sizeOf177,
 t68:=underlying179,
 a68:=isAgg179,
 z68:=sizeOf179,
 v68:=zeroValue179,
 i68:=by kernel_rfl,
 t69:=underlying180,
 a69:=isAgg180,
 z69:=sizeOf180,
 v69:=zeroValue180,
 i69:=by kernel_rfl,
 g2:=by kernel_rfl,
 g3:=by kernel_rfl}
end
section
open Go.Shelf
def Gz:Go.Shelf.Ren:=⟨fun|119=>145|137=>144|151=>135|152=>117|217=>162|224=>146|225=>147|266=>178|n=>n,fun|0=>0|3=>3|4=>4|5=>5|9=>9|21=>21|46=>108|n=>n,λn=>n⟩
theorem JB:Lays.n151 prog Gz:={
 mixed:=by kernel_rfl,
 f119:=nK func145 (by kernel_rfl),
 f137:=nK func144 (by kernel_rfl),
 f151:=nK func135 (by kernel_rfl),
 f152:=nK func117 (by kernel_rfl),
 f217:=nK func162 (by kernel_rfl),
 f224:=nK func146 (by kernel_rfl),
 f225:=nK func147 (by kernel_rfl),
 f266:=nK func178 (by kernel_rfl),
 t0:=underlying0,
 a0:=isAgg0,
 z0:=sizeOf0,
 v0:=zeroValue0,
 t3:=underlying3,
 a3:=isAgg3,
 z3:=sizeOf3,
 v3:=zeroValue3,
 t4:=underlying4,
 a4:=isAgg4,
 z4:=sizeOf4,
 v4:=zeroValue4,
 t5:=underlying5,
 a5:=isAgg5,
 z5:=sizeOf5,
 v5:=zeroValue5,
 t9:=underlying9,
 a9:=isAgg9,
 z9:=sizeOf9,
 v9:=zeroValue9,
 t21:=underlying21,
 a21:=isAgg21,
 z21:=sizeOf21,
 v21:=zeroValue21,
 t46:=underlying108,
 a46:=isAgg108,
 z46:=sizeOf108,
 v46:=zeroValue108}
def GA:Go.Shelf.Ren:=⟨fun|137=>144|217=>162|266=>178|n=>n,fun|3=>3|5=>5|9=>9|n=>n,λn=>n⟩
theorem SY:Lays.n137 prog GA:={
 mixed:=by kernel_rfl,
 f137:=nK func144 (by kernel_rfl),
 f217:=nK func162 (by kernel_rfl),
 f266:=nK func178 (by kernel_rfl),
 t3:=underlying3,
 a3:=isAgg3,
 z3:=sizeOf3,
 v3:=zeroValue3,
 t5:=underlying5,
 a5:=isAgg5,
 z5:=sizeOf5,
 v5:=zeroValue5,
 t9:=underlying9,
 a9:=isAgg9,
 z9:=sizeOf9,
 v9:=zeroValue9}
def GB:Go.Shelf.Ren:=⟨fun|99=>79|206=>121|n=>n,fun|3=>3|4=>4|9=>9|n=>n,λn=>n⟩
theorem S8:Lays.n99 prog GB:={
 mixed:=by kernel_rfl,
 f99:=nK func79 (by kernel_rfl),
 f206:=nK func121 (by kernel_rfl),
 t3:=underlying3,
 a3:=isAgg3,
 z3:=sizeOf3,
 v3:=zeroValue3,
 t4:=underlying4,
 a4:=isAgg4,
 z4:=sizeOf4,
 v4:=zeroValue4,
 t9:=underlying9,
 a9:=isAgg9,
 z9:=sizeOf9,
 v9:=zeroValue9}
end
section
open Go.Shelf Go.RowKit
def V4:Go.Shelf.Ren:=⟨fun|6=>46|14=>74|15=>75|20=>107|21=>108|22=>109|23=>110|24=>111|25=>112|26=>113|27=>114|28=>115|29=>116|46=>139|47=>140|48=>141|49=>142|50=>143|57=>161|n=>n,fun|0=>0|1=>1|2=>2|3=>3|4=>4|5=>5|6=>6|7=>7|8=>8|9=>9|10=>10|11=>11|12=>12|13=>13|14=>14|15=>15|16=>16|17=>17|18=>18|19=>19|20=>20|21=>21|22=>32|23=>79|24=>40|25=>81|27=>22|29=>35|37=>106|38=>107|39=>108|42=>48|44=>135|45=>136|46=>137|47=>138|48=>139|49=>140|50=>141|51=>142|52=>143|53=>144|54=>145|55=>146|66=>163|67=>164|68=>165|69=>166|70=>167|71=>168|76=>182|77=>87|78=>183|81=>197|82=>198|83=>199|84=>200|85=>201|86=>202|87=>101|88=>203|89=>204|90=>205|91=>206|92=>207|93=>208|94=>209|95=>210|96=>211|n=>n,λn=>n⟩
theorem JC:SlLaysF0.n6 prog V4:={
 mixed:=by kernel_rfl,
 f6:=⟨ "slices.SortFunc[[]corrector/api.Diag,corrector/api.Diag]",by decide,func46.trans (congrArg some (by kernel_rfl))⟩,
 f14:=⟨ "slices.pdqsortCmpFunc[corrector/api.Diag]",by decide,func74.trans (congrArg some (by kernel_rfl))⟩,
 f15:=nK func75 (by kernel_rfl),
 f20:=⟨ "slices.insertionSortCmpFunc[corrector/api.Diag]",by decide,func107.trans (congrArg some (by kernel_rfl))⟩,
 f21:=⟨ "slices.heapSortCmpFunc[corrector/api.Diag]",by decide,func108.trans (congrArg some (by kernel_rfl))⟩,
 f22:=⟨ "slices.breakPatternsCmpFunc[corrector/api.Diag]",by decide,func109.trans (congrArg some (by kernel_rfl))⟩,
 f23:=⟨ "slices.choosePivotCmpFunc[corrector/api.Diag]",by decide,func110.trans (congrArg some (by kernel_rfl))⟩,
 f24:=⟨ "slices.reverseRangeCmpFunc[corrector/api.Diag]",by decide,func111.trans (congrArg some (by kernel_rfl))⟩,
 f25:=⟨ "slices.partialInsertionSortCmpFunc[corrector/api.Diag]",by decide,func112.trans (congrArg some (by kernel_rfl))⟩,
 f26:=⟨ "slices.partitionEqualCmpFunc[corrector/api.Diag]",by decide,func113.trans (congrArg some (by kernel_rfl))⟩,
 f27:=⟨ "slices.partitionCmpFunc[corrector/api.Diag]",by decide,func114.trans (congrArg some (by kernel_rfl))⟩,
 f28:=nK func115 (by kernel_rfl),
 f29:=nK func116 (by kernel_rfl),
 f46:=⟨ "slices.siftDownCmpFunc[corrector/api.Diag]",by decide,func139.trans (congrArg some (by kernel_rfl))⟩,
 f47:=nK func140 (by kernel_rfl),
 f48:=nK func141 (by kernel_rfl),
 f49:=⟨ "slices.medianAdjacentCmpFunc[corrector/api.Diag]",by decide,func142.trans (congrArg some (by kernel_rfl))⟩,
 f50:=⟨ "slices.medianCmpFunc[corrector/api.Diag]",by decide,func143.trans (congrArg some (by kernel_rfl))⟩,
 f57:=⟨ "slices.order2CmpFunc[corrector/api.Diag]",by decide,func161.trans (congrArg some (by kernel_rfl))⟩,
 t0:=underlying0,
 a0:=isAgg0,
 z0:=sizeOf0,
 v0:=zeroValue0,
 t3:=underlying3,
 a3:=isAgg3,
 z3:=sizeOf3,
 v3:=zeroValue3,
 t4:=underlying4,
 a4:=isAgg4,
 z4:=sizeOf4,
 v4:=zeroValue4,
 t5:=underlying5,
 a5:=isAgg5,
 z5:=sizeOf5,
 v5:=zeroValue5,
 t9:=underlying9,
 a9:=isAgg9,
 z9:=sizeOf9,
 v9:=zeroValue9,
 t22:=underlying32,
 a22:=isAgg32,
 z22:=sizeOf32,
 v22:=zeroValue32,
 t25:=underlying81,
 a25:=isAgg81,
 z25:=sizeOf81,
 v25:=zeroValue81,
 t39:=underlying108,
 a39:=isAgg108,
 z39:=sizeOf108,
 v39:=zeroValue108,
 t45:=underlying136,
 a45:=isAgg136,
 z45:=sizeOf136,
 v45:=zeroValue136,
 t46:=underlying137,
 a46:=isAgg137,
 z46:=sizeOf137,
 v46:=zeroValue137,
 t50:=underlying141,
 a50:=isAgg141,
 z50:=sizeOf141,
 v50:=zeroValue141,
 t53:=underlying144,
 a53:=isAgg144,
 z53:=sizeOf144,
 v53:=zeroValue144,
 t55:=underlying146,
 a55:=isAgg146,
 z55:=sizeOf146,
 v55:=zeroValue146,
 t66:=underlying163,
 a66:=isAgg163,
 z66:=sizeOf163,
 v66:=zeroValue163,
 t70:=underlying167,
 a70:=isAgg167,
 z70:=sizeOf167,
 v70:=zeroValue167,
 t76:=underlying182,
 a76:=isAgg182,
 z76:=sizeOf182,
 v76:=zeroValue182,
 t77:=underlying87,
 a77:=isAgg87,
 z77:=sizeOf87,
 v77:=zeroValue87}
end
section
open Go.Shelf
def GD:Go.Shelf.Ren:=⟨fun|119=>145|137=>144|152=>117|153=>78|217=>162|224=>146|225=>147|226=>118|227=>119|228=>120|266=>178|n=>n,fun|0=>0|3=>3|4=>4|5=>5|9=>9|21=>21|46=>108|116=>149|117=>150|124=>171|n=>n,λn=>n⟩
theorem JD:Lays.n153 prog GD:={
 mixed:=by kernel_rfl,
 f119:=nK func145 (by kernel_rfl),
 f137:=nK func144 (by kernel_rfl),
 f152:=nK func117 (by kernel_rfl),
 f153:=nK func78 (by kernel_rfl),
 f217:=nK func162 (by kernel_rfl),
 f224:=nK func146 (by kernel_rfl),
 f225:=nK func147 (by kernel_rfl),
 f226:=nK func118 (by kernel_rfl),
 f227:=nK func119 (by kernel_rfl),
 f228:=nK func120 (by kernel_rfl),
 f266:=nK func178 (by kernel_rfl),
 t0:=underlying0,
 a0:=isAgg0,
 z0:=sizeOf0,
 v0:=zeroValue0,
 t3:=underlying3,
 a3:=isAgg3,
 z3:=sizeOf3,
 v3:=zeroValue3,
 t4:=underlying4,
 a4:=isAgg4,
 z4:=sizeOf4,
 v4:=zeroValue4,
 t5:=underlying5,
 a5:=isAgg5,
 z5:=sizeOf5,
 v5:=zeroValue5,
 t9:=underlying9,
 a9:=isAgg9,
 z9:=sizeOf9,
 v9:=zeroValue9,
 t21:=underlying21,
 a21:=isAgg21,
 z21:=sizeOf21,
 v21:=zeroValue21,
 t46:=underlying108,
 a46:=isAgg108,
 z46:=sizeOf108,
 v46:=zeroValue108,
 t116:=underlying149,
 a116:=isAgg149,
 z116:=sizeOf149,
 t117:=underlying150,
 a117:=isAgg150,
 z117:=sizeOf150,
 v117:=zeroValue150,
 t124:=underlying171,
 a124:=isAgg171,
 z124:=sizeOf171,
 v124:=zeroValue171}
def GG:Go.Shelf.Ren:=⟨fun|119=>145|120=>179|137=>144|151=>135|152=>117|162=>129|197=>180|217=>162|224=>146|225=>147|227=>119|228=>120|232=>148|234=>149|236=>150|260=>188|266=>178|271=>163|n=>n,fun|0=>0|3=>3|4=>4|5=>5|9=>9|21=>21|46=>108|105=>102|116=>149|117=>150|119=>177|124=>171|138=>179|139=>180|n=>n,fun|3=>0|4=>1|n=>n⟩
theorem S9:Lays.n162 prog GG:={
 mixed:=by kernel_rfl,
 f119:=nK func145 (by kernel_rfl),
 f120:=nK func179 (by kernel_rfl),
 f137:=nK func144 (by kernel_rfl),
 f151:=nK func135 (by kernel_rfl),
 f152:=nK func117 (by kernel_rfl),
 f162:=nK func129 (by kernel_rfl),
 f197:=nK func180 (by kernel_rfl),
 f217:=nK func162 (by kernel_rfl),
 f224:=nK func146 (by kernel_rfl),
 f225:=nK func147 (by kernel_rfl),
 f227:=nK func119 (by kernel_rfl),
 f228:=nK func120 (by kernel_rfl),
 f232:=nK func148 (by kernel_rfl),
 f234:=nK func149 (by kernel_rfl),
 f236:=nK func150 (by kernel_rfl),
 f260:=nK func188 (by kernel_rfl),
 f266:=nK func178 (by kernel_rfl),
 f271:=nK func163 (by kernel_rfl),
 t0:=underlying0,
 a0:=isAgg0,
 z0:=sizeOf0,
 v0:=zeroValue0,
 t3:=underlying3,
 a3:=isAgg3,
 z3:=sizeOf3,
 v3:=zeroValue3,
 t4:=underlying4,
 a4:=isAgg4,
 z4:=sizeOf4,
 v4:=zeroValue4,
 t5:=underlying5,
 a5:=isAgg5,
 z5:=sizeOf5,
 v5:=zeroValue5,
 t9:=underlying9,
 a9:=isAgg9,
 z9:=sizeOf9,
 v9:=zeroValue9,
 t21:=underlying21,
 a21:=isAgg21,
 z21:=sizeOf21,
 v21:=zeroValue21,
 t46:=underlying108,
 a46:=isAgg108,
 z46:=sizeOf108,
 v46:=zeroValue108,
 t105:=underlying102,
 a105:=isAgg102,
 z105:=sizeOf102,
 v105:=zeroValue102,
 t116:=underlying149,
 a116:=isAgg149,
 z116:=sizeOf149,
 t117:=underlying150,
 a117:=isAgg150,
 z117:=sizeOf150,
 v117:=zeroValue150,
 t119:=underlying177,
 a119:=isAgg177,
 z119:=sizeOf177,
 t124:=underlying171,
 a124:=isAgg171,
 z124:=sizeOf171,
 v124:=zeroValue171,
 t138:=underlying179,
 a138:=isAgg179,
 z138:=sizeOf179,
 v138:=zeroValue179,
 t139:=underlying180,
 a139:=isAgg180,
 z139:=sizeOf180,
 v139:=zeroValue180,
 g3:=by kernel_rfl,
 g4:=by kernel_rfl}
def Ep:Go.Shelf.Ren:=⟨fun|137=>144|217=>162|266=>178|n=>n,fun|3=>3|5=>5|9=>9|n=>n,λn=>n⟩
theorem O9:Lays.n137 prog Ep:={
 mixed:=by kernel_rfl,
 f137:=nK func144 (by kernel_rfl),
 f217:=nK func162 (by kernel_rfl),
 f266:=nK func178 (by kernel_rfl),
 t3:=underlying3,
 a3:=isAgg3,
 z3:=sizeOf3,
 v3:=zeroValue3,
 t5:=underlying5,
 a5:=isAgg5,
 z5:=sizeOf5,
 v5:=zeroValue5,
 t9:=underlying9,
 a9:=isAgg9,
 z9:=sizeOf9,
 v9:=zeroValue9}
def Er:Go.Shelf.Ren:=⟨fun|99=>79|206=>121|n=>n,fun|3=>3|4=>4|9=>9|n=>n,λn=>n⟩
theorem Pb:Lays.n99 prog Er:={
 mixed:=by kernel_rfl,
 f99:=nK func79 (by kernel_rfl),
 f206:=nK func121 (by kernel_rfl),
 t3:=underlying3,
 a3:=isAgg3,
 z3:=sizeOf3,
 v3:=zeroValue3,
 t4:=underlying4,
 a4:=isAgg4,
 z4:=sizeOf4,
 v4:=zeroValue4,
 t9:=underlying9,
 a9:=isAgg9,
 z9:=sizeOf9,
 v9:=zeroValue9}
end
end Go.Proofs.YtmkkdjpebbdikaaGreatDoor

import Derived.Test.YtmkkdjpebbdikaaGreatDoorZb00
import Derived.Below
import Derived.Deep.RegionHeld
import Derived.Deep.RegionHeld3
import Derived.Deep.RegionLawGrows
import Derived.KernelRfl
import Derived.Laws.AppendOwn
import Derived.Laws.AppendOwnNone
import Derived.Laws.Slices
import Derived.Lib.Hide
import Derived.OrdersHeld
import Derived.OwnWalk
import Derived.WalkKit
set_option linter.all false
set_option maxHeartbeats 16000000
set_option maxRecDepth 100000
namespace Go.Proofs.YtmkkdjpebbdikaaGreatDoor
def LQ:=@Value.slice.inj
def alR:=@info_parts
def aeL:=@run_slice_h
def aie:=@run_slice_l
def alS:=@wpList_append_own
def alT:=@World.cell?_alloc_new
def alU:=@World.ownsRow_nil
def akv:=@Calls.mono
def XZ:=@wpOp_mono
def Pg:=@getD_set_ne
def Cg:=@ready_mono
def aeM:=@mem_ready
def aeN:=@Oper.apart_spec
def aeO:=@wpOp_putIf
def aeP:=@execOp_put
def aeQ:=@wanted_put
def aeR:=@Region.noSelect_spec
def aeS:=@Region.free_spec
def vM:=@wpAnyH_take
def aeT:=@wpAnyH_ready
def Ph:=@AllReadyH.cons
def aeU:=@AllReadyH.nil
namespace Sq
open Go.RowKit
theorem fT(b off j:Nat):(⟨b,off,none⟩:Addr).add j=⟨b,off+j,none⟩:=by
 unfold Addr.add;split
 ·rename_i h;subst h;rfl
 ·rfl
theorem Ky{w:World}{a:Addr}{v:Value}(h:w.cell? a=some v):a.block<w.heap.size:=Zj
structure mW(α:Type) where
 cells:α->List Value
 k:Nat
 pos:0<k
 len:∀x,(cells x).length=k
 one:∀x,∀u∈cells x,u.oneCell'=true
variable {α:Type}
def mW.all(E:mW α):List α->List Value
 |[]=>[]
 |x::r=>E.cells x++E.all r
theorem lD(E:mW α)(l:List α):(E.all l).length=l.length*E.k:=by
 induction l with
 |nil=>simp[mW.all]
 |cons x r ih=>rw[mW.all,iK,E.len,ih,iR,Dr];omega
theorem TJ(E:mW α)(l m:List α):E.all (l++m)=E.all l++E.all m:=by
 induction l with
 |nil=>rfl
 |cons x r ih=>rw[Dm,mW.all,mW.all,ih,pI]
theorem xK(E:mW α)(l:List α):∀u∈E.all l,u.oneCell'=true:=by
 induction l with
 |nil=>intro u hu;cases hu
 |cons x r ih=>
  intro u hu;rw[mW.all,kC]at hu;rcases hu with hu|hu
  ·exact E.one x u hu
  ·exact ih u hu
theorem iJ(E:mW α)(l:List α)(j:Nat)(x:α)(h:l[j]?=some x)(i:Nat)(hi:i<E.k):(E.all l)[j*E.k+i]?=(E.cells x)[i]?:=by
 induction l generalizing j with
 |nil=>simp at h
 |cons y r ih=>
  cases j with
  |zero=>
   obtain rfl:y=x:=kU
   rw[mW.all,nK (by rw[E.len];omega)];simp
  |succ j=>
   rw[mW.all,oH PK,E.len,show(j+1)*E.k+i-E.k=j*E.k+i from by rw[Dr];omega];exact ih j kU
theorem ab4(E:mW α)(l:List α)(n:Nat):(E.all l).take (n*E.k)=E.all (l.take n):=by
 induction l generalizing n with
 |nil=>simp[mW.all]
 |cons x r ih=>
  cases n with
  |zero=>simp[mW.all]
  |succ n=>
   rw[mW.all,vJ,mW.all,List.take_append,E.len,show(n+1)*E.k-E.k=n*E.k from by rw[Dr];omega,ih n,zw PK]
def Reads(E:mW α)(w:World)(v:Value)(l:List α):Prop:=
 (v=.slice none 0 0/\l=[])\/∃b off cap,v=.slice (some ⟨b,off,none⟩) l.length cap/\l.length<=cap/\cap<=maxLen/\∀j x,l[j]?=some x->∀i u,(E.cells x)[i]?=some u->w.cell? ⟨b,off+j*E.k+i,none⟩=some u
variable {E:mW α}{w w':World}{v:Value}{l:List α}
theorem Reads.below(h:Reads E w v l)(hb:Below w.heap.size w w'):Reads E w' v l:=by
 rcases h with h|⟨b,off,cap,h1,h2,h3,h4⟩
 ·exact .inl h
 ·refine .inr ⟨b,off,cap,h1,h2,h3,λj x hj i u hu=>?_⟩;have h5:=h4 j x hj i u hu;rw[hb.cell (p:=⟨b,off+j*E.k+i,none⟩) (Ky h5)];exact h5
theorem Reads.shape(h:Reads E w v l):∃a cap,v=.slice a l.length cap:=by
 rcases h with⟨h1,h2⟩|⟨b,off,cap,h1,_⟩
 ·exact⟨none,0,by rw[h1,h2];rfl⟩
 ·exact⟨_,_,h1⟩
theorem Reads.size_le(h:Reads E w v l):l.length<=maxLen:=Zn
theorem Reads.wL{a:Option Addr}{cap:Nat}(h:Reads E w (.slice a l.length cap) l):l.length<=cap/\cap<=maxLen:=by
 rcases h with⟨hv,h0⟩|⟨b,off,cap',hv,g2,g3,g4⟩
 ·obtain⟨rfl,-,rfl⟩:=LQ hv;exact⟨by rw[h0];exact eO _,fP _⟩
 ·obtain⟨rfl,-,rfl⟩:=LQ hv;exact⟨g2,g3⟩
theorem Reads.at_{a:Option Addr}{cap:Nat}(h:Reads E w (.slice a l.length cap) l)(j:Nat)(x:α)(hj:l[j]?=some x):
 ∃b off,a=some ⟨b,off,none⟩/\∀i u,(E.cells x)[i]?=some u->w.cell? ⟨b,off+j*E.k+i,none⟩=some u:=by
 rcases h with⟨_,rfl⟩|⟨b,off,cap',hv,h2,h3,h4⟩
 ·simp at hj
 ·obtain⟨rfl,-,rfl⟩:=LQ hv;exact⟨b,off,rfl,h4 j x hj⟩
theorem Reads.fo{base:Nat}{e:TypeId}(h:w.ownsRow base e E.k v l.length (E.all l)):Reads E w v l:=by
 rcases h.2 with⟨h1,h2⟩|⟨g,cap,cur,h1,h2,h3,h4,h5,h6,h7⟩
 ·exact .inl ⟨h1,l9 h2⟩
 ·refine .inr ⟨g,0,cap,h1,h4,h5,λj x hj i u hu=>?_⟩;have hi:i<E.k:=by rw[<-E.len x];exact(eY.1 hu).1
  have c1:=h.cells (g:=g) (by rw[h1];rfl) _ _ ((iJ E l j x hj i hi).trans hu);rw[fT]at c1;rw[jY]at c1⊢;exact c1
theorem own_below{B e size n:Nat}{xs:List Value}(h:w.ownsRow B e size v n xs)(hb:Below w.heap.size w w'):w'.ownsRow B e size v n xs:=Y8
theorem lK{B B' e size n:Nat}{xs:List Value}(h:w.ownsRow B e size v n xs)(hB:B'<=B):w.ownsRow B' e size v n xs:=by
 refine⟨h.1,?_⟩;rcases h.2 with h0|⟨g,cap,cur,hv,hbg,rest⟩
 ·exact .inl h0
 ·exact .inr ⟨g,cap,cur,hv,iU hB hbg,rest⟩
structure Ty(P:Program)(E:mW α)(t e:TypeId)(bytes:Nat):Prop where
 ht:P.underlying t=some (.slice e)
 he:P.elem t=e
 parts:∃i z,P.info? e=some i/\i.zero=some z/\i.size=E.k/\i.bytes=bytes/\z.cells.size=E.k
 size:∀w,(sizeOf e).run P w=.ok E.k w
theorem Ty.of{P:Program}{E:mW α}{t e:TypeId}{bytes:Nat}{z:Value}(ht:P.underlying t=some (.slice e))(he:P.elem t=e)(hi:(P.info? e).map (λi=>(i.zero,i.size,i.bytes))=some (some z,E.k,bytes))(hz:z.cells.size=E.k)(hs:∀w,(sizeOf e).run P w=.ok E.k w):Ty P E t e bytes:=by
 obtain⟨i,h1,h2,h3,h4⟩:=alR hi;exact⟨ht,he,⟨i,z,h1,h2,h3,h4,hz⟩,hs⟩
theorem xX{a:Option Addr}{cap lo hi:Nat}(h:Reads E w (.slice a l.length cap) l)(h1:lo<=hi)(h2:hi<=l.length):
 Reads E w (.slice (if cap=lo then a else a.map λx=>x.add (lo*E.k)) (hi-lo) (cap-lo)) ((l.drop lo).take (hi-lo)):=by
 have hz:((l.drop lo).take (hi-lo)).length=hi-lo:=Jd
 rcases h with⟨hv,h0⟩|⟨b,off,cap',hv,g2,g3,g4⟩
 ·obtain⟨rfl,-,rfl⟩:=LQ hv;subst h0;obtain rfl:hi=0:=by simpa using h2
  obtain rfl:lo=0:=dS
  exact .inl ⟨rfl,rfl⟩
 ·obtain⟨rfl,-,rfl⟩:=LQ hv;by_cases hc:cap=lo
  ·rw[dX hc];refine .inr ⟨b,off,cap-lo,by rw[hz],dS,dS,λj x hj=>?_⟩;have:=(eY.1 hj).1;omega
  ·rw[dW hc];refine .inr ⟨b,off+lo*E.k,cap-lo,?_,dS,dS,λj x hj i u hu=>?_⟩
   ·rw[hz,AB,fT]
   ·have hj1:=(eY.1 hj).1;rw[List.getElem?_take,dX dS,sW]at hj;rw[show off+lo*E.k+j*E.k+i=off+(lo+j)*E.k+i from by rw[Dr];omega];exact g4 (lo+j) x hj i u hu
theorem Ka{P:Program}{t e:TypeId}{bytes:Nat}(T:Ty P E t e bytes){a:Option Addr}{cap lo hi:Nat}(h:Reads E w (.slice a l.length cap) l)(h1:lo<=hi)(h2:hi<=l.length):
 ∃v,(∀W:World,(Instr.slice t (.slice a l.length cap) (some (.int .i64 (lo:Int))) (some (.int .i64 (hi:Int))) none).run P W=.ok v W)/\Reads E w v ((l.drop lo).take (hi-lo)):=by
 have hb:=xX h h1 h2;have hc:=h.wL;refine⟨_,λW=>?_,hb⟩;rw[run_slice_lh W _ a l.length cap (by rw[T.he];exact T.ht) .i64 .i64 lo hi dS dS dS,T.he,T.size];simp[Result.andThen,sliced]
theorem ag5{P:Program}{t e:TypeId}{bytes:Nat}(T:Ty P E t e bytes){a:Option Addr}{cap n:Nat}(h:Reads E w (.slice a l.length cap) l)(hn:n<=l.length):
 ∃v,(∀W:World,(Instr.slice t (.slice a l.length cap) none (some (.int .i64 (n:Int))) none).run P W=.ok v W)/\Reads E w v (l.take n):=by
 have hb:=xX h (fP n) hn;have hc:=h.wL;rw[lM,Gn]at hb;refine⟨_,λW=>?_,hb⟩;rw[aeL W _ a l.length cap (by rw[T.he];exact T.ht) .i64 n dS dS,T.he,T.size];simp[Result.andThen,sliced]
theorem ag6{P:Program}{t e:TypeId}{bytes:Nat}(T:Ty P E t e bytes){a:Option Addr}{cap n:Nat}(h:Reads E w (.slice a l.length cap) l)(hn:n<=l.length):
 ∃v,(∀W:World,(Instr.slice t (.slice a l.length cap) (some (.int .i64 (n:Int))) none none).run P W=.ok v W)/\Reads E w v (l.drop n):=by
 have hb:=xX h hn (eO _);have hc:=h.wL;rw[zw (by rw[ky];exact eO _)]at hb;refine⟨_,λW=>?_,hb⟩;rw[aie W _ a l.length cap (by rw[T.he];exact T.ht) .i64 n dS dS,T.he,T.size];simp[Result.andThen,sliced]
theorem news{b off:Nat}(h:∀j x,l[j]?=some x->∀i u,(E.cells x)[i]?=some u->w.cell? ⟨b,off+j*E.k+i,none⟩=some u):
 ∀j u,(E.all l)[j]?=some u->w.cell? ((⟨b,off,none⟩:Addr).add j)=some u:=by
 intro j u hu;have hj:j<l.length*E.k:=by rw[<-lD];exact(eY.1 hu).1
 have hk:=E.pos;have hd:j/E.k<l.length:=(Nat.div_lt_iff_lt_mul hk).2 hj
 have hm:j%E.k<E.k:=Nat.mod_lt _ hk
 have e1:j=j/E.k*E.k+j%E.k:=by rw[Nat.mul_comm];exact(Nat.div_add_mod j E.k).symm
 have hx:=fu hd;have h2:=h (j/E.k) _ hx (j%E.k) u (by rw[<-iJ E l (j/E.k) _ hx _ hm,<-e1];exact hu);rw[fT,show off+j=off+j/E.k*E.k+j%E.k from dS];exact h2
theorem rD{w0:World}{P:Program}{t e:TypeId}{bytes:Nat}(T:Ty P E t e bytes){ops:Array Oper}{rest:List Oper}{o:Oper}{act:Act}{Q:Exit->Act->World->Prop}(hgd:o.guard=none)(x y:Operand)
 (ho:o.op=.call {callee:=.builtin .append,args:=#[x,y],argTypes:=#[t,t]})
 (base:Nat) (v:Value) (l:List α) (u:α) (cs:List Value) (hc:E.cells u=cs) (hs:act.eval x=v) (hown:w0.ownsRow base e E.k v l.length (E.all l))
 (hy:act.eval y=.slice (some ⟨w0.heap.size,0,none⟩) 1 1) (hmax:l.length+1<=maxLen) (hlen:(l.length+1)*bytes<=140737488355328) (hbase:base<=w0.heap.size)
 (h:∀v' w',w'.ownsRow base e E.k v' (l++[u]).length (E.all (l++[u]))->(w0.alloc (.cells cs.toArray e)).grownBy w' v.ownBlock->wpList P ops Q rest (act.put o.dst v') w'):
 wpList P ops Q (o::rest) act (w0.alloc (.cells cs.toArray e)):=by
 obtain⟨i,z,hi,hz,hsz,hby,hzs⟩:=T.parts;subst hc;have ea:E.all [u]=E.cells u:=by rw[mW.all,mW.all,nJ]
 refine alS _ hgd x y t ho base e i z E.k bytes T.ht hi hz hsz hby hzs E.pos v l.length (E.all l) hs (hown.alloc _) ⟨w0.heap.size,0,none⟩ 1 1 (E.all [u]) hy (lD E [u]) ?_ (xK E [u]) hmax hlen eQ (λv' w' q1 q2 _=>h v' w' PN q2);intro j c hj;rw[ea]at hj;rw[fT,jY];rw[alT]
 simpa using hj
theorem kX{e:TypeId}(E:mW α)(w:World)(base:Nat):w.ownsRow base e E.k (.slice none 0 0) ([]:List α).length (E.all []):=alU w base e E.k
end Sq
namespace Sq
open Go.RowKit
variable {α:Type}{E:mW α}{w w':World}{l:List α}
def Full(E:mW α)(w:World)(v:Value)(l:List α):Prop:=Reads E w v l/\∃a,v=.slice a l.length l.length
theorem BS{P:Program}{t e:TypeId}{bytes:Nat}(T:Ty P E t e bytes){ops:Array Oper}{o:Oper}{act:Act}{K:Act->World->Prop}{Q:Exit->Act->World->Prop}{G:Prop}(hgd:o.guard=none)(x y:Operand)
 (ho:o.op=.call {callee:=.builtin .append,args:=#[x,y],argTypes:=#[t,t]})
 (v:Value) (l:List α) (hs:act.eval x=v) (hF:Full E w v l) (b m:Nat) (us:List α) (hm:us.length=m) (hm0:0<m) (hy:act.eval y=.slice (some ⟨b,0,none⟩) m m)
 (hnew:∀j c,(E.all us)[j]?=some c->w.cell? ⟨b,j,none⟩=some c) (hmax:l.length+m<=maxLen) (hlen:(l.length+m)*bytes<=140737488355328)
 (h:∀v' w',w'.ownsRow w.heap.size e E.k v' (l++us).length (E.all (l++us))->w.grownBy w' none->K (act.put o.dst v') w'):
 if Region.wanted o (yielded ops act.tmps)=true then Oper.wp P o act w K Q else G:=by
 obtain⟨i,z,hi,hz,hsz,hby,hzs⟩:=T.parts;obtain⟨hR,a,rfl⟩:=hF;refine step_append_grows hgd x y t ho e i z E.k bytes T.ht hi hz hsz hby hzs E.pos a l.length l.length (E.all l) hs ?_ (lD E l) ?_ ⟨b,0,none⟩ m m (E.all us) hy (by rw[lD,hm]) ?_ (xK E us) dS hmax hlen (λv' w' q1 q2=>h v' w' PY q2)
 ·intro ha;subst ha;rcases hR with⟨hv,h0⟩|⟨b,off,cap',hv,g2,g3,g4⟩
  ·rw[h0];exact⟨rfl,rfl⟩
  ·cases (LQ hv).1
 ·intro p hp;subst hp;rcases hR with⟨hv,h0⟩|⟨b,off,cap',hv,g2,g3,g4⟩
  ·cases (LQ hv).1
  ·obtain⟨e1,-,-⟩:=LQ hv;obtain rfl:=iG e1;exact news g4
 ·intro j c hj;rw[fT,jY];exact hnew j c hj
theorem uI{P:Program}{t e:TypeId}{bytes:Nat}(T:Ty P E t e bytes){ops:Array Oper}{o:Oper}{act:Act}{K:Act->World->Prop}{Q:Exit->Act->World->Prop}{G:Prop}(hgd:o.guard=none)(x y:Operand)
 (ho:o.op=.call {callee:=.builtin .append,args:=#[x,y],argTypes:=#[t,t]})
 (base:Nat) (v:Value) (l:List α) (hs:act.eval x=v) (hown:w.ownsRow base e E.k v l.length (E.all l)) (b m:Nat) (us:List α) (hm:us.length=m) (hy:act.eval y=.slice (some ⟨b,0,none⟩) m m)
 (hnew:∀j c,(E.all us)[j]?=some c->w.cell? ⟨b,j,none⟩=some c) (hmax:l.length+m<=maxLen) (hlen:(l.length+m)*bytes<=140737488355328) (hbase:base<=w.heap.size)
 (h:∀v' w',w'.ownsRow base e E.k v' (l++us).length (E.all (l++us))->w.grownBy w' v.ownBlock->K (act.put o.dst v') w'):
 if Region.wanted o (yielded ops act.tmps)=true then Oper.wp P o act w K Q else G:=by
 obtain⟨i,z,hi,hz,hsz,hby,hzs⟩:=T.parts;have hw:Region.wanted o (yielded ops act.tmps)=true:=by simp[Region.wanted,hgd]
 rw[dX hw];refine wp_append_own w x y t ho base e i z E.k bytes T.ht hi hz hsz hby hzs E.pos v l.length (E.all l) hs hown ⟨b,0,none⟩ m m (E.all us) hy (by rw[lD,hm]) ?_ (xK E us) hmax hlen hbase (λv' w' q1 q2 _=>h v' w' PY q2);intro j c hj;rw[fT,jY];exact hnew j c hj
end Sq
end Go.Proofs.YtmkkdjpebbdikaaGreatDoor
namespace Go
open Go.Proofs.YtmkkdjpebbdikaaGreatDoor
section
variable {P:Program}{ops:Array Oper}{Q:Exit->Act->World->Prop}{md:Region.Mode}{C:World->Prop}{st:Nat}
def lJ(P:Program)(m:Sem Next)(v:Value)(w:World):Prop:=
 match m.run P w with
 | .ok (.value u) w'=>u=v/\w'=w
 | .ok (.enter f args) w'=>w'=w/\Calls P f args w (λe w''=>e=.returned v/\w=w'')
 |_=>False
theorem lJ.of_run{m:Sem Next}{v:Value}{w:World}(h:m.run P w=.ok (.value v) w):lJ P m v w:=by
 unfold lJ;rw[h];exact⟨rfl,rfl⟩
theorem lJ.CF{m:Sem Next}{v:Value}{w:World}{f:FuncId}{args:Array Value}(h:m.run P w=.ok (.enter f args) w)(hc:Calls P f args w (λe w''=>e=.returned v/\w=w'')):lJ P m v w:=by
 unfold lJ;rw[h];exact⟨rfl,hc⟩
def j6(P:Program)(ops:Array Oper)(C:World->Prop)(o:Oper)(v:Value)(a:Act):Prop:=
 (Region.wanted o (yielded ops a.tmps)=true/\∀w,C w->lJ P (execOp a.eval o) v w)\/
 (Region.wanted o (yielded ops a.tmps)=false/\v=undef)
theorem j6.of_same{o:Oper}{v:Value}{a a':Act}(hy:j6 P ops C o v a)(he:execOp a'.eval o=execOp a.eval o)
 (hw:Region.wanted o (yielded ops a'.tmps)=Region.wanted o (yielded ops a.tmps)):j6 P ops C o v a':=by
 unfold j6 at*;rw[he,hw];exact hy
theorem j6.wpOp{i:Nat}{o:Oper}{v:Value}{a:Act}(hi:ops[i]?=some o)(hy:j6 P ops C o v a)
 {K:Act->World->Prop} {w:World} (hC:C w) (h:K (a.put o.dst v) w):wpOp P ops Q i K a w:=by
 unfold Go.wpOp;simp only[hi];rcases hy with⟨hw,hv⟩|⟨hw,rfl⟩
 ·rw[dX hw];refine .inl ?_;have hq:=hv w hC;unfold lJ at hq;unfold Oper.wp
  revert hq
  generalize (execOp a.eval o).run P w=r;intro hq;cases r with
  |halt x w'=>exact hq.elim
  |ok n w' =>
   cases n<;>simp only at hq
   case value u=>
    obtain⟨rfl,rfl⟩:=hq;exact h
   case enter f args=>
    obtain⟨rfl,hc⟩:=hq;simp only[Oper.upon];refine akv hc λe w'' he=>?_
    obtain⟨rfl,rfl⟩:=he;exact h
 ·rw[dW (by rw[hw];decide)];exact h
theorem vo{j:Nat}{oj:Oper}{R:Act->Prop}(hj:ops[j]?=some oj)(hp:∀a u,R a->R (a.put oj.dst u))(hd:∀a d,R a->R {a with defers:=d::a.defers}){K:Act->World->Prop}{a:Act}{w:World}
 (hR:R a) (h:wpOp P ops Q j K a w):wpOp P ops Q j (λa' w'=>R a'/\K a' w') a w:=by
 unfold wpOp at*;simp only[hj]at*;split
 ·rename_i hw;simp only[hw,if_true]at h;rcases h with h|h
  ·refine .inl ?_;unfold Oper.wp at*;generalize (execOp a.eval oj).run P w=r at*;cases r with
   |ok n w' =>
    cases n<;>simp only[Oper.upon]at h⊢
    case value u=>exact⟨hp _ _ hR,h⟩
    case skip=>exact⟨hp _ _ hR,h⟩
    case defer d=>exact⟨hp _ _ (hd _ _ hR),h⟩
    case enter f args=>
     refine akv h λe w'' he=>?_
     cases e with
     |returned u=>exact⟨hp _ _ hR,he⟩
     |panicked c=>exact he
     |outgrown=>exact he
    case row row args=>exact Rows.mono h λu w'' he=>⟨hp _ _ hR,he⟩
   |halt x w' =>
    cases x<;>simp only[Oper.upon]at h⊢
    case panic u=>exact h
  ·exact .inr h
 ·rename_i hw;simp only[hw]at h;exact⟨hp _ _ hR,h⟩
def gQ(P:Program)(md:Region.Mode)(ops:Array Oper)(Q:Exit->Act->World->Prop)(C:World->Prop)(st:Nat):Nat->Array Bool->Act->World->Prop
 |0,listed,a,w=>Region.ready md ops listed=[]/\Q .normal a w
 |fuel+1,listed,a,w=>
  (Region.ready md ops listed=[]->Q .normal a w)/\
  ∀i∈Region.ready md ops listed,wpOp P ops Q i (λa' w'=>((listed.setIfInBounds i true).getD st true=false->C w')/\gQ P md ops Q C st fuel (listed.setIfInBounds i true) a' w') a w
theorem Fw:∀(fuel:Nat)(listed:Array Bool)(a:Act)(w:World),gQ P md ops Q C st fuel listed a w->wpAny P md ops Q fuel listed a w
 |0,_,_,_,h=>h
 |fuel+1,_,_,_,h=>⟨h.1,λi hi=>XZ (λa' w' h'=>Fw fuel _ a' w' h'.2) (h.2 i hi)⟩
theorem KY{i:Nat}{oi aa:Oper}{v:Value}(hi:ops[i]?=some oi)(hsel:∀(j:Nat)(o:Oper) cs b,ops[j]?=some o->o.op≠.select cs b)
 (hQ:∀c a w,Q (.panic c) (a.put oi.dst v) w->Q (.panic c) a w) (hst:ops[st]?=some aa) (ae:∃e∈aa.after,Region.binds md e=true/\e.on=i) (hne:i≠st):
 ∀(fuel:Nat)(listed:Array Bool)(a:Act)(w:World),
  (∀j oj,ops[j]?=some oj->j≠i->listed.getD j true=false->(∀e∈oj.after,Region.binds md e=true->e.on≠i)->oi.apart ops oj=true)->
  i∈Region.ready md ops listed->listed.getD st true=false->j6 P ops C oi v a->C w->
  gQ P md ops Q C st fuel (listed.setIfInBounds i true) (a.put oi.dst v) w->gQ P md ops Q C st (fuel+1) listed a w:=by
 have hus:∀(listed:Array Bool),(listed.setIfInBounds i true).getD st true=listed.getD st true:=λlisted=>Pg true hne
 intro fuel
 induction fuel with
 |zero=>
  intro listed a w _ hr hs hy hC H;refine⟨λh=>wE,λj hj=>?_⟩;by_cases hji:j=i
  ·exact A8
  ·have h1:=Cg hj hji;rw[H.1]at h1;cases h1
 |succ fuel ih=>
  intro listed a w hfree hr hs hy hC H;refine⟨λh=>wE,λj hj=>?_⟩;by_cases hji:j=i
  ·exact A8
  ·have h1:=H.2 j (Cg hj hji);obtain⟨hjun,oj,hoj,hall⟩:=aeM.1 hj;have hnot:∀e∈oj.after,Region.binds md e=true->e.on≠i:=λe he hb heq=>JI
   have aeF:j≠st:=λe=>by
    subst e;rw[hoj]at hst;obtain rfl:=iG hst;obtain⟨e,he,hb,heq⟩:=ae;exact hnot e he hb heq
   have hap:=hfree j oj hoj hji hjun hnot;obtain⟨_,_,h3⟩:=aeN hap;have hw:YieldsIf P ops (λ_=>False) oi v a:=hy.imp (λh=>⟨h.1,λ_ h=>h.elim⟩) id;have h2:=aeO (S:=λ_=>False) hoj hap (λcs b=>hsel i oi cs b hi) (λcs b=>hsel j oj cs b hoj) hQ hw h1;have h4:=vo (R:=λa'=>j6 P ops C oi v a') hoj
    (λa' u hR=>hR.of_same (aeP oi (λcs b=>hsel i oi cs b hi) a' oj.dst u h3) (aeQ oi a' oj.dst u h3)) (λa' d hR=>hR.of_same rfl rfl) hy h2
   have hfree':∀k ok,ops[k]?=some ok->k≠i->(listed.setIfInBounds j true).getD k true=false->
    (∀e∈ok.after,Region.binds md e=true->e.on≠i)->oi.apart ops ok=true:=λk ok hk hki hun hno=>by
    refine hfree k ok hk hki ?_ hno;by_cases hjk:j=k
    ·subst hjk;exact hjun
    ·exact JO
   have hs':(listed.setIfInBounds j true).getD st true=false:=P7
   refine XZ (λa' w' h5=>?_) h4;obtain⟨h6,h7,h8,h9⟩:=h5;have hC':C w':=h8 P8;refine⟨λ_=>hC',ih (listed.setIfInBounds j true) a' w' hfree' (Cg hr (XU hji)) hs' h6 hC' ?_⟩;rw[XH _ _ hji];exact h9
theorem GB{i k:Nat}{oi aa ok:Oper}{v:Value}(hi:ops[i]?=some oi)(hsel:∀(j:Nat)(o:Oper) cs b,ops[j]?=some o->o.op≠.select cs b)
 (hQ:∀c a w,Q (.panic c) (a.put oi.dst v) w->Q (.panic c) a w) (hst:ops[st]?=some aa) (hok:ops[k]?=some ok) (ako:∃e∈aa.after,Region.binds md e=true/\e.on=k) (ae:∃e∈ok.after,Region.binds md e=true/\e.on=i) (hne:i≠st):
 ∀(fuel:Nat)(listed:Array Bool)(a:Act)(w:World),
  (∀j oj,ops[j]?=some oj->j≠i->listed.getD j true=false->(∀e∈oj.after,Region.binds md e=true->e.on≠i)->oi.apart ops oj=true)->
  i∈Region.ready md ops listed->listed.getD st true=false->listed.getD k true=false->j6 P ops C oi v a->C w->
  gQ P md ops Q C st fuel (listed.setIfInBounds i true) (a.put oi.dst v) w->gQ P md ops Q C st (fuel+1) listed a w:=by
 have hus:∀(listed:Array Bool),(listed.setIfInBounds i true).getD st true=listed.getD st true:=λlisted=>Pg true hne
 intro fuel
 induction fuel with
 |zero=>
  intro listed a w _ hr hs hk hy hC H;refine⟨λh=>wE,λj hj=>?_⟩;by_cases hji:j=i
  ·exact A8
  ·have h1:=Cg hj hji;rw[H.1]at h1;cases h1
 |succ fuel ih=>
  intro listed a w hfree hr hs hk hy hC H;refine⟨λh=>wE,λj hj=>?_⟩;by_cases hji:j=i
  ·exact A8
  ·have h1:=H.2 j (Cg hj hji);obtain⟨hjun,oj,hoj,hall⟩:=aeM.1 hj;have hnot:∀e∈oj.after,Region.binds md e=true->e.on≠i:=λe he hb heq=>JI
   have hjk:j≠k:=λe=>by
    subst e;rw[hoj]at hok;obtain rfl:=iG hok;obtain⟨e,he,hb,heq⟩:=ae;exact hnot e he hb heq
   have aeF:j≠st:=λe=>Y4
   have hap:=hfree j oj hoj hji hjun hnot;obtain⟨_,_,h3⟩:=aeN hap;have hw:YieldsIf P ops (λ_=>False) oi v a:=hy.imp (λh=>⟨h.1,λ_ h=>h.elim⟩) id;have h2:=aeO (S:=λ_=>False) hoj hap (λcs b=>hsel i oi cs b hi) (λcs b=>hsel j oj cs b hoj) hQ hw h1;have h4:=vo (R:=λa'=>j6 P ops C oi v a') hoj
    (λa' u hR=>hR.of_same (aeP oi (λcs b=>hsel i oi cs b hi) a' oj.dst u h3) (aeQ oi a' oj.dst u h3)) (λa' d hR=>hR.of_same rfl rfl) hy h2
   have hfree':∀k ok,ops[k]?=some ok->k≠i->(listed.setIfInBounds j true).getD k true=false->
    (∀e∈ok.after,Region.binds md e=true->e.on≠i)->oi.apart ops ok=true:=λk ok hk hki hun hno=>by
    refine hfree k ok hk hki ?_ hno;by_cases hjk:j=k
    ·subst hjk;exact hjun
    ·exact JO
   have hs':(listed.setIfInBounds j true).getD st true=false:=P7
   have hk':(listed.setIfInBounds j true).getD k true=false:=by rw[Pg true hjk];exact hk
   refine XZ (λa' w' h5=>?_) h4;obtain⟨h6,h7,h8,h9⟩:=h5;have hC':C w':=h8 P8;refine⟨λ_=>hC',ih (listed.setIfInBounds j true) a' w' hfree' (Cg hr (XU hji)) hs' hk' h6 hC' ?_⟩;rw[XH _ _ hji];exact h9
theorem GD{i k m:Nat}{oi aa ok om:Oper}{v:Value}(hi:ops[i]?=some oi)(hsel:∀(j:Nat)(o:Oper) cs b,ops[j]?=some o->o.op≠.select cs b)
 (hQ:∀c a w,Q (.panic c) (a.put oi.dst v) w->Q (.panic c) a w) (hst:ops[st]?=some aa) (hok:ops[k]?=some ok) (ae:ops[m]?=some om) (ako:∃e∈aa.after,Region.binds md e=true/\e.on=k) (af:∃e∈ok.after,Region.binds md e=true/\e.on=m) (ag:∃e∈om.after,Region.binds md e=true/\e.on=i) (hne:i≠st):
 ∀(fuel:Nat)(listed:Array Bool)(a:Act)(w:World),
  (∀j oj,ops[j]?=some oj->j≠i->listed.getD j true=false->(∀e∈oj.after,Region.binds md e=true->e.on≠i)->oi.apart ops oj=true)->
  i∈Region.ready md ops listed->listed.getD st true=false->listed.getD k true=false->listed.getD m true=false->j6 P ops C oi v a->C w->
  gQ P md ops Q C st fuel (listed.setIfInBounds i true) (a.put oi.dst v) w->gQ P md ops Q C st (fuel+1) listed a w:=by
 have hus:∀(listed:Array Bool),(listed.setIfInBounds i true).getD st true=listed.getD st true:=λlisted=>Pg true hne
 intro fuel
 induction fuel with
 |zero=>
  intro listed a w _ hr hs hk hm hy hC H;refine⟨λh=>wE,λj hj=>?_⟩;by_cases hji:j=i
  ·exact A8
  ·have h1:=Cg hj hji;rw[H.1]at h1;cases h1
 |succ fuel ih=>
  intro listed a w hfree hr hs hk hm hy hC H;refine⟨λh=>wE,λj hj=>?_⟩;by_cases hji:j=i
  ·exact A8
  ·have h1:=H.2 j (Cg hj hji);obtain⟨hjun,oj,hoj,hall⟩:=aeM.1 hj;have hnot:∀e∈oj.after,Region.binds md e=true->e.on≠i:=λe he hb heq=>JI
   have hjm:j≠m:=λe=>by
    subst e;rw[hoj]at ae;obtain rfl:=iG ae;obtain⟨e,he,hb,heq⟩:=ag;exact hnot e he hb heq
   have hjk:j≠k:=λe=>by
    subst e;rw[hoj]at hok;obtain rfl:=iG hok;obtain⟨e,he,hb,heq⟩:=af;have h3:=hall e he hb;rw[heq]at h3;rcases mD m listed.size with h'|h'
    ·simp[h']at hm h3;rw[hm]at h3;cases h3
    ·simp[Array.getElem?_eq_none h']at h3
   have aeF:j≠st:=λe=>Y4
   have hap:=hfree j oj hoj hji hjun hnot;obtain⟨_,_,h3⟩:=aeN hap;have hw:YieldsIf P ops (λ_=>False) oi v a:=hy.imp (λh=>⟨h.1,λ_ h=>h.elim⟩) id;have h2:=aeO (S:=λ_=>False) hoj hap (λcs b=>hsel i oi cs b hi) (λcs b=>hsel j oj cs b hoj) hQ hw h1;have h4:=vo (R:=λa'=>j6 P ops C oi v a') hoj
    (λa' u hR=>hR.of_same (aeP oi (λcs b=>hsel i oi cs b hi) a' oj.dst u h3) (aeQ oi a' oj.dst u h3)) (λa' d hR=>hR.of_same rfl rfl) hy h2
   have hfree':∀k ok,ops[k]?=some ok->k≠i->(listed.setIfInBounds j true).getD k true=false->
    (∀e∈ok.after,Region.binds md e=true->e.on≠i)->oi.apart ops ok=true:=λk ok hk hki hun hno=>by
    refine hfree k ok hk hki ?_ hno;by_cases hjk:j=k
    ·subst hjk;exact hjun
    ·exact JO
   have hs':(listed.setIfInBounds j true).getD st true=false:=P7
   have hk':(listed.setIfInBounds j true).getD k true=false:=by rw[Pg true hjk];exact hk
   have hm':(listed.setIfInBounds j true).getD m true=false:=by rw[Pg true hjm];exact hm
   refine XZ (λa' w' h5=>?_) h4;obtain⟨h6,h7,h8,h9⟩:=h5;have hC':C w':=h8 P8;refine⟨λ_=>hC',ih (listed.setIfInBounds j true) a' w' hfree' (Cg hr (XU hji)) hs' hk' hm' h6 hC' ?_⟩;rw[XH _ _ hji];exact h9
theorem GG{i:Nat}{oi:Oper}{v:Value}(hi:ops[i]?=some oi)(hsel:∀(j:Nat)(o:Oper) cs b,ops[j]?=some o->o.op≠.select cs b)
 (hQ:∀c a w,Q (.panic c) (a.put oi.dst v) w->Q (.panic c) a w) (hne:i≠st):
 ∀(fuel:Nat)(listed:Array Bool)(a:Act)(w:World),
  (∀j oj,ops[j]?=some oj->j≠i->listed.getD j true=false->(∀e∈oj.after,Region.binds md e=true->e.on≠i)->oi.apart ops oj=true)->
  i∈Region.ready md ops listed->j6 P ops (λ_=>True) oi v a->(listed.getD st true=false->C w)->
  gQ P md ops Q C st fuel (listed.setIfInBounds i true) (a.put oi.dst v) w->gQ P md ops Q C st (fuel+1) listed a w:=by
 have hus:∀(listed:Array Bool),(listed.setIfInBounds i true).getD st true=listed.getD st true:=λlisted=>Pg true hne
 intro fuel
 induction fuel with
 |zero=>
  intro listed a w _ hr hy hC H;refine⟨λh=>wE,λj hj=>?_⟩;by_cases hji:j=i
  ·exact ZB
  ·have h1:=Cg hj hji;rw[H.1]at h1;cases h1
 |succ fuel ih=>
  intro listed a w hfree hr hy hC H;refine⟨λh=>wE,λj hj=>?_⟩;by_cases hji:j=i
  ·exact ZB
  ·have h1:=H.2 j (Cg hj hji);obtain⟨hjun,oj,hoj,hall⟩:=aeM.1 hj;have hnot:∀e∈oj.after,Region.binds md e=true->e.on≠i:=λe he hb heq=>JI
   have hap:=hfree j oj hoj hji hjun hnot;obtain⟨_,_,h3⟩:=aeN hap;have hw:YieldsIf P ops (λ_=>False) oi v a:=hy.imp (λh=>⟨h.1,λ_ h=>h.elim⟩) id;have h2:=aeO (S:=λ_=>False) hoj hap (λcs b=>hsel i oi cs b hi) (λcs b=>hsel j oj cs b hoj) hQ hw h1;have h4:=vo (R:=λa'=>j6 P ops (λ_=>True) oi v a') hoj
    (λa' u hR=>hR.of_same (aeP oi (λcs b=>hsel i oi cs b hi) a' oj.dst u h3) (aeQ oi a' oj.dst u h3)) (λa' d hR=>hR.of_same rfl rfl) hy h2
   have hfree':∀k ok,ops[k]?=some ok->k≠i->(listed.setIfInBounds j true).getD k true=false->
    (∀e∈ok.after,Region.binds md e=true->e.on≠i)->oi.apart ops ok=true:=λk ok hk hki hun hno=>by
    refine hfree k ok hk hki ?_ hno;by_cases hjk:j=k
    ·subst hjk;exact hjun
    ·exact JO
   refine XZ (λa' w' h5=>?_) h4;obtain⟨h6,h7,h8,h9⟩:=h5;have hC':(listed.setIfInBounds j true).getD st true=false->C w':=λh=>h8 (by rw[XH _ _ (XU hji),hus];exact h)
   refine⟨hC',ih (listed.setIfInBounds j true) a' w' hfree' (Cg hr (XU hji)) h6 hC' ?_⟩;rw[XH _ _ hji];exact h9
theorem Ao{i:Nat}{oi:Oper}{v:Value}{fuel:Nat}{listed:Array Bool}{a:Act}{w:World}(hi:ops[i]?=some oi)
 (hs:Region.noSelect ops=true) (hf:Region.free md ops listed i=true) (hr:(Region.ready md ops listed).contains i=true) (hne:(i !=st)=true)
 (hQ:∀c a w,Q (.panic c) (a.put oi.dst v) w->Q (.panic c) a w) (hy:j6 P ops (λ_=>True) oi v a) (hC:listed.getD st true=false->C w)
 (h:gQ P md ops Q C st fuel (listed.setIfInBounds i true) (a.put oi.dst v) w):gQ P md ops Q C st (fuel+1) listed a w:=
 GG hi (aeR hs) hQ (Vg.1 hne) fuel listed a w (aeS hi hf) (by simpa using hr) hy hC h
def Region.waits(md:Region.Mode)(ops:Array Oper)(st i:Nat):Bool:=match ops[st]? with
 |some o=>o.after.any (λe=>Region.binds md e&&e.on==i)&&(i !=st)
 |none=>false
theorem nN{i:Nat}{oi:Oper}{v:Value}{fuel:Nat}{listed:Array Bool}{a:Act}{w:World}(hi:ops[i]?=some oi)
 (hs:Region.noSelect ops=true) (hf:Region.free md ops listed i=true) (hr:(Region.ready md ops listed).contains i=true) (hw:Region.waits md ops st i=true) (hst:listed.getD st true=false)
 (hQ:∀c a w,Q (.panic c) (a.put oi.dst v) w->Q (.panic c) a w) (hy:j6 P ops C oi v a) (hC:C w)
 (h:gQ P md ops Q C st fuel (listed.setIfInBounds i true) (a.put oi.dst v) w):gQ P md ops Q C st (fuel+1) listed a w:=by
 unfold Region.waits at hw;cases ho:ops[st]? with
 |none=>rw[ho]at hw;cases hw
 |some aa=>
  rw[ho]at hw;simp only[rO,ahC,Vg,ne_eq,uJ]at hw;obtain⟨⟨e,he,hb,heq⟩,hne⟩:=hw;exact KY hi (aeR hs) hQ ho ⟨e,he,hb,heq⟩ hne fuel listed a w (aeS hi hf) (by simpa using hr) hst hy hC h
theorem Ap{i:Nat}(k:Nat){oi:Oper}{v:Value}{fuel:Nat}{listed:Array Bool}{a:Act}{w:World}(hi:ops[i]?=some oi)
 (hs:Region.noSelect ops=true) (hf:Region.free md ops listed i=true) (hr:(Region.ready md ops listed).contains i=true) (hw:(Region.waits md ops st k&&Region.waits md ops k i&&(i !=st))=true) (hst:(!listed.getD st true&& !listed.getD k true)=true)
 (hQ:∀c a w,Q (.panic c) (a.put oi.dst v) w->Q (.panic c) a w) (hy:j6 P ops C oi v a) (hC:C w)
 (h:gQ P md ops Q C st fuel (listed.setIfInBounds i true) (a.put oi.dst v) w):gQ P md ops Q C st (fuel+1) listed a w:=by
 unfold Region.waits at hw;rw[rO,XI,XI]at hst;cases ho:ops[st]? with
 |none=>rw[ho]at hw;simp at hw
 |some aa=>
  cases hk:ops[k]? with
  |none=>rw[ho,hk]at hw;simp at hw
  |some ok=>
   rw[ho,hk]at hw;simp only[rO,ahC,Vg,ne_eq,uJ]at hw;obtain⟨⟨⟨⟨e,he,hb,heq⟩,_⟩,⟨e',he',hb',heq'⟩,_⟩,hne⟩:=hw;exact GB hi (aeR hs) hQ ho hk ⟨e,he,hb,heq⟩ ⟨e',he',hb',heq'⟩ hne fuel listed a w (aeS hi hf) (by simpa using hr) hst.1 hst.2 hy hC h
theorem Aq{i:Nat}(k m:Nat){oi:Oper}{v:Value}{fuel:Nat}{listed:Array Bool}{a:Act}{w:World}(hi:ops[i]?=some oi)
 (hs:Region.noSelect ops=true) (hf:Region.free md ops listed i=true) (hr:(Region.ready md ops listed).contains i=true) (hw:(Region.waits md ops st k&&(Region.waits md ops k m&&Region.waits md ops m i&&(i !=st)))=true) (hst:(!listed.getD st true&&(!listed.getD k true&& !listed.getD m true))=true)
 (hQ:∀c a w,Q (.panic c) (a.put oi.dst v) w->Q (.panic c) a w) (hy:j6 P ops C oi v a) (hC:C w)
 (h:gQ P md ops Q C st fuel (listed.setIfInBounds i true) (a.put oi.dst v) w):gQ P md ops Q C st (fuel+1) listed a w:=by
 unfold Region.waits at hw;rw[rO,rO,XI,XI,XI]at hst;cases ho:ops[st]? with
 |none=>rw[ho]at hw;simp at hw
 |some aa=>
  cases hk:ops[k]? with
  |none=>rw[ho,hk]at hw;simp at hw
  |some ok=>
   cases hm:ops[m]? with
   |none=>rw[ho,hk,hm]at hw;simp at hw
   |some om=>
    rw[ho,hk,hm]at hw;simp only[rO,ahC,Vg,ne_eq,uJ]at hw;obtain⟨⟨⟨e,he,hb,heq⟩,_⟩,⟨⟨⟨e',he',hb',heq'⟩,_⟩,⟨e2,he2,hb2,heq2⟩,_⟩,hne⟩:=hw;exact GD hi (aeR hs) hQ ho hk hm ⟨e,he,hb,heq⟩ ⟨e',he',hb',heq'⟩ ⟨e2,he2,hb2,heq2⟩ hne fuel listed a w (aeS hi hf) (by simpa using hr) hst.1 hst.2.1 hst.2.2 hy hC h
theorem fJ{listed:Array Bool}{a:Act}{w:World}(hr:Region.ready md ops listed=[])(h:Q .normal a w):
 ∀fuel,gQ P md ops Q C st fuel listed a w
 |0=>⟨hr,h⟩
 |_+1=>⟨λ_=>h,by rw[hr];simp⟩
def gU(P:Program)(md:Region.Mode)(ops:Array Oper)(Q:Exit->Act->World->Prop)(C:World->Prop)(st fuel:Nat)(listed:Array Bool)(a:Act)(w:World)(rs:List Nat):Prop:=
 ∀i∈rs,wpOp P ops Q i (λa' w'=>((listed.setIfInBounds i true).getD st true=false->C w')/\gQ P md ops Q C st fuel (listed.setIfInBounds i true) a' w') a w
theorem gU.nil{fuel:Nat}{listed:Array Bool}{a:Act}{w:World}:gU P md ops Q C st fuel listed a w []:=λ_ h=>fV
theorem gU.cons{fuel:Nat}{listed:Array Bool}{a:Act}{w:World}{i:Nat}{o:Oper}{rs:List Nat}(ho:ops[i]?=some o)
 (h:∀K':Act->World->Prop,Shut (∀a w,((listed.setIfInBounds i true).getD st true=false->C w)->(((listed.setIfInBounds i true).getD st true=false->C w)->gQ P md ops Q C st fuel (listed.setIfInBounds i true) a w)->K' a w)->if Region.wanted o (yielded ops a.tmps)=true then Oper.wp P o a w K' Q else K' (a.put o.dst undef) w)
 (hs:gU P md ops Q C st fuel listed a w rs):gU P md ops Q C st fuel listed a w (i::rs):=λj hj=>by
 rcases kY.1 hj with rfl|hj
 ·exact wpOp_step ho (λK' hK=>h K' (λa w hC hW=>hK a w ⟨hC,hW hC⟩))
 ·exact hs j hj
theorem mM{rs:List Nat}{fuel:Nat}{listed:Array Bool}{a:Act}{w:World}(hr:Region.ready md ops listed=rs)(hne:rs≠[])
 (h:gU P md ops Q C st fuel listed a w rs):gQ P md ops Q C st (fuel+1) listed a w:=
 ⟨λh0=>absurd (hr▸h0) hne,hr▸h⟩
theorem fO{id:Nat}{a:Act}{w:World}(C:World->Prop)(st:Nat)(hm:P.follows .mixedOrders=true)
 (h:gQ P .any ops Q C st ops.size (Array.replicate ops.size false) a w.drew):(Code.region id ops true).wp P Q a w:=
 wp_region_any hm (Fw _ _ _ _ h)
end
end Go
namespace Go.Proofs.YtmkkdjpebbdikaaGreatDoor
end Go.Proofs.YtmkkdjpebbdikaaGreatDoor
namespace Go
open Go.Proofs.YtmkkdjpebbdikaaGreatDoor
section
variable {P:Program}{ops:Array Oper}{Q:Exit->Act->World->Prop}{md:Region.Mode}{C:World->Prop}{st:Nat}
variable {d:Option Tmp}{op:Op}{ty:TypeId}{ps:String}{af:Array Edge}{g:Option (Nat×Bool)}{fuel:Nat}{listed:Array Bool}{a a':Act}{w:World}
theorem gZ(i:Nat)(v:Value)(hC:listed.getD st true=false->C w)(h:gQ P md ops Q C st fuel (listed.setIfInBounds i true) a' w)
 (hi:ops[i]?=some ⟨d,op,ty,ps,af,g⟩:=by exact rfl) (hs:Region.noSelect ops=true:=by kernel_rfl) (hf:Region.free md ops listed i=true:=by kernel_rfl) (hr:(Region.ready md ops listed).contains i=true:=by kernel_rfl) (hne:(i !=st)=true:=by kernel_rfl)
 (hQ:∀c a w,Q (.panic c) (a.put d v) w->Q (.panic c) a w:=by exact λ_ _ _ h=>h) (hw:Region.wanted ⟨d,op,ty,ps,af,g⟩ (yielded ops a.tmps)=true:=by exact rfl)
 (ha:a.put d v=a':=by(simp only[Act.put,fG,fB,fC];exact rfl))
 (hy:∀w:World,(execOp a.eval ⟨d,op,ty,ps,af,g⟩).run P w=.ok (.value v) w:=by(intro W;go_simp)):gQ P md ops Q C st (fuel+1) listed a w:=by
 subst ha;exact Ao hi hs hf hr hne hQ (.inl ⟨hw,λw _=>.of_run (hy w)⟩) hC h
theorem iE(i:Nat)(v:Value)(hC:C w)(h:gQ P md ops Q C st fuel (listed.setIfInBounds i true) a' w)
 (hi:ops[i]?=some ⟨d,op,ty,ps,af,g⟩:=by exact rfl) (hs:Region.noSelect ops=true:=by kernel_rfl) (hf:Region.free md ops listed i=true:=by kernel_rfl) (hr:(Region.ready md ops listed).contains i=true:=by kernel_rfl) (hw':Region.waits md ops st i=true:=by kernel_rfl) (hst:listed.getD st true=false:=by kernel_rfl)
 (hQ:∀c a w,Q (.panic c) (a.put d v) w->Q (.panic c) a w:=by exact λ_ _ _ h=>h) (hw:Region.wanted ⟨d,op,ty,ps,af,g⟩ (yielded ops a.tmps)=true:=by exact rfl)
 (ha:a.put d v=a':=by(simp only[Act.put,fG,fB,fC];exact rfl))
 (hy:∀w,C w->(execOp a.eval ⟨d,op,ty,ps,af,g⟩).run P w=.ok (.value v) w:=by(intro W hW;first|(go_simp;done)|(obtain⟨z0,z1⟩:=hW;go_simp;done)|(obtain⟨z0,z1,z2⟩:=hW;go_simp;done)|(obtain⟨z0,z1,z2,z3⟩:=hW;go_simp;done)|(obtain⟨z0,z1,z2,z3,z4⟩:=hW;go_simp;done)|(obtain⟨z0,z1,z2,z3,z4,z5⟩:=hW;go_simp;done))):gQ P md ops Q C st (fuel+1) listed a w:=by
 subst ha;exact nN hi hs hf hr hw' hst hQ (.inl ⟨hw,λw hC=>.of_run (hy w hC)⟩) hC h
theorem tjc(k i:Nat)(v:Value)(hC:C w)(h:gQ P md ops Q C st fuel (listed.setIfInBounds i true) a' w)
 (hi:ops[i]?=some ⟨d,op,ty,ps,af,g⟩:=by exact rfl) (hs:Region.noSelect ops=true:=by kernel_rfl) (hf:Region.free md ops listed i=true:=by kernel_rfl) (hr:(Region.ready md ops listed).contains i=true:=by kernel_rfl) (hw':(Region.waits md ops st k&&Region.waits md ops k i&&(i !=st))=true:=by kernel_rfl) (hst:(!listed.getD st true&& !listed.getD k true)=true:=by kernel_rfl)
 (hQ:∀c a w,Q (.panic c) (a.put d v) w->Q (.panic c) a w:=by exact λ_ _ _ h=>h) (hw:Region.wanted ⟨d,op,ty,ps,af,g⟩ (yielded ops a.tmps)=true:=by exact rfl)
 (ha:a.put d v=a':=by(simp only[Act.put,fG,fB,fC];exact rfl))
 (hy:∀w,C w->(execOp a.eval ⟨d,op,ty,ps,af,g⟩).run P w=.ok (.value v) w:=by(intro W hW;first|(go_simp;done)|(obtain⟨z0,z1⟩:=hW;go_simp;done)|(obtain⟨z0,z1,z2⟩:=hW;go_simp;done)|(obtain⟨z0,z1,z2,z3⟩:=hW;go_simp;done)|(obtain⟨z0,z1,z2,z3,z4⟩:=hW;go_simp;done)|(obtain⟨z0,z1,z2,z3,z4,z5⟩:=hW;go_simp;done))):gQ P md ops Q C st (fuel+1) listed a w:=by
 subst ha;exact Ap k hi hs hf hr hw' hst hQ (.inl ⟨hw,λw hC=>.of_run (hy w hC)⟩) hC h
theorem tjd(k m i:Nat)(v:Value)(hC:C w)(h:gQ P md ops Q C st fuel (listed.setIfInBounds i true) a' w)
 (hi:ops[i]?=some ⟨d,op,ty,ps,af,g⟩:=by exact rfl) (hs:Region.noSelect ops=true:=by kernel_rfl) (hf:Region.free md ops listed i=true:=by kernel_rfl) (hr:(Region.ready md ops listed).contains i=true:=by kernel_rfl) (hw':(Region.waits md ops st k&&(Region.waits md ops k m&&Region.waits md ops m i&&(i !=st)))=true:=by kernel_rfl) (hst:(!listed.getD st true&&(!listed.getD k true&& !listed.getD m true))=true:=by kernel_rfl)
 (hQ:∀c a w,Q (.panic c) (a.put d v) w->Q (.panic c) a w:=by exact λ_ _ _ h=>h) (hw:Region.wanted ⟨d,op,ty,ps,af,g⟩ (yielded ops a.tmps)=true:=by exact rfl)
 (ha:a.put d v=a':=by(simp only[Act.put,fG,fB,fC];exact rfl))
 (hy:∀w,C w->(execOp a.eval ⟨d,op,ty,ps,af,g⟩).run P w=.ok (.value v) w:=by(intro W hW;first|(go_simp;done)|(obtain⟨z0,z1⟩:=hW;go_simp;done)|(obtain⟨z0,z1,z2⟩:=hW;go_simp;done)|(obtain⟨z0,z1,z2,z3⟩:=hW;go_simp;done)|(obtain⟨z0,z1,z2,z3,z4⟩:=hW;go_simp;done)|(obtain⟨z0,z1,z2,z3,z4,z5⟩:=hW;go_simp;done))):gQ P md ops Q C st (fuel+1) listed a w:=by
 subst ha;exact Aq k m hi hs hf hr hw' hst hQ (.inl ⟨hw,λw hC=>.of_run (hy w hC)⟩) hC h
theorem iI(i:Nat)(v:Value)(hC:C w)(h:wpAnyH P md ops Q C fuel (listed.setIfInBounds i true) a' w)
 (hi:ops[i]?=some ⟨d,op,ty,ps,af,g⟩:=by exact rfl) (hs:Region.noSelect ops=true:=by kernel_rfl) (hf:Region.free md ops listed i=true:=by kernel_rfl) (hr:(Region.ready md ops listed).contains i=true:=by kernel_rfl)
 (hQ:∀c a w,Q (.panic c) (a.put d v) w->Q (.panic c) a w:=by exact λ_ _ _ h=>h) (hw:Region.wanted ⟨d,op,ty,ps,af,g⟩ (yielded ops a.tmps)=true:=by exact rfl)
 (ha:a.put d v=a':=by(simp only[Act.put,fG,fB,fC];exact rfl))
 (hy:∀w,C w->(execOp a.eval ⟨d,op,ty,ps,af,g⟩).run P w=.ok (.value v) w:=by(intro W hW;first|(go_simp;done)|(obtain⟨z0,z1⟩:=hW;go_simp;done)|(obtain⟨z0,z1,z2⟩:=hW;go_simp;done)|(obtain⟨z0,z1,z2,z3⟩:=hW;go_simp;done)|(obtain⟨z0,z1,z2,z3,z4⟩:=hW;go_simp;done)|(obtain⟨z0,z1,z2,z3,z4,z5⟩:=hW;go_simp;done))):wpAnyH P md ops Q C (fuel+1) listed a w:=by
 subst ha;exact vM hi hs hf hr hQ (.inl ⟨hw,hy⟩) hC h
theorem tjz(i:Nat)(hC:C w)(h:wpAnyH P md ops Q C fuel (listed.setIfInBounds i true) a' w)
 (hi:ops[i]?=some ⟨d,op,ty,ps,af,g⟩:=by exact rfl) (hs:Region.noSelect ops=true:=by kernel_rfl) (hf:Region.free md ops listed i=true:=by kernel_rfl) (hr:(Region.ready md ops listed).contains i=true:=by kernel_rfl)
 (hQ:∀c a w,Q (.panic c) (a.put d undef) w->Q (.panic c) a w:=by exact λ_ _ _ h=>h) (hw:Region.wanted ⟨d,op,ty,ps,af,g⟩ (yielded ops a.tmps)=false:=by exact rfl)
 (ha:a.put d undef=a':=by(simp only[Act.put,fG,fB,fC];exact rfl)):wpAnyH P md ops Q C (fuel+1) listed a w:=by
 subst ha;exact vM hi hs hf hr hQ (.inr ⟨hw,rfl⟩) hC h
theorem mY(i:Nat)(h:∀K':Act->World->Prop,Shut (∀a w,((listed.setIfInBounds i true).getD st true=false->C w)->(((listed.setIfInBounds i true).getD st true=false->C w)->gQ P md ops Q C st fuel (listed.setIfInBounds i true) a w)->K' a w)->if Region.wanted ⟨d,op,ty,ps,af,g⟩ (yielded ops a.tmps)=true then Oper.wp P ⟨d,op,ty,ps,af,g⟩ a w K' Q else K' (a.put d undef) w)
 (hr:Region.ready md ops listed=[i]:=by kernel_rfl) (hi:ops[i]?=some ⟨d,op,ty,ps,af,g⟩:=by exact rfl):gQ P md ops Q C st (fuel+1) listed a w:=
 mM hr (by simp) (gU.cons hi h gU.nil)
theorem Cc(i:Nat)(h:∀K':Act->World->Prop,Shut (∀a w,C w->(C w->wpAnyH P md ops Q C fuel (listed.setIfInBounds i true) a w)->K' a w)->if Region.wanted ⟨d,op,ty,ps,af,g⟩ (yielded ops a.tmps)=true then Oper.wp P ⟨d,op,ty,ps,af,g⟩ a w K' Q else K' (a.put d undef) w)
 (hr:Region.ready md ops listed=[i]:=by kernel_rfl) (hi:ops[i]?=some ⟨d,op,ty,ps,af,g⟩:=by exact rfl):wpAnyH P md ops Q C (fuel+1) listed a w:=
 aeT hr (by simp) (Ph hi h aeU)
end
theorem lh{a:Bool}{q:Prop}(h1:a=true:=by kernel_rfl):a=false->q:=λh=>absurd (h1.symm.trans h) (by decide)
end Go
namespace Go.Proofs.YtmkkdjpebbdikaaGreatDoor
end Go.Proofs.YtmkkdjpebbdikaaGreatDoor

import Derived.Test.YtfbiffdmhcjhbaaZa09
import Derived.Test.YtfbiffdmhcjhbaaZa11
import Derived.Laws.CopyOwn
import Derived.Laws.CopyRow
import Derived.Laws.StructEq
set_option linter.all false
set_option maxHeartbeats 16000000
set_option maxRecDepth 100000
namespace Go.Proofs.Ytfbiffdmhcjhbaa
open Go.RowKit Try
def UQ:=@run_slice_l
namespace Ps
open Ar Fl
theorem xJ(a b:Dg):less a b=true↔a.f<b.f\/(a.f=b.f/\(a.t<b.t\/(a.t=b.t/\a.code<b.code))):=by
 unfold less;split
 ·split
  ·simp;omega
  simp;omega
 simp;omega
theorem same_iff(a b:Dg):same a b=true↔a=b:=by
 unfold same;obtain⟨a1,a2,a3⟩:=a;obtain⟨b1,b2,b3⟩:=b;simp;constructor
 ·rintro⟨⟨rfl,rfl⟩,rfl⟩;exact⟨rfl,rfl,rfl⟩
 rintro⟨rfl,rfl,rfl⟩;exact⟨⟨rfl,rfl⟩,rfl⟩
theorem Df{a b c:Dg}(h:less a b=true)(g:less b c=true):less a c=true:=by
 rw[xJ]at*;omega
theorem GQ(a:Dg):less a a=false:=by
 rw[Im];intro h;rw[xJ]at h;omega
theorem MN{a b:Dg}(h:less a b=true):less b a=false:=by
 rw[Im];intro g;rw[xJ]at*;omega
theorem Qf{a b:Dg}(h:less a b=false)(g:a≠b):less b a=true:=by
 rw[Im,ne_eq,xJ]at h;rw[xJ];obtain⟨a1,a2,a3⟩:=a;obtain⟨b1,b2,b3⟩:=b;dsimp only at*;by_cases e:a2=b2/\a3=b3/\a1=b1
 ·obtain⟨rfl,rfl,rfl⟩:=e;exact absurd rfl g
 omega
def Il(l:List Dg):Prop:=l.Pairwise (λa b=>less a b=true)
theorem FK(x y:Dg):∀l:List Dg,y∈sM x l↔y=x\/y∈l
 |[]=>by simp[sM]
 |z::r=>by
  rw[sM];split
  ·simp
  split
  ·rename_i h;rw[same_iff]at h;subst h;simp
  rw[xg,FK x y r,xg];constructor
  ·rintro(h|h|h)
   ·exact .inr (.inl h)
   ·exact .inl h
   exact .inr (.inr h)
  rintro(h|h|h)
  ·exact .inr (.inl h)
  ·exact .inl h
  exact .inr (.inr h)
theorem KA(x:Dg):∀l:List Dg,Il l->Il (sM x l)
 |[]=>λ_=>by unfold Il sM;exact List.pairwise_singleton _ _
 |z::r=>λh=>by
  unfold Il at h;rw[AQ]at h;rw[sM];split
  ·rename_i hl;unfold Il;rw[AQ,AQ];refine⟨λy hy=>?_,h⟩;rcases xg.1 hy with rfl|hy
   ·exact hl
   exact Df hl (h.1 y hy)
  rename_i hl;split
  ·unfold Il;rw[AQ];exact h
  rename_i hs;unfold Il;rw[AQ];refine⟨λy hy=>?_,KA x r h.2⟩;rw[FK]at hy;rcases hy with rfl|hy
  ·exact Qf (by simpa using hl) (λe=>hs ((same_iff _ _).2 e))
  exact h.1 y hy
theorem EI:∀(l o:List Dg),Il o->Il (l.foldl (λo x=>sM x o) o)/\∀y,y∈l.foldl (λo x=>sM x o) o↔y∈o\/y∈l
 |[],o=>λh=>⟨h,λy=>by simp⟩
 |x::r,o=>λh=>by
  rw[List.foldl_cons];obtain⟨h1,h2⟩:=EI r (sM x o) (KA x o h);refine⟨h1,λy=>?_⟩;rw[h2,FK,xg];constructor
  ·rintro((h|h)|h)
   ·exact .inr (.inl h)
   ·exact .inl h
   exact .inr (.inr h)
  rintro(h|h|h)
  ·exact .inl (.inr h)
  ·exact .inl (.inl h)
  exact .inr h
theorem Qg(l:List Dg):Il (sD l):=(EI l [] List.Pairwise.nil).1
end Ps
section
open Go.RowKit
open Sg
open Sq
open Ar
theorem WR(a b:Fl.Dg)(w:World):Calls prog 45 #[.agg #[.int .i64 (a.code:Int),.int .i64 (a.f:Int),.int .i64 (a.t:Int)],.agg #[.int .i64 (b.code:Int),.int .i64 (b.f:Int),.int .i64 (b.t:Int)]] w λe w'=>e=.returned (.bool (Ps.less a b))/\Below w.heap.size w w':=by
 obtain⟨ac,af,at'⟩:=a;obtain⟨bc,bf,bt⟩:=b;unfold Ps.less;dsimp only;obtain⟨w2,hw2⟩:=my ((w.alloc (.cells #[.int .i64 (ac:Int),.int .i64 (af:Int),.int .i64 (at':Int)] 87)).alloc (.cells #[.int .i64 (bc:Int),.int .i64 (bf:Int),.int .i64 (bt:Int)] 87));have hb:Below w.heap.size w w2:=hw2▸(mr w _).alloc (by simp) _;have aa:w2.heap[w.heap.size]?=some (.cells #[.int .i64 (ac:Int),.int .i64 (af:Int),.int .i64 (at':Int)] 87 (0,0)):=by
  rw[<-hw2];exact((mr (w.alloc (.cells #[.int .i64 (ac:Int),.int .i64 (af:Int),.int .i64 (at':Int)] 87)) _).block _ (by simp)).trans (rA w _)
 have ae:w2.heap[w.heap.size+1]?=some (.cells #[.int .i64 (bc:Int),.int .i64 (bf:Int),.int .i64 (bt:Int)] 87 (0,0)):=by
  rw[<-hw2];have:=rA (w.alloc (.cells #[.int .i64 (ac:Int),.int .i64 (af:Int),.int .i64 (at':Int)] 87)) (.cells #[.int .i64 (bc:Int),.int .i64 (bf:Int),.int .i64 (bt:Int)] 87)
  simpa using this
 have p0:=nz aa 0;have p1:=nz aa 1;have p2:=nz aa 2;have q0:=nz ae 0;have q1:=nz ae 1;have q2:=nz ae 2;clear aa ae;by_cases h1:af=bf
 ·rw[gu h1];have n1:((af:Int)==(bf:Int))=true:=by simp[h1]
  by_cases h2:at'=bt
  ·rw[gu h2];have n2:((at':Int)==(bt:Int))=true:=by simp[h2]
   clear h1 h2
   go_enter func45,ntmps45
   go_wp2_with fail
   go_ret;exact⟨by simp,by first|exact hb|(rw[<-hw2]at hb;exact hb)⟩
  rw[fu h2];have n2:((at':Int)==(bt:Int))=false:=by simp;omega
  clear h1 h2
  go_enter func45,ntmps45
  go_wp2_with fail
  go_ret;exact⟨by simp,by first|exact hb|(rw[<-hw2]at hb;exact hb)⟩
 rw[fu h1];have n1:((af:Int)==(bf:Int))=false:=by simp;omega
 clear h1
 go_enter func45,ntmps45
 go_wp2_with fail
 go_ret;exact⟨by simp,by first|exact hb|(rw[<-hw2]at hb;exact hb)⟩
end
end Go.Proofs.Ytfbiffdmhcjhbaa
namespace Go
open Go.Proofs.Ytfbiffdmhcjhbaa
theorem D7{P:Program}(w:World)(dT sT ty elem:TypeId)(d a:Option Addr)(dLen dCap sLen sCap:Nat)(hu:P.underlying dT=some (.slice elem))(hs:(P.info? elem).isSome=true)(hn:Nat.min sLen dLen=0):
 (Builtin.copy_ #[dT,sT] ty #[.slice d dLen dCap,.slice a sLen sCap]).run P w=.ok (goInt 0) w:=by
 cases hq:P.info? elem with
 |none=>simp[hq]at hs
 |some i=>
  have hl:∀(x:Addr),(loadCells x 0).run P w=.ok #[] w:=λx=>by simpa using run_loadCells_list (P:=P) w x [] (by simp)
  cases d<;>cases a<;>simp[Builtin.copy_,run_underlying hu,Builtin.lenOf,Builtin.firstCells,sizeOf,typeInfo,hq,hn,storeCells,hl]
end Go
namespace Go.Proofs.Ytfbiffdmhcjhbaa
open RowKit Try
section
open Go.RowKit
open Sg
open Sq
open Ar
theorem Qh(a b:Fl.Dg)(h:Ps.same a b=false)(w:World):(binOp .eql 87 (.agg #[.int .i64 (a.code:Int),.int .i64 (a.f:Int),.int .i64 (a.t:Int)]) (.agg #[.int .i64 (b.code:Int),.int .i64 (b.f:Int),.int .i64 (b.t:Int)])).run prog w=.ok (.bool false) w:=by
 obtain⟨ac,af,at'⟩:=a;obtain⟨bc,bf,bt⟩:=b;unfold Ps.same at h;dsimp only at h⊢;have u3:=underlying3;have hS:prog.underlying 87=some (.struct (prog.fieldsOf 87)):=by kernel_rfl
 have hp:prog.stoodInHeld 87=false:=by kernel_rfl
 rw[run_eql_struct,show(10000:Nat)=9999+1 from rfl,run_equalIn_agg w 9999 87 _ _ hS hp];simp only[Program.fieldsOf,underlying87];by_cases h1:ac=bc
 ·by_cases h2:af=bf
  ·have h3:at'≠bt:=λe=>by subst h1 h2 e;simp at h
   have n1:((ac:Int)==(bc:Int))=true:=by simp[h1]
   have n2:((af:Int)==(bf:Int))=true:=by simp[h2]
   have n3:((at':Int)==(bt:Int))=false:=by simp;omega
   go_simp
  have n1:((ac:Int)==(bc:Int))=true:=by simp[h1]
  have n2:((af:Int)==(bf:Int))=false:=by simp;omega
  go_simp
 have n1:((ac:Int)==(bc:Int))=false:=by simp;omega
 go_simp
theorem Bh:prog.underlying 29=some (.slice (prog.elem 29)):=by kernel_rfl
theorem Bi(w:World):(sizeOf (prog.elem 29)).run prog w=.ok 3 w:=by kernel_rfl
theorem yw(a:Option Addr)(n cap l:Nat)(hl:l<=n)(hb:n<=1000000000000):
 ∃a' c',∀W:World,(Instr.slice 29 (.slice a n cap) (some (.int .i64 (l:Int))) none none).run prog W=.ok (.slice a' (n-l) c') W:=by
 refine⟨if cap=l then a else a.map (·.add (l*3)),cap-l,λW=>?_⟩;rw[UQ W _ a n cap Bh .i64 l (by omega) (by omega),Bi];simp only[Result.andThen,sliced,oN]
theorem Dh(a1 a2:Option Addr)(c1 c2:Nat)(ty:TypeId)(W:World):(Builtin.copy_ #[29,29] ty #[.slice a1 0 c1,.slice a2 1 c2]).run prog W=.ok (goInt 0) W:=
 D7 W _ _ _ _ a1 a2 0 c1 1 c2 underlying29 (by kernel_rfl) rfl
end
end Go.Proofs.Ytfbiffdmhcjhbaa
namespace Go
open Go.Proofs.Ytfbiffdmhcjhbaa
theorem Dr{P:Program}(w:World)(dT sT ty elem:TypeId)(k g o dLen dCap:Nat)(a:Addr)(sLen sCap:Nat)(cur:Array Value)(t:TypeId)(cs:List Value)
 (hu:P.underlying dT=some (.slice elem)) (hs:(P.info? elem).map (·.size)=some k)
 (hg:w.heap[g]?=some (.cells cur t (0,0))) (hn:cs.length=Nat.min sLen dLen*k)
 (hsrc:∀j v,cs[j]?=some v->w.cell? (a.add j)=some v) (hfit:o+cs.length<=cur.size) (h1:∀v∈cs,v.oneCell'=true):
 (Builtin.copy_ #[dT,sT] ty #[.slice (some ⟨g,o,none⟩) dLen dCap,.slice (some a) sLen sCap]).run P w=
  .ok (goInt (Nat.min sLen dLen)) (w.setRow g (cur.toList.take o++cs++cur.toList.drop (o+cs.length)).toArray):=by
 have hl:=run_loadCells_list (P:=P) w a cs hsrc;have hst:=run_storeCells_at P g o t cs 0 cur w hg (by simpa using hfit) h1;cases hq:P.info? elem with
 |none=>simp[hq]at hs
 |some i=>
  have hi:i.size=k:=by simpa [hq]using hs
  simp[Builtin.copy_,run_underlying hu,Builtin.lenOf,Builtin.firstCells,sizeOf,typeInfo,hq,hi,<-hn,hl,hst]
end Go
namespace Go.Proofs.Ytfbiffdmhcjhbaa
open RowKit Try
namespace Ps
open Ar Fl
theorem IY(x:Dg):∀(O:List Dg)(n:Nat),Il O->n<=O.length->(∀j y,n<=j->O[j]?=some y->less x y=true)->(∀k y,n=k+1->O[k]?=some y->less x y=false/\same y x=false)->sM x O=O.take n++x::O.drop n
 |[],n=>λ_ hn _ _=>by
  obtain rfl:n=0:=by simpa using hn
  rfl
 |y::r,0=>λ_ _ h _=>by rw[sM,gu (h 0 y (mJ _) rfl)];rfl
 |y::r,n+1=>λhs hn h1 h2=>by
  unfold Il at hs;obtain⟨hs1,hs2⟩:=AQ.1 hs;obtain⟨z,hz⟩:=pG (y::r) n (by omega);obtain⟨h3,h4⟩:=h2 n z rfl hz;have hxy:less x y=false/\same x y=false:=by
   cases n with
   |zero=>
    obtain rfl:y=z:=by simpa using hz
    refine⟨h3,?_⟩;rw[Im];intro e;rw[same_iff]at e;subst e;rw[(same_iff x x).2 rfl]at h4;cases h4
   |succ k=>
    have aa:=hs1 z (sI (by simpa using hz));constructor
    ·rw[Im];intro e;rw[Df e aa]at h3;cases h3
    rw[Im];intro e;rw[same_iff]at e;subst e;rw[aa]at h3;cases h3
  rw[sM,fu (by rw[hxy.1];decide),fu (by rw[hxy.2];decide),IY x r n hs2 (by simpa using hn) (λj u hj hu=>h1 (j+1) u (by omega) (by simpa using hu)) (λk u hk hu=>h2 (k+1) u (by omega) (by simpa using hu))];rfl
theorem GR(x:Dg):∀(O:List Dg),Il O->x∈O->sM x O=O
 |[]=>λ_ h=>by cases h
 |y::r=>λhs hx=>by
  unfold Il at hs;obtain⟨hs1,hs2⟩:=AQ.1 hs;rw[sM];rcases xg.1 hx with rfl|hx
  ·rw[fu (by rw[GQ];decide),gu ((same_iff x x).2 rfl)]
  have h:=hs1 x hx;rw[fu (by rw[MN h];decide),fu (λe=>by rw[same_iff]at e;subst e;rw[GQ]at h;cases h),GR x r hs2 hx]
theorem zw(x:Dg):∀O:List Dg,(sM x O).length<=O.length+1
 |[]=>mJ _
 |y::r=>by
  rw[sM];split
  ·exact mJ _
  split
  ·simp
  simp only[nI];have:=zw x r;omega
theorem MO(D:List Dg)(i:Nat)(x:Dg)(hx:D[i]?=some x):sD (D.take (i+1))=sM x (sD (D.take i)):=by
 obtain⟨h1,h2⟩:=nC.1 hx;unfold sD;rw[Ri h1,h2,Q9];rfl
end Ps
section
open Go.RowKit
open Sg
open Sq
open Ar
theorem Qi(a b:Fl.Dg)(w:World):(binOp .eql 87 (.agg #[.int .i64 (a.code:Int),.int .i64 (a.f:Int),.int .i64 (a.t:Int)]) (.agg #[.int .i64 (b.code:Int),.int .i64 (b.f:Int),.int .i64 (b.t:Int)])).run prog w=.ok (.bool (Ps.same a b)) w:=by
 cases h:Ps.same a b with
 |false=>exact Qh a b h w
 |true=>
  rw[Ps.same_iff]at h;subst h;exact Pg _ _ _ w
theorem Dt{α:Type}{E:qP α}{w:World}{B e g n cap off:Nat}{L L':List α}{cs:List Value}{cur:Array Value}(h:w.ownsRow B e E.k (.slice (some ⟨g,0,none⟩) n cap) L.length (E.all L))(hg:w.heap[g]?=some (.cells cur e (0,0)))
 (hL:E.all L'=(E.all L).take off++cs) (hlen:L'.length=L.length) (hoff:off+cs.length=L.length*E.k):
 (w.setRow g (cur.toList.take off++cs++cur.toList.drop (off+cs.length)).toArray).ownsRow B e E.k (.slice (some ⟨g,0,none⟩) n cap) L'.length (E.all L'):=by
 obtain⟨h1,h2⟩:=h;rcases h2 with⟨h2,_⟩|⟨g',cap',cur',hv,hB,hh,hn,hcp,hcs,ht⟩
 ·cases h2
 obtain⟨e1,e2,e3⟩:=sK hv;injection e1 with e1
 injection e1 with e1
 subst e1 e3;rw[hg]at hh;injection hh with hh
 injection hh with hh
 subst hh;have hsz:off+cs.length<=cur.toList.length:=by
  rw[show cur.toList.length=cur.size from QY,hcs,hoff];exact Wo _ hn
 refine⟨by rw[pK],.inr ⟨g,cap,(cur.toList.take off++cs++cur.toList.drop (off+cs.length)).toArray,by rw[hlen,<-e2],hB,setRow_heap w g cur _ e _ hg,by rw[hlen];exact hn,hcp,?_,?_⟩⟩
 ·rw[List.size_toArray,oq,oq,qx,oz,<-hcs];have e9:cur.toList.length=cur.size:=QY;omega
 rw[hlen,<-hoff,hL,<-ht];have ho:off<=L.length*E.k:=by omega
 rw[UB (by rw[oq,qx];omega),DI (by rw[oq,qx];omega),List.take_take,Ll ho]
theorem Cv{α:Type}(E:qP α):∀(L:List α)(i:Nat),(E.all L).take (i*E.k)=E.all (L.take i)
 |[],i=>by simp[qP.all]
 |x::r,0=>by simp[qP.all]
 |x::r,i+1=>by
  rw[AR,qP.all,qP.all,<-Cv E r i,show(i+1)*E.k=(E.cells x).length+i*E.k from by rw[E.len,xR];omega,List.take_length_add_append]
theorem OB(O:List Fl.Dg)(n:Nat)(x z:Fl.Dg)(hn:n<=O.length):(((O++[z]).take (n+1)++O.drop n):List Fl.Dg).set n x=O.take n++x::O.drop n:=by
 obtain⟨u,hu⟩:=pG (O++[z]) n (by simp;omega);obtain⟨h1,h2⟩:=nC.1 hu;have hl:(O.take n).length=n:=by rw[qx];omega
 rw[Ri h1,h2,UB hn,sF,Uz _ _ (by omega),hl,DL];rfl
theorem zN{w:World}{B g N cap:Nat}{L:List Fl.Dg}{z:Fl.Dg}(n:Nat)(x:Fl.Dg)(hz:L[n]?=some z)(h:w.ownsRow B 87 3 (.slice (some ⟨g,0,none⟩) N cap) L.length (nJ.all L)):
 (((w.setCell ⟨g,n*3,none⟩ (.int .i64 (x.code:Int))).setCell ⟨g,n*3+1,none⟩ (.int .i64 (x.f:Int))).setCell ⟨g,n*3+2,none⟩ (.int .i64 (x.t:Int))).ownsRow B 87 3 (.slice (some ⟨g,0,none⟩) N cap) (L.set n x).length (nJ.all (L.set n x)):=by
 have hs:=(nC.1 hz).1;have h1:=uf (E:=nJ) h n 0 _ (⟨x.code,z.f,z.t⟩:Fl.Dg) (.int .i64 (x.code:Int)) hz rfl (by decide);have h2:=uf (E:=nJ) h1 n 1 _ (⟨x.code,x.f,z.t⟩:Fl.Dg) (.int .i64 (x.f:Int)) (DC hs) rfl (by decide);have h3:=uf (E:=nJ) h2 n 2 _ x (.int .i64 (x.t:Int)) (DC (by rw[xe];exact hs)) rfl (by decide);rw[List.set_set,List.set_set]at h3;exact h3
theorem yN{P:Program}{ops:Array Oper}{o:Oper}{a:Act}{w:World}{K:Act->World->Prop}{Q:Exit->Act->World->Prop}{E:Prop}(hgd:o.guard=none)(d s:Operand)(dT sT:TypeId)
 (ho:o.op=.call {callee:=.builtin .copy,args:=#[d,s],argTypes:=#[dT,sT]}) (dv sv r:Value) (w':World) (hd:a.eval d=dv) (hs:a.eval s=sv) (hrun:(Builtin.copy_ #[dT,sT] o.type #[dv,sv]).run P w=.ok r w') (h:K (a.put o.dst r) w'):
 if Region.wanted o (yielded ops a.tmps)=true then Oper.wp P o a w K Q else E:=by
 have hw:Region.wanted o (yielded ops a.tmps)=true:=by simp[Region.wanted,hgd]
 rw[gu hw];unfold Oper.wp;simp[execOp,ho,resolve,invoke,builtin,hd,hs,hrun,Result.andThen];exact h
theorem GU{α:Type}(E:qP α):∀(L:List α)(i:Nat),(E.all L).drop (i*E.k)=E.all (L.drop i)
 |[],i=>by simp[qP.all]
 |x::r,0=>by simp
 |x::r,i+1=>by
  rw[Ld,qP.all,<-GU E r i,show(i+1)*E.k=(E.cells x).length+i*E.k from by rw[E.len,xR];omega,List.drop_length_add_append]
theorem World.ownsRow.drew'{w:World}{B e s n:Nat}{v:Value}{xs:List Value}(h:w.ownsRow B e s v n xs):w.drew.ownsRow B e s v n xs:=h
theorem uk(g n cap l:Nat)(hl:l<=n)(hc:l<cap)(hb:n<=1000000000000)(W:World):
 (Instr.slice 29 (.slice (some ⟨g,0,none⟩) n cap) (some (.int .i64 (l:Int))) none none).run prog W=.ok (.slice (some ⟨g,l*3,none⟩) (n-l) (cap-l)) W:=by
 rw[UQ W _ _ n cap Bh .i64 l (by omega) (by omega),Bi];simp only[Result.andThen,sliced,oN];rw[fu (by omega)];simp[Addr.add];intro e;exact e.symm
theorem EJ{W:World}{B g:Nat}(O:List Fl.Dg)(n M c c1 c2:Nat)(hn:n<O.length)(hM:(O++[(⟨0,0,0⟩:Fl.Dg)]).length=M)
 (h:W.ownsRow B 87 3 (.slice (some ⟨g,0,none⟩) M c) M (nJ.all (O++[(⟨0,0,0⟩:Fl.Dg)]))):
 ∃W',(∀ty,(Builtin.copy_ #[29,29] ty #[.slice (some ⟨g,(n+1)*3,none⟩) (M-(n+1)) c1,.slice (some ⟨g,n*3,none⟩) (M-n) c2]).run prog W=.ok (goInt (Nat.min (M-n) (M-(n+1)))) W')/\
  W'.ownsRow B 87 3 (.slice (some ⟨g,0,none⟩) (((O++[(⟨0,0,0⟩:Fl.Dg)]).take (n+1)++O.drop n):List Fl.Dg).length c) (((O++[(⟨0,0,0⟩:Fl.Dg)]).take (n+1)++O.drop n):List Fl.Dg).length (nJ.all ((O++[(⟨0,0,0⟩:Fl.Dg)]).take (n+1)++O.drop n))/\(∀w0,Below B w0 W->Below B w0 W'):=by
 have aa:O.length+1=M:=by rw[<-hM,oq];rfl
 have hcells:=λj v (hj:(nJ.all (O++[(⟨0,0,0⟩:Fl.Dg)]))[j]?=some v)=>h.cells (g:=g) rfl j v hj
 have h0:=h;obtain⟨h1,h2⟩:=h;rcases h2 with⟨h2,_⟩|⟨g',c',cur,hv,hB,hh,hnc,hcp,hcs,ht⟩
 ·cases h2
 obtain⟨e1,e2,e3⟩:=sK hv;injection e1 with e1
 injection e1 with e1
 subst e1 e3;have hcl:(nJ.all (O.drop n)).length=(O.length-n)*3:=by rw[pK,oz];rfl
 have hmin:Nat.min (M-n) (M-(n+1))=O.length-n:=by show min (M-n) (M-(n+1))=_;omega
 have hll:(((O++[(⟨0,0,0⟩:Fl.Dg)]).take (n+1)++O.drop n):List Fl.Dg).length=(O++[(⟨0,0,0⟩:Fl.Dg)]).length:=by rw[oq,qx,oz,hM];omega
 refine⟨_,λty=>Dr W _ _ ty _ 3 g ((n+1)*3) _ c1 ⟨g,n*3,none⟩ _ c2 cur 87 (nJ.all (O.drop n)) underlying29 (by kernel_rfl) hh (by rw[hcl,hmin]) (λj v hj=>?_) ?_ (xX nJ _),?_,λw0 hb=>below_setRow hb hB _⟩
 ·rw[nX];have h8:(nJ.all (O++[(⟨0,0,0⟩:Fl.Dg)]))[n*3+j]?=some v:=?_
  ·have h7:=hcells _ _ h8;rw[nX,qz]at h7;exact h7
  rw[uZ,vC (by rw[pK];have h9:=(nC.1 hj).1;rw[hcl]at h9;show n*3+j<O.length*3;omega),<-hj,<-GU nJ O n,xP];rfl
 ·rw[hcl,hcs];show(n+1)*3+(O.length-n)*3<=c*3;omega
 have h3:=Dt (E:=nJ) (L:=O++[(⟨0,0,0⟩:Fl.Dg)]) (L':=(O++[(⟨0,0,0⟩:Fl.Dg)]).take (n+1)++O.drop n) (off:=(n+1)*3) (cs:=nJ.all (O.drop n)) (cur:=cur) (n:=M) (by rw[hM];exact h0) hh (by rw[uZ,<-Cv];rfl) hll (by rw[hcl,hM];show(n+1)*3+(O.length-n)*3=M*3;omega);rw[hll,hM]at h3⊢;exact h3
theorem Qj(v:Value)(D:List Fl.Dg)(w:World)(h:Reads nJ w v D)(hsz:D.length<=1000000000):
 Calls prog 23 #[v] w λe w'=>∃v',e=.returned v'/\w'.ownsRow w.heap.size 87 3 v' (Ps.sD D).length (nJ.all (Ps.sD D))/\Below w.heap.size w w':=by
 obtain⟨a,cap,rfl⟩:=h.shape;have HX:=eu (λW (hW:Below w.heap.size w W) j x hx=>sW (h.below hW) j x hx);have HQ:=eu (λw' v'=>show w'.ownsRow w.heap.size 87 3 v' (Ps.sD D).length (nJ.all (Ps.sD D))->Below w.heap.size w w'->(λe (w':World)=>∃v',e=Ending.returned v'/\w'.ownsRow w.heap.size 87 3 v' (Ps.sD D).length (nJ.all (Ps.sD D))/\Below w.heap.size w w') (.returned v') w' from λh1 h2=>⟨v',rfl,h1,h2⟩);obtain⟨Q,hQ⟩:=my ((λe (w':World)=>∃v',e=Ending.returned v'/\w'.ownsRow w.heap.size 87 3 v' (Ps.sD D).length (nJ.all (Ps.sD D))/\Below w.heap.size w w'));rw[hQ]at HQ⊢;obtain⟨N,hN⟩:=my (D.length);rw[hN]at hsz⊢;have HN:=eu hN;obtain⟨B,hB⟩:=my (w.heap.size);have HB:=eu hB;rw[hB]at HQ;clear h hQ hN hB
 go_enter func23,ntmps23
 go_wp2_with fail
 go_loopw [3,4] (λov iv wr=>∃(i:Nat)(O:List Fl.Dg),iv=.int .i64 (i:Int)/\i<=N/\Hid (Ps.sD (D.take i)=O)/\O.length<=i/\Hid (wr.ownsRow B 87 3 ov O.length (nJ.all O))/\Hid (Below B w wr)) (λ_ iv _=>N-(intOf iv).toNat)
 case atStart=>exact⟨0,[],rfl,nO _,rfl,mJ _,qG nJ w B,by rw[<-HB.out];exact mF _ _⟩
 case round=>
  obtain⟨i,O,rfl,hin,aO,bA,aF,ax⟩:=hrel;by_cases hlt:i<N
  ·obtain⟨x,hx⟩:=pG D i (by rw[HN.out];exact hlt);obtain⟨db,aa,rfl,x0,x1,x2⟩:=HX.out wr (by rw[HB.out];exact ax.out) i x hx;have hii:(i:Int)<(N:Int):=by omega
   have aG:=eu (show Ps.sD (D.take (i+1))=Ps.sM x O from by rw[Ps.MO D i x hx,aO.out]);have aQ:=eu (show Ps.Il O from by rw[<-aO.out];exact Ps.Qg _);obtain⟨oa,oc,rfl⟩:=(Reads.mW (E:=nJ) aF.out).shape;obtain⟨m,hm⟩:=my (O.length);have HM:=eu hm;have aR:=eu (Reads.mW (E:=nJ) aF.out);have aP:=eu hx;rw[hm]at bA⊢;clear hm hx aO;have HX0:=eu (show wr.cell? ⟨db,aa+i*3,none⟩=some (.int .i64 (x.code:Int))/\wr.cell? ⟨db,aa+i*3+1,none⟩=some (.int .i64 (x.f:Int))/\wr.cell? ⟨db,aa+i*3+2,none⟩=some (.int .i64 (x.t:Int))from⟨x0,x1,x2⟩);clear x0 x1 x2;go_wp2_with fail
   go_loopw [5] (λnv wz=>∃n:Nat,nv=.int .i64 (n:Int)/\n<=m/\Hid (∀j y,n<=j->O[j]?=some y->Ps.less x y=true)/\Hid (Below wr.heap.size wr wz)) (λnv _=>(intOf nv).toNat)
   case atStart=>exact⟨m,rfl,mJ _,eu (λj y h1 h2=>by have h9:=(nC.1 h2).1;rw[HM.out]at h9;omega),eu (mF _ _)⟩
   case round=>
    obtain⟨n,rfl,hn,HJ,HZ⟩:=hrel
    rename World=>wz
    by_cases hn0:n=0
    ·have g0:decide ((0:Int)<(n:Int))=false:=nK (by omega);have g1:decide (0<n)=false:=nK (by omega);have aS:=eu (Ps.IY x O n aQ.out (by rw[HM.out];exact hn) HJ.out (λk y e _=>absurd e (by omega)));clear hn0 HJ;go_wp2_with fail
     go_big_quiet (fail)
     have ai:=eu (nG HZ.out nq);clear HZ;generalize World.drewN _ nq=wn at*;go_wp2_with fail
     go_big_quiet (fail)
     have az:=eu (nG ai.out nq);generalize World.drewN _ nq=wm at*;have hBr:B<=wr.heap.size:=by have:=ax.out.size;rw[HB.out]at this;exact this
     have hBm:B<=wm.heap.size:=qy hBr az.out.size;have aH:=eu (own_below aF.out az.out);have aT:=eu (ax.out.trans (az.out.mono hBr));have aU:=eu (show∀k,(Value.slice oa m oc).ownBlock=some k->B<=k from λk hk=>(aH.out.lt k (by rw[HM.out];exact hk)).1);have hi1:O.length+1<=maxLen:=by rw[HM.out];simp only[maxLen];omega
     have hi2:(O.length+1)*24<=140737488355328:=by rw[HM.out];omega
     obtain⟨M,hM⟩:=my (m+1);have aC:=eu hM;have aj:=eu (show(O++[(⟨0,0,0⟩:Fl.Dg)]).length=M from by rw[oq,HM.out];exact hM);have ak:=eu (show(((O++[(⟨0,0,0⟩:Fl.Dg)]).take (n+1)++O.drop n):List Fl.Dg).length=M from by rw[oq,qx,oz,aj.out,HM.out];omega);have aB:=eu (show(((O++[(⟨0,0,0⟩:Fl.Dg)]).take (n+1)++O.drop n):List Fl.Dg).set n x=Ps.sM x O from by rw[aS.out];exact OB O n x _ (by rw[HM.out];exact hn));obtain⟨P,hP⟩:=my (n+1);have aD:=eu hP;have hw1:IntKind.i64.wrap ((n:Int)+1)=(P:Int):=by rw[<-hP];exact qA _ (by omega)
     have aI:P<=M:=by omega
     have bB:m<M:=by omega
     have bC:n<P:=by omega
     have hMs:n<M:=by omega
     have bD:M<=1000000001:=by omega
     clear hM hP hBr ai az ax aR;go_wp2_with (at_builtin;go_must (refine qm QT rfl (.tmp 44) (.tmp 46) rfl B _ O (⟨0,0,0⟩:Fl.Dg) _ rfl rfl (by rw[HM.out];have h9:=aH.out;rw[HM.out]at h9;exact h9) rfl hi1 hi2 hBm ?_;intro v7 w7 ag aJ;obtain⟨g,c7,rfl,hgB,-,aV,-⟩:=pP (E:=nJ) ag (by rw[aj.out];omega);have aA:=eu ag;have av:=eu ((aT.out.alloc hBm _).grown aJ (qy hBm (by simp)) aU.out);rw[aj.out]at aV⊢;clear ag aJ hi1 hi2))
     by_cases hnm:n=m
     ·subst hnm;obtain⟨a1,d1,hp1⟩:=yw (some ⟨g,0,none⟩) M c7 P aI (by omega);obtain⟨a2,d2,hp2⟩:=yw (some ⟨g,0,none⟩) M c7 n (by omega) (by omega);rw[show M-P=0 from by rw[<-aC.out,<-aD.out];omega]at hp1;rw[show M-n=1 from by rw[<-aC.out];omega]at hp2;have hcp:=Dh a1 a2 d1 d2;have aW:=eu (show(((O++[(⟨0,0,0⟩:Fl.Dg)]).take (n+1)++O.drop n):List Fl.Dg)=O++[(⟨0,0,0⟩:Fl.Dg)]from by rw[DI (by rw[aj.out,<-aC.out];omega),Q7 (by rw[HM.out];exact mJ _),rD]);go_wp2_with fail
      go_big_quiet (fail)
      have ay:=eu (nG (mF w7.heap.size w7) nq);generalize World.drewN _ nq=w8 at*;have ae:=eu (own_below aA.out ay.out);rw[<-aW.out]at ae;have af:=eu (av.out.trans (ay.out.mono (by have:=av.out.size;rw[HB.out]at this;exact this)));clear hp1 hp2 hcp aA av ay hgB;obtain⟨g',c8,e8,hgB,hfz,-,-⟩:=pP (E:=nJ) ae.out (by rw[ak.out];omega);obtain⟨e8,-,-⟩:=sK e8;injection e8 with e8
      injection e8 with e8
      subst e8;obtain⟨z8,ah⟩:∃z,(((O++[(⟨0,0,0⟩:Fl.Dg)]).take (n+1)++O.drop n):List Fl.Dg)[n]?=some z:=⟨_,qQ (by rw[ak.out];omega)⟩
      obtain⟨p0,q0,hpq,s0,s1,s2⟩:=sW (Reads.mW (E:=nJ) ae.out) n z8 ah;injection hpq with hpq
      injection hpq with e1 e2
      subst e1 e2;obtain⟨p1,q1,hpq,x0,x1,x2⟩:=HX.out w8 (by rw[HB.out];exact af.out) i x aP.out;injection hpq with hpq
      injection hpq with e1 e2
      subst e1 e2;have f0:=hfz (n*3);have f1:=hfz (n*3+1);have f2:=hfz (n*3+2);rw[qz]at s0 s1 s2;have hp:=zN n x ah ae.out;rw[aB.out]at hp;have HP:=eu hp;have aX:(n:Int)<(M:Int):=by omega
      clear hfz hp ah;go_wp2_with fail
      go_roundw
      case rel=>exact⟨i+1,Ps.sM x O,by go_num,by omega,aG.out,qy (Ps.zw x O) (by rw[HM.out];omega),by have h9:=HP.out;rw[ak.out]at h9;exact h9,((af.out.setCell (p:=⟨g,n*3,none⟩) hgB _).setCell (p:=⟨g,n*3+1,none⟩) hgB _).setCell (p:=⟨g,n*3+2,none⟩) hgB _⟩
      case measure=>simp[intOf];omega
     have aK:n<m:=by omega
     obtain⟨S1,hS1⟩:=my (Value.slice (some ⟨g,P*3,none⟩) (M-P) (c7-P));obtain⟨S2,hS2⟩:=my (Value.slice (some ⟨g,n*3,none⟩) (M-n) (c7-n));have hp1:=uk g M c7 P aI (by have:=aD.out;omega) (by omega);have hp2:=uk g M c7 n (by omega) (by omega) (by omega);obtain⟨w8,hrun,aL,aM⟩:=EJ (W:=w7.drew) O n M c7 (c7-P) (c7-n) (by rw[HM.out];exact aK) aj.out (by have h9:=World.ownsRow.drew' aA.out;rw[aj.out]at h9;exact h9);rw[aD.out,hS1,hS2]at hrun;rw[hS1]at hp1;rw[hS2]at hp2;obtain⟨aN,ae,af⟩:=nY hrun aL (aM w av.out.drew);clear hrun aL aM hS1 hS2 aA av hgB hnm;go_wp2_with fail
     refine mK (λwx=>True) 7 (by kernel_rfl) ?_;have hH:(λwx:World=>True) w7.drew:=trivial;refine nA 0 (.slice (some ⟨g,0,none⟩) M c7) rfl (by kernel_rfl) rfl mD (λW=>by go_simp) (λ_=>hH) ?_;refine nA 1 (.int .i64 (n:Int)) rfl (by kernel_rfl) rfl mD (λW=>by go_simp) (λ_=>hH) ?_;refine nA 2 (.int .i64 (P:Int)) rfl (by kernel_rfl) rfl mD (λW=>by go_simp) (λ_=>hH) ?_;refine mI 3 S1 rfl (by kernel_rfl) rfl mD (λW hW=>by go_simp) hH ?_;refine nA 4 (.slice (some ⟨g,0,none⟩) M c7) rfl (by kernel_rfl) rfl mD (λW=>by go_simp) (λ_=>hH) ?_;refine nA 5 (.int .i64 (n:Int)) rfl (by kernel_rfl) rfl mD (λW=>by go_simp) (λ_=>hH) ?_;refine mI 6 S2 rfl (by kernel_rfl) rfl mD (λW hW=>by go_simp) hH ?_;refine oD 7 (by kernel_rfl) rfl λK hK=>?_
     refine yN rfl (.tmp 51) (.tmp 54) 29 29 rfl S1 S2 _ w8 rfl rfl (aN.out _) ?_;refine hK.out _ _ (pV (by kernel_rfl)) (λ_=>?_);clear hK K;try simp only[Act.put,mM,mP,mO]
     refine mH (by kernel_rfl) ?_ _;obtain⟨g',c8,e8,hgB,hfz,-,-⟩:=pP (E:=nJ) ae.out (by rw[ak.out];omega);obtain⟨e8,-,-⟩:=sK e8;injection e8 with e8
     injection e8 with e8
     subst e8;obtain⟨z8,ah⟩:∃z,(((O++[(⟨0,0,0⟩:Fl.Dg)]).take (n+1)++O.drop n):List Fl.Dg)[n]?=some z:=⟨_,qQ (by rw[ak.out];omega)⟩
     obtain⟨p0,q0,hpq,s0,s1,s2⟩:=sW (Reads.mW (E:=nJ) ae.out) n z8 ah;injection hpq with hpq
     injection hpq with e1 e2
     subst e1 e2;obtain⟨p1,q1,hpq,x0,x1,x2⟩:=HX.out w8 (by rw[HB.out];exact af.out) i x aP.out;injection hpq with hpq
     injection hpq with e1 e2
     subst e1 e2;have f0:=hfz (n*3);have f1:=hfz (n*3+1);have f2:=hfz (n*3+2);rw[qz]at s0 s1 s2;have hp:=zN n x ah ae.out;rw[aB.out]at hp;have HP:=eu hp;have aX:(n:Int)<(M:Int):=by omega
     clear hfz hp ah;go_wp2_with fail
     go_roundw
     case rel=>exact⟨i+1,Ps.sM x O,by go_num,by omega,aG.out,qy (Ps.zw x O) (by rw[HM.out];omega),by have h9:=HP.out;rw[ak.out]at h9;exact h9,((af.out.setCell (p:=⟨g,n*3,none⟩) hgB _).setCell (p:=⟨g,n*3+1,none⟩) hgB _).setCell (p:=⟨g,n*3+2,none⟩) hgB _⟩
     case measure=>simp[intOf];omega
    obtain⟨k,hk⟩:∃k,n=k+1:=⟨n-1,by omega⟩
    obtain⟨y,hy⟩:=pG O k (by rw[HM.out];omega);have bf:=aR.out;obtain⟨ob,oo,rfl,y0,y1,y2⟩:=sW bf k y hy;have Y3:=eu (And.intro y0 (And.intro y1 y2));clear y0 y1 y2;obtain⟨x0,x1,x2⟩:=HX0.out;obtain⟨y0,y1,y2⟩:=Y3.out;replace x0:=ku HZ.out x0;replace x1:=ku HZ.out x1;replace x2:=ku HZ.out x2;replace y0:=ku HZ.out y0;replace y1:=ku HZ.out y1;replace y2:=ku HZ.out y2;obtain⟨LB,aY⟩:=my (Ps.less x y);obtain⟨SB,aZ⟩:=my (Ps.same y x);have bg:=eu (λW=>by have:=WR x y W;rw[aY]at this;exact this);have HEq:=eu (λW=>by have:=Qi y x W;rw[aZ]at this;exact this);obtain⟨bn,bq,HY,HK⟩:=qg aY aZ hy hk;have g0:decide ((0:Int)<(n:Int))=true:=oP (by omega);have g1:decide (0<n)=true:=oP (by omega);have hw0:IntKind.i64.wrap ((n:Int)-1)=(k:Int):=by rw[show(n:Int)-1=(k:Int)from by omega];exact qA _ (by omega)
    have gk:(k:Int)<(m:Int):=by omega
    have bG:k<m:=by omega
    clear hk hn0 aY aZ hy bf;go_wp2_with fail
    refine mK (λwx=>wx.cell? ⟨db,aa+i*3,none⟩=some (.int .i64 (x.code:Int))/\wx.cell? ⟨db,aa+i*3+1,none⟩=some (.int .i64 (x.f:Int))/\wx.cell? ⟨db,aa+i*3+2,none⟩=some (.int .i64 (x.t:Int))/\wx.cell? ⟨ob,oo+k*3,none⟩=some (.int .i64 (y.code:Int))/\wx.cell? ⟨ob,oo+k*3+1,none⟩=some (.int .i64 (y.f:Int))/\wx.cell? ⟨ob,oo+k*3+2,none⟩=some (.int .i64 (y.t:Int))) 12 (by kernel_rfl) ?_;have hH:(λwx:World=>wx.cell? ⟨db,aa+i*3,none⟩=some (.int .i64 (x.code:Int))/\wx.cell? ⟨db,aa+i*3+1,none⟩=some (.int .i64 (x.f:Int))/\wx.cell? ⟨db,aa+i*3+2,none⟩=some (.int .i64 (x.t:Int))/\wx.cell? ⟨ob,oo+k*3,none⟩=some (.int .i64 (y.code:Int))/\wx.cell? ⟨ob,oo+k*3+1,none⟩=some (.int .i64 (y.f:Int))/\wx.cell? ⟨ob,oo+k*3+2,none⟩=some (.int .i64 (y.t:Int))) wz.drew:=⟨pR x0,pR x1,pR x2,pR y0,pR y1,pR y2⟩
    refine nA 0 (.int .i64 (n:Int)) rfl (by kernel_rfl) rfl mD (λW=>by go_simp) (λ_=>hH) ?_;refine nA 1 (.bool true) rfl (by kernel_rfl) rfl mD (λW=>by go_simp) (λ_=>hH) ?_;refine mI 2 (.bool true) rfl (by kernel_rfl) rfl mD (λW hW=>by go_simp) hH ?_;refine nA 3 (.slice (some ⟨db,aa,none⟩) N cap) rfl (by kernel_rfl) rfl mD (λW=>by go_simp) (λ_=>hH) ?_;refine nA 4 (.int .i64 (i:Int)) rfl (by kernel_rfl) rfl mD (λW=>by go_simp) (λ_=>hH) ?_;refine nA 5 (.pointer (some ⟨db,aa+i*3,none⟩)) rfl (by kernel_rfl) rfl mD (λW=>by go_simp) (λ_=>hH) ?_;refine mI 6 (.agg #[.int .i64 (x.code:Int),.int .i64 (x.f:Int),.int .i64 (x.t:Int)]) rfl (by kernel_rfl) rfl mD (λW hW=>?_) hH ?_
    ·obtain⟨z0,z1,z2,z3,z4,z5⟩:=hW;go_simp
    refine nA 7 (.slice (some ⟨ob,oo,none⟩) m oc) rfl (by kernel_rfl) rfl mD (λW=>by go_simp) (λ_=>hH) ?_;refine nA 8 (.int .i64 (n:Int)) rfl (by kernel_rfl) rfl mD (λW=>by go_simp) (λ_=>hH) ?_;refine nA 9 (.int .i64 (k:Int)) rfl (by kernel_rfl) rfl mD (λW=>by go_simp) (λ_=>hH) ?_;refine nA 10 (.pointer (some ⟨ob,oo+k*3,none⟩)) rfl (by kernel_rfl) rfl mD (λW=>by go_simp) (λ_=>hH) ?_;refine mI 11 (.agg #[.int .i64 (y.code:Int),.int .i64 (y.f:Int),.int .i64 (y.t:Int)]) rfl (by kernel_rfl) rfl mD (λW hW=>?_) hH ?_
    ·obtain⟨z0,z1,z2,z3,z4,z5⟩:=hW;go_simp
    refine oD 12 (by kernel_rfl) rfl λK hK=>?_
    go_simp;refine(bg.out wz.drew).mono ?_;rintro e w5 ⟨rfl,hb5⟩;have ai:=eu (qY HZ.out (qY (mF _ wz).drew hb5));clear hb5;refine hK.out _ _ (pV (by kernel_rfl)) (λ_=>?_);clear hK K;try simp only[Act.put,mM,mP,mO]
    refine nA 13 (.bool LB) rfl (by kernel_rfl) rfl mD (λW=>by go_simp) (pV (by kernel_rfl)) ?_;refine mH (by kernel_rfl) ?_ _;clear x0 x1 x2 y0 y1 y2 bg;cases LB with
    |true=>
     have HJ2:=eu (show∀(j:Nat)(z:Fl.Dg),k<=j->O[j]?=some z->Ps.less x z=true from λj z h1 h2=>by
      rcases sJ j n with h|h
      ·obtain rfl:j=k:=by have:=HK.out;omega
       rw[HY.out]at h2;injection h2 with h2
       subst h2;exact bn.out
      exact HJ.out j z h h2)
     clear HJ HZ;go_wp2_with fail
     go_roundw
     case rel=>exact⟨k,rfl,by omega,HJ2,ai⟩
     case measure=>
      have h9:=HK.out;simp[intOf];omega
    |false=>
     obtain⟨x0,x1,x2⟩:=HX0.out;obtain⟨y0,y1,y2⟩:=Y3.out;replace x0:=ku ai.out x0;replace x1:=ku ai.out x1;replace x2:=ku ai.out x2;replace y0:=ku ai.out y0;replace y1:=ku ai.out y1;replace y2:=ku ai.out y2;have heq:=HEq.out;cases SB with
     |true=>
      have HSame:=eu (show Ps.sM x O=O from Ps.GR x O aQ.out (by have h9:=(Ps.same_iff y x).1 bq.out;subst h9;exact sI HY.out));have ay:=eu (λnq=>ax.out.trans ((nG ai.out nq).mono (by have:=ax.out.size;rw[HB.out]at this;exact this)));have bz:=eu (λnq=>own_below aF.out (nG ai.out nq));clear HJ HZ;go_wp2_with fail
      go_big_quiet (fail)
      obtain⟨bE,bF⟩:=mR (ay.out nq) (bz.out nq);clear x0 x1 x2 y0 y1 y2 heq ay bz;generalize World.drewN _ nq=wm at*;go_wp2_with fail
      go_roundw
      case rel=>exact⟨i+1,O,by go_num,by omega,eu (aG.out.trans HSame.out),by rw[HM.out];omega,by have h9:=bF.out;rw[HM.out]at h9⊢;exact h9,bE⟩
      case measure=>simp[intOf];omega
     |false=>
      have aS:=eu (Ps.IY x O n aQ.out (by rw[HM.out];exact hn) HJ.out (λk' z e hz=>by
       obtain rfl:k'=k:=by have:=HK.out;omega
       rw[HY.out]at hz;injection hz with hz
       subst hz
       exact⟨bn.out,bq.out⟩))
      clear HJ HZ;go_wp2_with fail
      go_big_quiet (fail)
      clear x0 x1 x2 y0 y1 y2 heq;have az:=eu (nG ai.out nq);generalize World.drewN _ nq=wm at*;have hBr:B<=wr.heap.size:=by have:=ax.out.size;rw[HB.out]at this;exact this
      have hBm:B<=wm.heap.size:=qy hBr az.out.size;have aH:=eu (own_below aF.out az.out);have aT:=eu (ax.out.trans (az.out.mono hBr));have aU:=eu (show∀k,(Value.slice (some ⟨ob,oo,none⟩) m oc).ownBlock=some k->B<=k from λk hk=>(aH.out.lt k (by rw[HM.out];exact hk)).1);have hi1:O.length+1<=maxLen:=by rw[HM.out];simp only[maxLen];omega
      have hi2:(O.length+1)*24<=140737488355328:=by rw[HM.out];omega
      obtain⟨M,hM⟩:=my (m+1);have aC:=eu hM;have aj:=eu (show(O++[(⟨0,0,0⟩:Fl.Dg)]).length=M from by rw[oq,HM.out];exact hM);have ak:=eu (show(((O++[(⟨0,0,0⟩:Fl.Dg)]).take (n+1)++O.drop n):List Fl.Dg).length=M from by rw[oq,qx,oz,aj.out,HM.out];omega);have aB:=eu (show(((O++[(⟨0,0,0⟩:Fl.Dg)]).take (n+1)++O.drop n):List Fl.Dg).set n x=Ps.sM x O from by rw[aS.out];exact OB O n x _ (by rw[HM.out];exact hn));obtain⟨P,hP⟩:=my (n+1);have aD:=eu hP;have hw1:IntKind.i64.wrap ((n:Int)+1)=(P:Int):=by rw[<-hP];exact qA _ (by omega)
      have aI:P<=M:=by omega
      have bB:m<M:=by omega
      have bC:n<P:=by omega
      have hMs:n<M:=by omega
      have bD:M<=1000000001:=by omega
      clear hM hP hBr ai az ax aR;go_wp2_with (at_builtin;go_must (refine qm QT rfl (.tmp 44) (.tmp 46) rfl B _ O (⟨0,0,0⟩:Fl.Dg) _ rfl rfl (by rw[HM.out];have h9:=aH.out;rw[HM.out]at h9;exact h9) rfl hi1 hi2 hBm ?_;intro v7 w7 ag aJ;obtain⟨g,c7,rfl,hgB,-,aV,-⟩:=pP (E:=nJ) ag (by rw[aj.out];omega);have aA:=eu ag;have av:=eu ((aT.out.alloc hBm _).grown aJ (qy hBm (by simp)) aU.out);rw[aj.out]at aV⊢;clear ag aJ hi1 hi2))
      by_cases hnm:n=m
      ·subst hnm;obtain⟨a1,d1,hp1⟩:=yw (some ⟨g,0,none⟩) M c7 P aI (by omega);obtain⟨a2,d2,hp2⟩:=yw (some ⟨g,0,none⟩) M c7 n (by omega) (by omega);rw[show M-P=0 from by rw[<-aC.out,<-aD.out];omega]at hp1;rw[show M-n=1 from by rw[<-aC.out];omega]at hp2;have hcp:=Dh a1 a2 d1 d2;have aW:=eu (show(((O++[(⟨0,0,0⟩:Fl.Dg)]).take (n+1)++O.drop n):List Fl.Dg)=O++[(⟨0,0,0⟩:Fl.Dg)]from by rw[DI (by rw[aj.out,<-aC.out];omega),Q7 (by rw[HM.out];exact mJ _),rD]);go_wp2_with fail
       go_big_quiet (fail)
       have ay:=eu (nG (mF w7.heap.size w7) nq);generalize World.drewN _ nq=w8 at*;have ae:=eu (own_below aA.out ay.out);rw[<-aW.out]at ae;have af:=eu (av.out.trans (ay.out.mono (by have:=av.out.size;rw[HB.out]at this;exact this)));clear hp1 hp2 hcp aA av ay hgB;obtain⟨g',c8,e8,hgB,hfz,-,-⟩:=pP (E:=nJ) ae.out (by rw[ak.out];omega);obtain⟨e8,-,-⟩:=sK e8;injection e8 with e8
       injection e8 with e8
       subst e8;obtain⟨z8,ah⟩:∃z,(((O++[(⟨0,0,0⟩:Fl.Dg)]).take (n+1)++O.drop n):List Fl.Dg)[n]?=some z:=⟨_,qQ (by rw[ak.out];omega)⟩
       obtain⟨p0,q0,hpq,s0,s1,s2⟩:=sW (Reads.mW (E:=nJ) ae.out) n z8 ah;injection hpq with hpq
       injection hpq with e1 e2
       subst e1 e2;obtain⟨p1,q1,hpq,x0,x1,x2⟩:=HX.out w8 (by rw[HB.out];exact af.out) i x aP.out;injection hpq with hpq
       injection hpq with e1 e2
       subst e1 e2;have f0:=hfz (n*3);have f1:=hfz (n*3+1);have f2:=hfz (n*3+2);rw[qz]at s0 s1 s2;have hp:=zN n x ah ae.out;rw[aB.out]at hp;have HP:=eu hp;have aX:(n:Int)<(M:Int):=by omega
       clear hfz hp ah;go_wp2_with fail
       go_roundw
       case rel=>exact⟨i+1,Ps.sM x O,by go_num,by omega,aG.out,qy (Ps.zw x O) (by rw[HM.out];omega),by have h9:=HP.out;rw[ak.out]at h9;exact h9,((af.out.setCell (p:=⟨g,n*3,none⟩) hgB _).setCell (p:=⟨g,n*3+1,none⟩) hgB _).setCell (p:=⟨g,n*3+2,none⟩) hgB _⟩
       case measure=>simp[intOf];omega
      have aK:n<m:=by omega
      obtain⟨S1,hS1⟩:=my (Value.slice (some ⟨g,P*3,none⟩) (M-P) (c7-P));obtain⟨S2,hS2⟩:=my (Value.slice (some ⟨g,n*3,none⟩) (M-n) (c7-n));have hp1:=uk g M c7 P aI (by have:=aD.out;omega) (by omega);have hp2:=uk g M c7 n (by omega) (by omega) (by omega);obtain⟨w8,hrun,aL,aM⟩:=EJ (W:=w7.drew) O n M c7 (c7-P) (c7-n) (by rw[HM.out];exact aK) aj.out (by have h9:=World.ownsRow.drew' aA.out;rw[aj.out]at h9;exact h9);rw[aD.out,hS1,hS2]at hrun;rw[hS1]at hp1;rw[hS2]at hp2;obtain⟨aN,ae,af⟩:=nY hrun aL (aM w av.out.drew);clear hrun aL aM hS1 hS2 aA av hgB hnm;go_wp2_with fail
      refine mK (λwx=>True) 7 (by kernel_rfl) ?_;have hH:(λwx:World=>True) w7.drew:=trivial;refine nA 0 (.slice (some ⟨g,0,none⟩) M c7) rfl (by kernel_rfl) rfl mD (λW=>by go_simp) (λ_=>hH) ?_;refine nA 1 (.int .i64 (n:Int)) rfl (by kernel_rfl) rfl mD (λW=>by go_simp) (λ_=>hH) ?_;refine nA 2 (.int .i64 (P:Int)) rfl (by kernel_rfl) rfl mD (λW=>by go_simp) (λ_=>hH) ?_;refine mI 3 S1 rfl (by kernel_rfl) rfl mD (λW hW=>by go_simp) hH ?_;refine nA 4 (.slice (some ⟨g,0,none⟩) M c7) rfl (by kernel_rfl) rfl mD (λW=>by go_simp) (λ_=>hH) ?_;refine nA 5 (.int .i64 (n:Int)) rfl (by kernel_rfl) rfl mD (λW=>by go_simp) (λ_=>hH) ?_;refine mI 6 S2 rfl (by kernel_rfl) rfl mD (λW hW=>by go_simp) hH ?_;refine oD 7 (by kernel_rfl) rfl λK hK=>?_
      refine yN rfl (.tmp 51) (.tmp 54) 29 29 rfl S1 S2 _ w8 rfl rfl (aN.out _) ?_;refine hK.out _ _ (pV (by kernel_rfl)) (λ_=>?_);clear hK K;try simp only[Act.put,mM,mP,mO]
      refine mH (by kernel_rfl) ?_ _;obtain⟨g',c8,e8,hgB,hfz,-,-⟩:=pP (E:=nJ) ae.out (by rw[ak.out];omega);obtain⟨e8,-,-⟩:=sK e8;injection e8 with e8
      injection e8 with e8
      subst e8;obtain⟨z8,ah⟩:∃z,(((O++[(⟨0,0,0⟩:Fl.Dg)]).take (n+1)++O.drop n):List Fl.Dg)[n]?=some z:=⟨_,qQ (by rw[ak.out];omega)⟩
      obtain⟨p0,q0,hpq,s0,s1,s2⟩:=sW (Reads.mW (E:=nJ) ae.out) n z8 ah;injection hpq with hpq
      injection hpq with e1 e2
      subst e1 e2;obtain⟨p1,q1,hpq,x0,x1,x2⟩:=HX.out w8 (by rw[HB.out];exact af.out) i x aP.out;injection hpq with hpq
      injection hpq with e1 e2
      subst e1 e2;have f0:=hfz (n*3);have f1:=hfz (n*3+1);have f2:=hfz (n*3+2);rw[qz]at s0 s1 s2;have hp:=zN n x ah ae.out;rw[aB.out]at hp;have HP:=eu hp;have aX:(n:Int)<(M:Int):=by omega
      clear hfz hp ah;go_wp2_with fail
      go_roundw
      case rel=>exact⟨i+1,Ps.sM x O,by go_num,by omega,aG.out,qy (Ps.zw x O) (by rw[HM.out];omega),by have h9:=HP.out;rw[ak.out]at h9;exact h9,((af.out.setCell (p:=⟨g,n*3,none⟩) hgB _).setCell (p:=⟨g,n*3+1,none⟩) hgB _).setCell (p:=⟨g,n*3+2,none⟩) hgB _⟩
      case measure=>simp[intOf];omega
  obtain rfl:i=N:=by omega
  have hii:¬((i:Int)<(i:Int)):=by omega
  have hr:=aF.out;rw[<-aO.out,<-HN.out,Iu]at hr;have HD:=eu (HQ.out _ _ hr (by have h9:=ax.out;exact h9));clear hr;go_wp2_with fail
  try simp only[Exit.jump]
  exact HD.out
end
end Go.Proofs.Ytfbiffdmhcjhbaa

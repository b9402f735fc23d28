import Derived.Test.YtfbiffdmhcjhbaaGreatZa23
import Derived.Laws.CopyRow
set_option linter.all false
set_option maxHeartbeats 16000000
set_option maxRecDepth 100000
set_option synthInstance.maxSize 4000
set_option synthInstance.maxHeartbeats 0
namespace Go.Proofs.YtfbiffdmhcjhbaaGreat
open Go.RowKit Tryz
end Go.Proofs.YtfbiffdmhcjhbaaGreat
namespace Go
open Go.Proofs.YtfbiffdmhcjhbaaGreat
theorem xP{P:Program}(w:World)(dT sT ty elem:TypeId)(k g o dLen dCap:Nat)(a:Addr)(sLen sCap:Nat)(cur:Array Value)(t:TypeId)(cs:List Value)
 (hu:P.underlying dT=some (.slice elem)) (hs:(P.info? elem).map (·.size)=some k)
 (hg:w.heap[g]?=some (.cells cur t (0,0))) (hn:cs.length=Nat.min sLen dLen*k)
 (hsrc:∀j v,cs[j]?=some v->w.cell? (a.add j)=some v) (hfit:o+cs.length<=cur.size) (h1:∀v∈cs,v.oneCell'=true):
 (Builtin.copy_ #[dT,sT] ty #[.slice (some ⟨g,o,none⟩) dLen dCap,.slice (some a) sLen sCap]).run P w=
  .ok (goInt (Nat.min sLen dLen)) (w.setRow g (cur.toList.take o++cs++cur.toList.drop (o+cs.length)).toArray):=by
 have hl:=run_loadCells_list (P:=P) w a cs hsrc;have hst:=run_storeCells_at P g o t cs 0 cur w hg (by simpa using hfit) h1;cases hq:P.info? elem with
 |none=>simp[hq]at hs
 |some i=>
  have hi:i.size=k:=by simpa [hq]using hs
  simp[Builtin.copy_,run_underlying hu,Builtin.lenOf,Builtin.firstCells,sizeOf,typeInfo,hq,hi,<-hn,hl,hst]
end Go
namespace Go.Proofs.YtfbiffdmhcjhbaaGreat
open RowKit Tryz
namespace Ps
open Ar Fl
theorem Db(x:Dg):∀(O:List Dg)(n:Nat),Cs O->n<=O.length->(∀j y,n<=j->O[j]?=some y->less x y=true)->(∀k y,n=k+1->O[k]?=some y->less x y=false/\same y x=false)->lK x O=O.take n++x::O.drop n
 |[],n=>λ_ hn _ _=>by
  obtain rfl:n=0:=by simpa using hn
  rfl
 |y::r,0=>λ_ _ h _=>by rw[lK,eT (h 0 y (fC _) rfl)];rfl
 |y::r,n+1=>λhs hn h1 h2=>by
  unfold Cs at hs;obtain⟨hs1,hs2⟩:=vQ.1 hs;obtain⟨z,hz⟩:=iT (y::r) n (by omega);obtain⟨h3,h4⟩:=h2 n z rfl hz;have hxy:less x y=false/\same x y=false:=by
   cases n with
   |zero=>
    obtain rfl:y=z:=by simpa using hz
    refine⟨h3,?_⟩;rw[Al];intro e;rw[same_iff]at e;subst e;rw[(same_iff x x).2 rfl]at h4;cases h4
   |succ k=>
    have aa:=hs1 z (nQ (by simpa using hz));constructor
    ·rw[Al];intro e;rw[xJ e aa]at h3;cases h3
    rw[Al];intro e;rw[same_iff]at e;subst e;rw[aa]at h3;cases h3
  rw[lK,eQ (by rw[hxy.1];decide),eQ (by rw[hxy.2];decide),Db x r n hs2 (by simpa using hn) (λj u hj hu=>h1 (j+1) u (by omega) (by simpa using hu)) (λk u hk hu=>h2 (k+1) u (by omega) (by simpa using hu))];rfl
theorem BN(x:Dg):∀(O:List Dg),Cs O->x∈O->lK x O=O
 |[]=>λ_ h=>by cases h
 |y::r=>λhs hx=>by
  unfold Cs at hs;obtain⟨hs1,hs2⟩:=vQ.1 hs;rw[lK];rcases qV.1 hx with rfl|hx
  ·rw[eQ (by rw[Bv];decide),eT ((same_iff x x).2 rfl)]
  have h:=hs1 x hx;rw[eQ (by rw[GQ h];decide),eQ (λe=>by rw[same_iff]at e;subst e;rw[Bv]at h;cases h),BN x r hs2 hx]
theorem tH(x:Dg):∀O:List Dg,(lK x O).length<=O.length+1
 |[]=>fC _
 |y::r=>by
  rw[lK];split
  ·exact fC _
  split
  ·simp
  simp only[gy];have:=tH x r;omega
theorem Hf(D:List Dg)(i:Nat)(x:Dg)(hx:D[i]?=some x):lF (D.take (i+1))=lK x (lF (D.take i)):=by
 obtain⟨h1,h2⟩:=fT.1 hx;unfold lF;rw[LP h1,h2,List.foldl_append];rfl
end Ps
section
open Go.RowKit
open Sg
open Sq
open Ar
theorem KY(a b:Fl.Dg)(w:World):(binOp .eql 89 (.agg #[.int .i64 (a.code:Int),.int .i64 (a.f:Int),.int .i64 (a.t:Int)]) (.agg #[.int .i64 (b.code:Int),.int .i64 (b.f:Int),.int .i64 (b.t:Int)])).run prog w=.ok (.bool (Ps.same a b)) w:=by
 cases h:Ps.same a b with
 |false=>exact KG a b h w
 |true=>
  rw[Ps.same_iff]at h;subst h;exact JH _ _ _ w
theorem xQ{α:Type}{E:jV α}{w:World}{B e g n cap off:Nat}{L L':List α}{cs:List Value}{cur:Array Value}(h:w.ownsRow B e E.k (.slice (some ⟨g,0,none⟩) n cap) L.length (E.all L))(hg:w.heap[g]?=some (.cells cur e (0,0)))
 (hL:E.all L'=(E.all L).take off++cs) (hlen:L'.length=L.length) (hoff:off+cs.length=L.length*E.k):
 (w.setRow g (cur.toList.take off++cs++cur.toList.drop (off+cs.length)).toArray).ownsRow B e E.k (.slice (some ⟨g,0,none⟩) n cap) L'.length (E.all L'):=by
 obtain⟨h1,h2⟩:=h;rcases h2 with⟨h2,_⟩|⟨g',cap',cur',hv,hB,hh,hn,hcp,hcs,ht⟩
 ·cases h2
 obtain⟨e1,e2,e3⟩:=mq hv;injection e1 with e1
 injection e1 with e1
 subst e1 e3;rw[hg]at hh;injection hh with hh
 injection hh with hh
 subst hh;have hsz:off+cs.length<=cur.toList.length:=by
  rw[show cur.toList.length=cur.size from Lt,hcs,hoff];exact Qz _ hn
 refine⟨by rw[iX],.inr ⟨g,cap,(cur.toList.take off++cs++cur.toList.drop (off+cs.length)).toArray,by rw[hlen,<-e2],hB,setRow_heap w g cur _ e _ hg,by rw[hlen];exact hn,hcp,?_,?_⟩⟩
 ·rw[List.size_toArray,ig,ig,jQ,iq,<-hcs];have e9:cur.toList.length=cur.size:=Lt;omega
 rw[hlen,<-hoff,hL,<-ht];have ho:off<=L.length*E.k:=by omega
 rw[OH (by rw[ig,jQ];omega),zk (by rw[ig,jQ];omega),List.take_take,Cv ho]
theorem wJ{α:Type}(E:jV α):∀(L:List α)(i:Nat),(E.all L).take (i*E.k)=E.all (L.take i)
 |[],i=>by simp[jV.all]
 |x::r,0=>by simp[jV.all]
 |x::r,i+1=>by
  rw[vR,jV.all,jV.all,<-wJ E r i,show(i+1)*E.k=(E.cells x).length+i*E.k from by rw[E.len,qW];omega,List.take_length_add_append]
theorem Jk(O:List Fl.Dg)(n:Nat)(x z:Fl.Dg)(hn:n<=O.length):(((O++[z]).take (n+1)++O.drop n):List Fl.Dg).set n x=O.take n++x::O.drop n:=by
 obtain⟨u,hu⟩:=iT (O++[z]) n (by simp;omega);obtain⟨h1,h2⟩:=fT.1 hu;have hl:(O.take n).length=n:=by rw[jQ];omega
 rw[LP h1,h2,OH hn,lT,OE _ _ (by omega),hl,zl];rfl
theorem ug{w:World}{B g N cap:Nat}{L:List Fl.Dg}{z:Fl.Dg}(n:Nat)(x:Fl.Dg)(hz:L[n]?=some z)(h:w.ownsRow B 89 3 (.slice (some ⟨g,0,none⟩) N cap) L.length (gD.all L)):
 (((w.setCell ⟨g,n*3,none⟩ (.int .i64 (x.code:Int))).setCell ⟨g,n*3+1,none⟩ (.int .i64 (x.f:Int))).setCell ⟨g,n*3+2,none⟩ (.int .i64 (x.t:Int))).ownsRow B 89 3 (.slice (some ⟨g,0,none⟩) N cap) (L.set n x).length (gD.all (L.set n x)):=by
 have hs:=(fT.1 hz).1;have h1:=pR (E:=gD) h n 0 _ (⟨x.code,z.f,z.t⟩:Fl.Dg) (.int .i64 (x.code:Int)) hz rfl (by decide);have h2:=pR (E:=gD) h1 n 1 _ (⟨x.code,x.f,z.t⟩:Fl.Dg) (.int .i64 (x.f:Int)) (xW hs) rfl (by decide);have h3:=pR (E:=gD) h2 n 2 _ x (.int .i64 (x.t:Int)) (xW (by rw[qU];exact hs)) rfl (by decide);rw[List.set_set,List.set_set]at h3;exact h3
theorem rZ{P:Program}{ops:Array Oper}{o:Oper}{a:Act}{w:World}{K:Act->World->Prop}{Q:Exit->Act->World->Prop}{E:Prop}(hgd:o.guard=none)(d s:Operand)(dT sT:TypeId)
 (ho:o.op=.call {callee:=.builtin .copy,args:=#[d,s],argTypes:=#[dT,sT]}) (dv sv r:Value) (w':World) (hd:a.eval d=dv) (hs:a.eval s=sv) (hrun:(Builtin.copy_ #[dT,sT] o.type #[dv,sv]).run P w=.ok r w') (h:K (a.put o.dst r) w'):
 if Region.wanted o (yielded ops a.tmps)=true then Oper.wp P o a w K Q else E:=by
 have hw:Region.wanted o (yielded ops a.tmps)=true:=by simp[Region.wanted,hgd]
 rw[eT hw];unfold Oper.wp;simp[execOp,ho,resolve,invoke,builtin,hd,hs,hrun,Result.andThen];exact h
theorem BO{α:Type}(E:jV α):∀(L:List α)(i:Nat),(E.all L).drop (i*E.k)=E.all (L.drop i)
 |[],i=>by simp[jV.all]
 |x::r,0=>by simp
 |x::r,i+1=>by
  rw[Hw,jV.all,<-BO E r i,show(i+1)*E.k=(E.cells x).length+i*E.k from by rw[E.len,qW];omega,List.drop_length_add_append]
theorem World.ownsRow.drew'{w:World}{B e s n:Nat}{v:Value}{xs:List Value}(h:w.ownsRow B e s v n xs):w.drew.ownsRow B e s v n xs:=h
theorem mR(g n cap l:Nat)(hl:l<=n)(hc:l<cap)(hb:n<=1000000000000)(W:World):
 (Instr.slice 32 (.slice (some ⟨g,0,none⟩) n cap) (some (.int .i64 (l:Int))) none none).run prog W=.ok (.slice (some ⟨g,l*3,none⟩) (n-l) (cap-l)) W:=by
 rw[LX W _ _ n cap vB .i64 l (by omega) (by omega),vC];simp only[Result.andThen,sliced,iE];rw[eQ (by omega)];simp[Addr.add];intro e;exact e.symm
theorem zh{W:World}{B g:Nat}(O:List Fl.Dg)(n M c c1 c2:Nat)(hn:n<O.length)(hM:(O++[(⟨0,0,0⟩:Fl.Dg)]).length=M)
 (h:W.ownsRow B 89 3 (.slice (some ⟨g,0,none⟩) M c) M (gD.all (O++[(⟨0,0,0⟩:Fl.Dg)]))):
 ∃W',(∀ty,(Builtin.copy_ #[32,32] ty #[.slice (some ⟨g,(n+1)*3,none⟩) (M-(n+1)) c1,.slice (some ⟨g,n*3,none⟩) (M-n) c2]).run prog W=.ok (goInt (Nat.min (M-n) (M-(n+1)))) W')/\
  W'.ownsRow B 89 3 (.slice (some ⟨g,0,none⟩) (((O++[(⟨0,0,0⟩:Fl.Dg)]).take (n+1)++O.drop n):List Fl.Dg).length c) (((O++[(⟨0,0,0⟩:Fl.Dg)]).take (n+1)++O.drop n):List Fl.Dg).length (gD.all ((O++[(⟨0,0,0⟩:Fl.Dg)]).take (n+1)++O.drop n))/\(∀w0,Below B w0 W->Below B w0 W'):=by
 have aa:O.length+1=M:=by rw[<-hM,ig];rfl
 have hcells:=λj v (hj:(gD.all (O++[(⟨0,0,0⟩:Fl.Dg)]))[j]?=some v)=>h.cells (g:=g) rfl j v hj
 have h0:=h;obtain⟨h1,h2⟩:=h;rcases h2 with⟨h2,_⟩|⟨g',c',cur,hv,hB,hh,hnc,hcp,hcs,ht⟩
 ·cases h2
 obtain⟨e1,e2,e3⟩:=mq hv;injection e1 with e1
 injection e1 with e1
 subst e1 e3;have hcl:(gD.all (O.drop n)).length=(O.length-n)*3:=by rw[iX,iq];rfl
 have hmin:Nat.min (M-n) (M-(n+1))=O.length-n:=by show min (M-n) (M-(n+1))=_;omega
 have hll:(((O++[(⟨0,0,0⟩:Fl.Dg)]).take (n+1)++O.drop n):List Fl.Dg).length=(O++[(⟨0,0,0⟩:Fl.Dg)]).length:=by rw[ig,jQ,iq,hM];omega
 refine⟨_,λty=>xP W _ _ ty _ 3 g ((n+1)*3) _ c1 ⟨g,n*3,none⟩ _ c2 cur 89 (gD.all (O.drop n)) underlying32 (by kernel_rfl) hh (by rw[hcl,hmin]) (λj v hj=>?_) ?_ (pO gD _),?_,λw0 hb=>below_setRow hb hB _⟩
 ·rw[iy];have h8:(gD.all (O++[(⟨0,0,0⟩:Fl.Dg)]))[n*3+j]?=some v:=?_
  ·have h7:=hcells _ _ h8;rw[iy,j5]at h7;exact h7
  rw[mK,qx (by rw[iX];have h9:=(fT.1 hj).1;rw[hcl]at h9;show n*3+j<O.length*3;omega),<-hj,<-BO gD O n,qT];rfl
 ·rw[hcl,hcs];show(n+1)*3+(O.length-n)*3<=c*3;omega
 have h3:=xQ (E:=gD) (L:=O++[(⟨0,0,0⟩:Fl.Dg)]) (L':=(O++[(⟨0,0,0⟩:Fl.Dg)]).take (n+1)++O.drop n) (off:=(n+1)*3) (cs:=gD.all (O.drop n)) (cur:=cur) (n:=M) (by rw[hM];exact h0) hh (by rw[mK,<-wJ];rfl) hll (by rw[hcl,hM];show(n+1)*3+(O.length-n)*3=M*3;omega);rw[hll,hM]at h3⊢;exact h3
theorem KZ(v:Value)(D:List Fl.Dg)(w:World)(h:Reads gD w v D)(hsz:D.length<=1000000000):
 Calls prog 27 #[v] w λe w'=>∃v',e=.returned v'/\w'.ownsRow w.heap.size 89 3 v' (Ps.lF D).length (gD.all (Ps.lF D))/\Below w.heap.size w w':=by
 obtain⟨a,cap,rfl⟩:=h.shape;have HX:=eu (λW (hW:Below w.heap.size w W) j x hx=>lX (h.below hW) j x hx);have HQ:=eu (λw' v'=>show w'.ownsRow w.heap.size 89 3 v' (Ps.lF D).length (gD.all (Ps.lF D))->Below w.heap.size w w'->(λe (w':World)=>∃v',e=Ending.returned v'/\w'.ownsRow w.heap.size 89 3 v' (Ps.lF D).length (gD.all (Ps.lF D))/\Below w.heap.size w w') (.returned v') w' from λh1 h2=>⟨v',rfl,h1,h2⟩);obtain⟨Q,hQ⟩:=eX ((λe (w':World)=>∃v',e=Ending.returned v'/\w'.ownsRow w.heap.size 89 3 v' (Ps.lF D).length (gD.all (Ps.lF D))/\Below w.heap.size w w'));rw[hQ]at HQ⊢;obtain⟨N,hN⟩:=eX (D.length);rw[hN]at hsz⊢;have HN:=eu hN;obtain⟨B,hB⟩:=eX (w.heap.size);have HB:=eu hB;rw[hB]at HQ;clear h hQ hN hB
 go_enter func27,ntmps27
 go_wp2_with fail
 go_loopw [3,4] (λov iv wr=>∃(i:Nat)(O:List Fl.Dg),iv=.int .i64 (i:Int)/\i<=N/\Hid (Ps.lF (D.take i)=O)/\O.length<=i/\Hid (wr.ownsRow B 89 3 ov O.length (gD.all O))/\Hid (Below B w wr)) (λ_ iv _=>N-(intOf iv).toNat)
 case atStart=>exact⟨0,[],rfl,gG _,rfl,fC _,jq gD w B,by rw[<-HB.out];exact fu _ _⟩
 case round=>
  obtain⟨i,O,rfl,hin,aO,bA,aF,ax⟩:=hrel;by_cases hlt:i<N
  ·obtain⟨x,hx⟩:=iT D i (by rw[HN.out];exact hlt);obtain⟨db,aa,rfl,x0,x1,x2⟩:=HX.out wr (by rw[HB.out];exact ax.out) i x hx;have hii:(i:Int)<(N:Int):=by omega
   have aG:=eu (show Ps.lF (D.take (i+1))=Ps.lK x O from by rw[Ps.Hf D i x hx,aO.out]);have aQ:=eu (show Ps.Cs O from by rw[<-aO.out];exact Ps.Kt _);obtain⟨oa,oc,rfl⟩:=(Reads.fJ (E:=gD) aF.out).shape;obtain⟨m,hm⟩:=eX (O.length);have HM:=eu hm;have aR:=eu (Reads.fJ (E:=gD) aF.out);have aP:=eu hx;rw[hm]at bA⊢;clear hm hx aO;have HX0:=eu (show wr.cell? ⟨db,aa+i*3,none⟩=some (.int .i64 (x.code:Int))/\wr.cell? ⟨db,aa+i*3+1,none⟩=some (.int .i64 (x.f:Int))/\wr.cell? ⟨db,aa+i*3+2,none⟩=some (.int .i64 (x.t:Int))from⟨x0,x1,x2⟩);clear x0 x1 x2;go_wp2_with fail
   go_loopw [5] (λnv wz=>∃n:Nat,nv=.int .i64 (n:Int)/\n<=m/\Hid (∀j y,n<=j->O[j]?=some y->Ps.less x y=true)/\Hid (Below wr.heap.size wr wz)) (λnv _=>(intOf nv).toNat)
   case atStart=>exact⟨m,rfl,fC _,eu (λj y h1 h2=>by have h9:=(fT.1 h2).1;rw[HM.out]at h9;omega),eu (fu _ _)⟩
   case round=>
    obtain⟨n,rfl,hn,HJ,HZ⟩:=hrel
    rename World=>wz
    by_cases hn0:n=0
    ·have g0:decide ((0:Int)<(n:Int))=false:=iF (by omega);have g1:decide (0<n)=false:=iF (by omega);have aS:=eu (Ps.Db x O n aQ.out (by rw[HM.out];exact hn) HJ.out (λk y e _=>absurd e (by omega)));clear hn0 HJ;go_wp2_with fail
     go_big_quiet (fail)
     have ai:=eu (gB HZ.out nq);clear HZ;generalize World.drewN _ nq=wn at*;go_wp2_with fail
     go_big_quiet (fail)
     have az:=eu (gB ai.out nq);generalize World.drewN _ nq=wm at*;have hBr:B<=wr.heap.size:=by have:=ax.out.size;rw[HB.out]at this;exact this
     have hBm:B<=wm.heap.size:=jN hBr az.out.size;have aH:=eu (own_below aF.out az.out);have aT:=eu (ax.out.trans (az.out.mono hBr));have aU:=eu (show∀k,(Value.slice oa m oc).ownBlock=some k->B<=k from λk hk=>(aH.out.lt k (by rw[HM.out];exact hk)).1);have hi1:O.length+1<=maxLen:=by rw[HM.out];simp only[maxLen];omega
     have hi2:(O.length+1)*24<=140737488355328:=by rw[HM.out];omega
     obtain⟨M,hM⟩:=eX (m+1);have aC:=eu hM;have aj:=eu (show(O++[(⟨0,0,0⟩:Fl.Dg)]).length=M from by rw[ig,HM.out];exact hM);have ak:=eu (show(((O++[(⟨0,0,0⟩:Fl.Dg)]).take (n+1)++O.drop n):List Fl.Dg).length=M from by rw[ig,jQ,iq,aj.out,HM.out];omega);have aB:=eu (show(((O++[(⟨0,0,0⟩:Fl.Dg)]).take (n+1)++O.drop n):List Fl.Dg).set n x=Ps.lK x O from by rw[aS.out];exact Jk O n x _ (by rw[HM.out];exact hn));obtain⟨P,hP⟩:=eX (n+1);have aD:=eu hP;have hw1:IntKind.i64.wrap ((n:Int)+1)=(P:Int):=by rw[<-hP];exact jC _ (by omega)
     have aI:P<=M:=by omega
     have bB:m<M:=by omega
     have bC:n<P:=by omega
     have hMs:n<M:=by omega
     have bD:M<=1000000001:=by omega
     clear hM hP hBr ai az ax aR;go_wp2_with (at_builtin;go_must (refine jA Ll rfl (.tmp 44) (.tmp 46) rfl B _ O (⟨0,0,0⟩:Fl.Dg) _ rfl rfl (by rw[HM.out];have h9:=aH.out;rw[HM.out]at h9;exact h9) rfl hi1 hi2 hBm ?_;intro v7 w7 ag aJ;obtain⟨g,c7,rfl,hgB,-,aV,-⟩:=jG (E:=gD) ag (by rw[aj.out];omega);have aA:=eu ag;have av:=eu ((aT.out.alloc hBm _).grown aJ (jN hBm (by simp)) aU.out);rw[aj.out]at aV⊢;clear ag aJ hi1 hi2))
     by_cases hnm:n=m
     ·subst hnm;obtain⟨a1,d1,hp1⟩:=rJ (some ⟨g,0,none⟩) M c7 P aI (by omega);obtain⟨a2,d2,hp2⟩:=rJ (some ⟨g,0,none⟩) M c7 n (by omega) (by omega);rw[show M-P=0 from by rw[<-aC.out,<-aD.out];omega]at hp1;rw[show M-n=1 from by rw[<-aC.out];omega]at hp2;have hcp:=xK a1 a2 d1 d2;have aW:=eu (show(((O++[(⟨0,0,0⟩:Fl.Dg)]).take (n+1)++O.drop n):List Fl.Dg)=O++[(⟨0,0,0⟩:Fl.Dg)]from by rw[zk (by rw[aj.out,<-aC.out];omega),Om (by rw[HM.out];exact fC _),kH]);go_wp2_with fail
      go_big_quiet (fail)
      have ay:=eu (gB (fu w7.heap.size w7) nq);generalize World.drewN _ nq=w8 at*;have ae:=eu (own_below aA.out ay.out);rw[<-aW.out]at ae;have af:=eu (av.out.trans (ay.out.mono (by have:=av.out.size;rw[HB.out]at this;exact this)));clear hp1 hp2 hcp aA av ay hgB;obtain⟨g',c8,e8,hgB,hfz,-,-⟩:=jG (E:=gD) ae.out (by rw[ak.out];omega);obtain⟨e8,-,-⟩:=mq e8;injection e8 with e8
      injection e8 with e8
      subst e8;obtain⟨z8,ah⟩:∃z,(((O++[(⟨0,0,0⟩:Fl.Dg)]).take (n+1)++O.drop n):List Fl.Dg)[n]?=some z:=⟨_,lU (by rw[ak.out];omega)⟩
      obtain⟨p0,q0,hpq,s0,s1,s2⟩:=lX (Reads.fJ (E:=gD) ae.out) n z8 ah;injection hpq with hpq
      injection hpq with e1 e2
      subst e1 e2;obtain⟨p1,q1,hpq,x0,x1,x2⟩:=HX.out w8 (by rw[HB.out];exact af.out) i x aP.out;injection hpq with hpq
      injection hpq with e1 e2
      subst e1 e2;have f0:=hfz (n*3);have f1:=hfz (n*3+1);have f2:=hfz (n*3+2);rw[j5]at s0 s1 s2;have hp:=ug n x ah ae.out;rw[aB.out]at hp;have HP:=eu hp;have aX:(n:Int)<(M:Int):=by omega
      clear hfz hp ah;go_wp2_with fail
      go_roundw
      case rel=>exact⟨i+1,Ps.lK x O,by go_num,by omega,aG.out,jN (Ps.tH x O) (by rw[HM.out];omega),by have h9:=HP.out;rw[ak.out]at h9;exact h9,((af.out.setCell (p:=⟨g,n*3,none⟩) hgB _).setCell (p:=⟨g,n*3+1,none⟩) hgB _).setCell (p:=⟨g,n*3+2,none⟩) hgB _⟩
      case measure=>simp[intOf];omega
     have aK:n<m:=by omega
     obtain⟨S1,hS1⟩:=eX (Value.slice (some ⟨g,P*3,none⟩) (M-P) (c7-P));obtain⟨S2,hS2⟩:=eX (Value.slice (some ⟨g,n*3,none⟩) (M-n) (c7-n));have hp1:=mR g M c7 P aI (by have:=aD.out;omega) (by omega);have hp2:=mR g M c7 n (by omega) (by omega) (by omega);obtain⟨w8,hrun,aL,aM⟩:=zh (W:=w7.drew) O n M c7 (c7-P) (c7-n) (by rw[HM.out];exact aK) aj.out (by have h9:=World.ownsRow.drew' aA.out;rw[aj.out]at h9;exact h9);rw[aD.out,hS1,hS2]at hrun;rw[hS1]at hp1;rw[hS2]at hp2;obtain⟨aN,ae,af⟩:=gW hrun aL (aM w av.out.drew);clear hrun aL aM hS1 hS2 aA av hgB hnm;go_wp2_with fail
     refine fB (λwx=>True) 7 (by kernel_rfl) ?_;have hH:(λwx:World=>True) w7.drew:=trivial;refine fM 0 (.slice (some ⟨g,0,none⟩) M c7) rfl (by kernel_rfl) rfl eY (λW=>by go_simp) (λ_=>hH) ?_;refine fM 1 (.int .i64 (n:Int)) rfl (by kernel_rfl) rfl eY (λW=>by go_simp) (λ_=>hH) ?_;refine fM 2 (.int .i64 (P:Int)) rfl (by kernel_rfl) rfl eY (λW=>by go_simp) (λ_=>hH) ?_;refine fw 3 S1 rfl (by kernel_rfl) rfl eY (λW hW=>by go_simp) hH ?_;refine fM 4 (.slice (some ⟨g,0,none⟩) M c7) rfl (by kernel_rfl) rfl eY (λW=>by go_simp) (λ_=>hH) ?_;refine fM 5 (.int .i64 (n:Int)) rfl (by kernel_rfl) rfl eY (λW=>by go_simp) (λ_=>hH) ?_;refine fw 6 S2 rfl (by kernel_rfl) rfl eY (λW hW=>by go_simp) hH ?_;refine iD 7 (by kernel_rfl) rfl λK hK=>?_
     refine rZ rfl (.tmp 51) (.tmp 54) 32 32 rfl S1 S2 _ w8 rfl rfl (aN.out _) ?_;refine hK.out _ _ (jg (by kernel_rfl)) (λ_=>?_);clear hK K;try simp only[Act.put,fF,fH,fG]
     refine fA (by kernel_rfl) ?_ _;obtain⟨g',c8,e8,hgB,hfz,-,-⟩:=jG (E:=gD) ae.out (by rw[ak.out];omega);obtain⟨e8,-,-⟩:=mq e8;injection e8 with e8
     injection e8 with e8
     subst e8;obtain⟨z8,ah⟩:∃z,(((O++[(⟨0,0,0⟩:Fl.Dg)]).take (n+1)++O.drop n):List Fl.Dg)[n]?=some z:=⟨_,lU (by rw[ak.out];omega)⟩
     obtain⟨p0,q0,hpq,s0,s1,s2⟩:=lX (Reads.fJ (E:=gD) ae.out) n z8 ah;injection hpq with hpq
     injection hpq with e1 e2
     subst e1 e2;obtain⟨p1,q1,hpq,x0,x1,x2⟩:=HX.out w8 (by rw[HB.out];exact af.out) i x aP.out;injection hpq with hpq
     injection hpq with e1 e2
     subst e1 e2;have f0:=hfz (n*3);have f1:=hfz (n*3+1);have f2:=hfz (n*3+2);rw[j5]at s0 s1 s2;have hp:=ug n x ah ae.out;rw[aB.out]at hp;have HP:=eu hp;have aX:(n:Int)<(M:Int):=by omega
     clear hfz hp ah;go_wp2_with fail
     go_roundw
     case rel=>exact⟨i+1,Ps.lK x O,by go_num,by omega,aG.out,jN (Ps.tH x O) (by rw[HM.out];omega),by have h9:=HP.out;rw[ak.out]at h9;exact h9,((af.out.setCell (p:=⟨g,n*3,none⟩) hgB _).setCell (p:=⟨g,n*3+1,none⟩) hgB _).setCell (p:=⟨g,n*3+2,none⟩) hgB _⟩
     case measure=>simp[intOf];omega
    obtain⟨k,hk⟩:∃k,n=k+1:=⟨n-1,by omega⟩
    obtain⟨y,hy⟩:=iT O k (by rw[HM.out];omega);have bf:=aR.out;obtain⟨ob,oo,rfl,y0,y1,y2⟩:=lX bf k y hy;have Y3:=eu (And.intro y0 (And.intro y1 y2));clear y0 y1 y2;obtain⟨x0,x1,x2⟩:=HX0.out;obtain⟨y0,y1,y2⟩:=Y3.out;replace x0:=fe HZ.out x0;replace x1:=fe HZ.out x1;replace x2:=fe HZ.out x2;replace y0:=fe HZ.out y0;replace y1:=fe HZ.out y1;replace y2:=fe HZ.out y2;obtain⟨LB,aY⟩:=eX (Ps.less x y);obtain⟨SB,aZ⟩:=eX (Ps.same y x);have bg:=eu (λW=>by have:=QZ x y W;rw[aY]at this;exact this);have HEq:=eu (λW=>by have:=KY y x W;rw[aZ]at this;exact this);obtain⟨bn,bq,HY,HK⟩:=jk aY aZ hy hk;have g0:decide ((0:Int)<(n:Int))=true:=iO (by omega);have g1:decide (0<n)=true:=iO (by omega);have hw0:IntKind.i64.wrap ((n:Int)-1)=(k:Int):=by rw[show(n:Int)-1=(k:Int)from by omega];exact jC _ (by omega)
    have gk:(k:Int)<(m:Int):=by omega
    have bG:k<m:=by omega
    clear hk hn0 aY aZ hy bf;go_wp2_with fail
    refine fB (λwx=>wx.cell? ⟨db,aa+i*3,none⟩=some (.int .i64 (x.code:Int))/\wx.cell? ⟨db,aa+i*3+1,none⟩=some (.int .i64 (x.f:Int))/\wx.cell? ⟨db,aa+i*3+2,none⟩=some (.int .i64 (x.t:Int))/\wx.cell? ⟨ob,oo+k*3,none⟩=some (.int .i64 (y.code:Int))/\wx.cell? ⟨ob,oo+k*3+1,none⟩=some (.int .i64 (y.f:Int))/\wx.cell? ⟨ob,oo+k*3+2,none⟩=some (.int .i64 (y.t:Int))) 12 (by kernel_rfl) ?_;have hH:(λwx:World=>wx.cell? ⟨db,aa+i*3,none⟩=some (.int .i64 (x.code:Int))/\wx.cell? ⟨db,aa+i*3+1,none⟩=some (.int .i64 (x.f:Int))/\wx.cell? ⟨db,aa+i*3+2,none⟩=some (.int .i64 (x.t:Int))/\wx.cell? ⟨ob,oo+k*3,none⟩=some (.int .i64 (y.code:Int))/\wx.cell? ⟨ob,oo+k*3+1,none⟩=some (.int .i64 (y.f:Int))/\wx.cell? ⟨ob,oo+k*3+2,none⟩=some (.int .i64 (y.t:Int))) wz.drew:=⟨iY x0,iY x1,iY x2,iY y0,iY y1,iY y2⟩
    refine fM 0 (.int .i64 (n:Int)) rfl (by kernel_rfl) rfl eY (λW=>by go_simp) (λ_=>hH) ?_;refine fM 1 (.bool true) rfl (by kernel_rfl) rfl eY (λW=>by go_simp) (λ_=>hH) ?_;refine fw 2 (.bool true) rfl (by kernel_rfl) rfl eY (λW hW=>by go_simp) hH ?_;refine fM 3 (.slice (some ⟨db,aa,none⟩) N cap) rfl (by kernel_rfl) rfl eY (λW=>by go_simp) (λ_=>hH) ?_;refine fM 4 (.int .i64 (i:Int)) rfl (by kernel_rfl) rfl eY (λW=>by go_simp) (λ_=>hH) ?_;refine fM 5 (.pointer (some ⟨db,aa+i*3,none⟩)) rfl (by kernel_rfl) rfl eY (λW=>by go_simp) (λ_=>hH) ?_;refine fw 6 (.agg #[.int .i64 (x.code:Int),.int .i64 (x.f:Int),.int .i64 (x.t:Int)]) rfl (by kernel_rfl) rfl eY (λW hW=>?_) hH ?_
    ·obtain⟨z0,z1,z2,z3,z4,z5⟩:=hW;go_simp
    refine fM 7 (.slice (some ⟨ob,oo,none⟩) m oc) rfl (by kernel_rfl) rfl eY (λW=>by go_simp) (λ_=>hH) ?_;refine fM 8 (.int .i64 (n:Int)) rfl (by kernel_rfl) rfl eY (λW=>by go_simp) (λ_=>hH) ?_;refine fM 9 (.int .i64 (k:Int)) rfl (by kernel_rfl) rfl eY (λW=>by go_simp) (λ_=>hH) ?_;refine fM 10 (.pointer (some ⟨ob,oo+k*3,none⟩)) rfl (by kernel_rfl) rfl eY (λW=>by go_simp) (λ_=>hH) ?_;refine fw 11 (.agg #[.int .i64 (y.code:Int),.int .i64 (y.f:Int),.int .i64 (y.t:Int)]) rfl (by kernel_rfl) rfl eY (λW hW=>?_) hH ?_
    ·obtain⟨z0,z1,z2,z3,z4,z5⟩:=hW;go_simp
    refine iD 12 (by kernel_rfl) rfl λK hK=>?_
    go_simp;refine(bg.out wz.drew).mono ?_;rintro e w5 ⟨rfl,hb5⟩;have ai:=eu (j4 HZ.out (j4 (fu _ wz).drew hb5));clear hb5;refine hK.out _ _ (jg (by kernel_rfl)) (λ_=>?_);clear hK K;try simp only[Act.put,fF,fH,fG]
    refine fM 13 (.bool LB) rfl (by kernel_rfl) rfl eY (λW=>by go_simp) (jg (by kernel_rfl)) ?_;refine fA (by kernel_rfl) ?_ _;clear x0 x1 x2 y0 y1 y2 bg;cases LB with
    |true=>
     have HJ2:=eu (show∀(j:Nat)(z:Fl.Dg),k<=j->O[j]?=some z->Ps.less x z=true from λj z h1 h2=>by
      rcases lu j n with h|h
      ·obtain rfl:j=k:=by have:=HK.out;omega
       rw[HY.out]at h2;injection h2 with h2
       subst h2;exact bn.out
      exact HJ.out j z h h2)
     clear HJ HZ;go_wp2_with fail
     go_roundw
     case rel=>exact⟨k,rfl,by omega,HJ2,ai⟩
     case measure=>
      have h9:=HK.out;simp[intOf];omega
    |false=>
     obtain⟨x0,x1,x2⟩:=HX0.out;obtain⟨y0,y1,y2⟩:=Y3.out;replace x0:=fe ai.out x0;replace x1:=fe ai.out x1;replace x2:=fe ai.out x2;replace y0:=fe ai.out y0;replace y1:=fe ai.out y1;replace y2:=fe ai.out y2;have heq:=HEq.out;cases SB with
     |true=>
      have HSame:=eu (show Ps.lK x O=O from Ps.BN x O aQ.out (by have h9:=(Ps.same_iff y x).1 bq.out;subst h9;exact nQ HY.out));have ay:=eu (λnq=>ax.out.trans ((gB ai.out nq).mono (by have:=ax.out.size;rw[HB.out]at this;exact this)));have bz:=eu (λnq=>own_below aF.out (gB ai.out nq));clear HJ HZ;go_wp2_with fail
      go_big_quiet (fail)
      obtain⟨bE,bF⟩:=fD (ay.out nq) (bz.out nq);clear x0 x1 x2 y0 y1 y2 heq ay bz;generalize World.drewN _ nq=wm at*;go_wp2_with fail
      go_roundw
      case rel=>exact⟨i+1,O,by go_num,by omega,eu (aG.out.trans HSame.out),by rw[HM.out];omega,by have h9:=bF.out;rw[HM.out]at h9⊢;exact h9,bE⟩
      case measure=>simp[intOf];omega
     |false=>
      have aS:=eu (Ps.Db x O n aQ.out (by rw[HM.out];exact hn) HJ.out (λk' z e hz=>by
       obtain rfl:k'=k:=by have:=HK.out;omega
       rw[HY.out]at hz;injection hz with hz
       subst hz
       exact⟨bn.out,bq.out⟩))
      clear HJ HZ;go_wp2_with fail
      go_big_quiet (fail)
      clear x0 x1 x2 y0 y1 y2 heq;have az:=eu (gB ai.out nq);generalize World.drewN _ nq=wm at*;have hBr:B<=wr.heap.size:=by have:=ax.out.size;rw[HB.out]at this;exact this
      have hBm:B<=wm.heap.size:=jN hBr az.out.size;have aH:=eu (own_below aF.out az.out);have aT:=eu (ax.out.trans (az.out.mono hBr));have aU:=eu (show∀k,(Value.slice (some ⟨ob,oo,none⟩) m oc).ownBlock=some k->B<=k from λk hk=>(aH.out.lt k (by rw[HM.out];exact hk)).1);have hi1:O.length+1<=maxLen:=by rw[HM.out];simp only[maxLen];omega
      have hi2:(O.length+1)*24<=140737488355328:=by rw[HM.out];omega
      obtain⟨M,hM⟩:=eX (m+1);have aC:=eu hM;have aj:=eu (show(O++[(⟨0,0,0⟩:Fl.Dg)]).length=M from by rw[ig,HM.out];exact hM);have ak:=eu (show(((O++[(⟨0,0,0⟩:Fl.Dg)]).take (n+1)++O.drop n):List Fl.Dg).length=M from by rw[ig,jQ,iq,aj.out,HM.out];omega);have aB:=eu (show(((O++[(⟨0,0,0⟩:Fl.Dg)]).take (n+1)++O.drop n):List Fl.Dg).set n x=Ps.lK x O from by rw[aS.out];exact Jk O n x _ (by rw[HM.out];exact hn));obtain⟨P,hP⟩:=eX (n+1);have aD:=eu hP;have hw1:IntKind.i64.wrap ((n:Int)+1)=(P:Int):=by rw[<-hP];exact jC _ (by omega)
      have aI:P<=M:=by omega
      have bB:m<M:=by omega
      have bC:n<P:=by omega
      have hMs:n<M:=by omega
      have bD:M<=1000000001:=by omega
      clear hM hP hBr ai az ax aR;go_wp2_with (at_builtin;go_must (refine jA Ll rfl (.tmp 44) (.tmp 46) rfl B _ O (⟨0,0,0⟩:Fl.Dg) _ rfl rfl (by rw[HM.out];have h9:=aH.out;rw[HM.out]at h9;exact h9) rfl hi1 hi2 hBm ?_;intro v7 w7 ag aJ;obtain⟨g,c7,rfl,hgB,-,aV,-⟩:=jG (E:=gD) ag (by rw[aj.out];omega);have aA:=eu ag;have av:=eu ((aT.out.alloc hBm _).grown aJ (jN hBm (by simp)) aU.out);rw[aj.out]at aV⊢;clear ag aJ hi1 hi2))
      by_cases hnm:n=m
      ·subst hnm;obtain⟨a1,d1,hp1⟩:=rJ (some ⟨g,0,none⟩) M c7 P aI (by omega);obtain⟨a2,d2,hp2⟩:=rJ (some ⟨g,0,none⟩) M c7 n (by omega) (by omega);rw[show M-P=0 from by rw[<-aC.out,<-aD.out];omega]at hp1;rw[show M-n=1 from by rw[<-aC.out];omega]at hp2;have hcp:=xK a1 a2 d1 d2;have aW:=eu (show(((O++[(⟨0,0,0⟩:Fl.Dg)]).take (n+1)++O.drop n):List Fl.Dg)=O++[(⟨0,0,0⟩:Fl.Dg)]from by rw[zk (by rw[aj.out,<-aC.out];omega),Om (by rw[HM.out];exact fC _),kH]);go_wp2_with fail
       go_big_quiet (fail)
       have ay:=eu (gB (fu w7.heap.size w7) nq);generalize World.drewN _ nq=w8 at*;have ae:=eu (own_below aA.out ay.out);rw[<-aW.out]at ae;have af:=eu (av.out.trans (ay.out.mono (by have:=av.out.size;rw[HB.out]at this;exact this)));clear hp1 hp2 hcp aA av ay hgB;obtain⟨g',c8,e8,hgB,hfz,-,-⟩:=jG (E:=gD) ae.out (by rw[ak.out];omega);obtain⟨e8,-,-⟩:=mq e8;injection e8 with e8
       injection e8 with e8
       subst e8;obtain⟨z8,ah⟩:∃z,(((O++[(⟨0,0,0⟩:Fl.Dg)]).take (n+1)++O.drop n):List Fl.Dg)[n]?=some z:=⟨_,lU (by rw[ak.out];omega)⟩
       obtain⟨p0,q0,hpq,s0,s1,s2⟩:=lX (Reads.fJ (E:=gD) ae.out) n z8 ah;injection hpq with hpq
       injection hpq with e1 e2
       subst e1 e2;obtain⟨p1,q1,hpq,x0,x1,x2⟩:=HX.out w8 (by rw[HB.out];exact af.out) i x aP.out;injection hpq with hpq
       injection hpq with e1 e2
       subst e1 e2;have f0:=hfz (n*3);have f1:=hfz (n*3+1);have f2:=hfz (n*3+2);rw[j5]at s0 s1 s2;have hp:=ug n x ah ae.out;rw[aB.out]at hp;have HP:=eu hp;have aX:(n:Int)<(M:Int):=by omega
       clear hfz hp ah;go_wp2_with fail
       go_roundw
       case rel=>exact⟨i+1,Ps.lK x O,by go_num,by omega,aG.out,jN (Ps.tH x O) (by rw[HM.out];omega),by have h9:=HP.out;rw[ak.out]at h9;exact h9,((af.out.setCell (p:=⟨g,n*3,none⟩) hgB _).setCell (p:=⟨g,n*3+1,none⟩) hgB _).setCell (p:=⟨g,n*3+2,none⟩) hgB _⟩
       case measure=>simp[intOf];omega
      have aK:n<m:=by omega
      obtain⟨S1,hS1⟩:=eX (Value.slice (some ⟨g,P*3,none⟩) (M-P) (c7-P));obtain⟨S2,hS2⟩:=eX (Value.slice (some ⟨g,n*3,none⟩) (M-n) (c7-n));have hp1:=mR g M c7 P aI (by have:=aD.out;omega) (by omega);have hp2:=mR g M c7 n (by omega) (by omega) (by omega);obtain⟨w8,hrun,aL,aM⟩:=zh (W:=w7.drew) O n M c7 (c7-P) (c7-n) (by rw[HM.out];exact aK) aj.out (by have h9:=World.ownsRow.drew' aA.out;rw[aj.out]at h9;exact h9);rw[aD.out,hS1,hS2]at hrun;rw[hS1]at hp1;rw[hS2]at hp2;obtain⟨aN,ae,af⟩:=gW hrun aL (aM w av.out.drew);clear hrun aL aM hS1 hS2 aA av hgB hnm;go_wp2_with fail
      refine fB (λwx=>True) 7 (by kernel_rfl) ?_;have hH:(λwx:World=>True) w7.drew:=trivial;refine fM 0 (.slice (some ⟨g,0,none⟩) M c7) rfl (by kernel_rfl) rfl eY (λW=>by go_simp) (λ_=>hH) ?_;refine fM 1 (.int .i64 (n:Int)) rfl (by kernel_rfl) rfl eY (λW=>by go_simp) (λ_=>hH) ?_;refine fM 2 (.int .i64 (P:Int)) rfl (by kernel_rfl) rfl eY (λW=>by go_simp) (λ_=>hH) ?_;refine fw 3 S1 rfl (by kernel_rfl) rfl eY (λW hW=>by go_simp) hH ?_;refine fM 4 (.slice (some ⟨g,0,none⟩) M c7) rfl (by kernel_rfl) rfl eY (λW=>by go_simp) (λ_=>hH) ?_;refine fM 5 (.int .i64 (n:Int)) rfl (by kernel_rfl) rfl eY (λW=>by go_simp) (λ_=>hH) ?_;refine fw 6 S2 rfl (by kernel_rfl) rfl eY (λW hW=>by go_simp) hH ?_;refine iD 7 (by kernel_rfl) rfl λK hK=>?_
      refine rZ rfl (.tmp 51) (.tmp 54) 32 32 rfl S1 S2 _ w8 rfl rfl (aN.out _) ?_;refine hK.out _ _ (jg (by kernel_rfl)) (λ_=>?_);clear hK K;try simp only[Act.put,fF,fH,fG]
      refine fA (by kernel_rfl) ?_ _;obtain⟨g',c8,e8,hgB,hfz,-,-⟩:=jG (E:=gD) ae.out (by rw[ak.out];omega);obtain⟨e8,-,-⟩:=mq e8;injection e8 with e8
      injection e8 with e8
      subst e8;obtain⟨z8,ah⟩:∃z,(((O++[(⟨0,0,0⟩:Fl.Dg)]).take (n+1)++O.drop n):List Fl.Dg)[n]?=some z:=⟨_,lU (by rw[ak.out];omega)⟩
      obtain⟨p0,q0,hpq,s0,s1,s2⟩:=lX (Reads.fJ (E:=gD) ae.out) n z8 ah;injection hpq with hpq
      injection hpq with e1 e2
      subst e1 e2;obtain⟨p1,q1,hpq,x0,x1,x2⟩:=HX.out w8 (by rw[HB.out];exact af.out) i x aP.out;injection hpq with hpq
      injection hpq with e1 e2
      subst e1 e2;have f0:=hfz (n*3);have f1:=hfz (n*3+1);have f2:=hfz (n*3+2);rw[j5]at s0 s1 s2;have hp:=ug n x ah ae.out;rw[aB.out]at hp;have HP:=eu hp;have aX:(n:Int)<(M:Int):=by omega
      clear hfz hp ah;go_wp2_with fail
      go_roundw
      case rel=>exact⟨i+1,Ps.lK x O,by go_num,by omega,aG.out,jN (Ps.tH x O) (by rw[HM.out];omega),by have h9:=HP.out;rw[ak.out]at h9;exact h9,((af.out.setCell (p:=⟨g,n*3,none⟩) hgB _).setCell (p:=⟨g,n*3+1,none⟩) hgB _).setCell (p:=⟨g,n*3+2,none⟩) hgB _⟩
      case measure=>simp[intOf];omega
  obtain rfl:i=N:=by omega
  have hii:¬((i:Int)<(i:Int)):=by omega
  have hr:=aF.out;rw[<-aO.out,<-HN.out,FC]at hr;have HD:=eu (HQ.out _ _ hr (by have h9:=ax.out;exact h9));clear hr;go_wp2_with fail
  try simp only[Exit.jump]
  exact HD.out
end
end Go.Proofs.YtfbiffdmhcjhbaaGreat

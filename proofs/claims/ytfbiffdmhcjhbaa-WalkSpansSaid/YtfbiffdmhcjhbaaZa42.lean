import Derived.Test.YtfbiffdmhcjhbaaZa32
import Derived.Test.YtfbiffdmhcjhbaaZa35
import Derived.Test.YtfbiffdmhcjhbaaZa36
import Derived.Test.YtfbiffdmhcjhbaaZa37
set_option linter.all false
set_option maxHeartbeats 16000000
set_option maxRecDepth 100000
set_option synthInstance.maxSize 4000
set_option synthInstance.maxHeartbeats 0
namespace Go.Proofs.Ytfbiffdmhcjhbaa
open Go.RowKit Try
namespace Sg
open Go.Lib
theorem VK(s:ByteArray)(p:Nat)(h:p<s.size)(hr:(Utf8.decode s p).1≠65533):(nx s p).1=(Utf8.decode s p).1:=by
 rw[IB s p h,fu (λx=>hr x.1)]
end Sg
namespace Sg
open Go.Lib
theorem N5(a b:ByteArray)(i:Nat)(h:i<a.size):(a++b).get! i=a.get! i:=by
 rw[<-getD_get!',<-getD_get!',Cq,pO,vC (by rw[<-size_eq];exact h),<-pO]
theorem JM(a b:ByteArray)(i:Nat):(a++b).get! (a.size+i)=b.get! i:=by
 rw[<-getD_get!',<-getD_get!',Cq,pO,yF (by rw[<-size_eq];omega),<-size_eq,UC,<-pO]
theorem QO(a:ByteArray):a++(⟨#[]⟩:ByteArray)=a:=by
 cases a;simp[ByteArray.ext_iff]
end Sg
namespace Sg
open Go.Lib
def ends(s:ByteArray)(p:Nat):Prop:=p<s.size/\((s.get! p).toNat=10\/((s.get! p).toNat=13/\¬(p+1<s.size/\(s.get! (p+1)).toNat=10)))
instance (s:ByteArray)(p:Nat):Decidable (ends s p):=by unfold ends;infer_instance
def vK(s:ByteArray):Nat->List Nat
 |0=>[0]
 |k+1=>vK s k++if ends s k then[k+1]else[]
def ls(s:ByteArray):Nat->Nat
 |0=>0
 |k+1=>if ends s k then k+1 else ls s k
def st(s:ByteArray):List Nat:=vK s s.size
theorem KZ(s:ByteArray):∀k,1<=(vK s k).length
 |0=>by simp[vK]
 |k+1=>by have:=KZ s k;rw[vK,oq];omega
theorem TS(s:ByteArray):∀k,(vK s k).length<=k+1
 |0=>by simp[vK]
 |k+1=>by
  have:=TS s k;rw[vK,oq];split<;>simp<;>omega
theorem Xi(s:ByteArray):∀k,ls s k<=k
 |0=>mJ _
 |k+1=>by
  have:=Xi s k;rw[ls];split<;>omega
theorem Hr(s:ByteArray):∀k,∃l,vK s k=l++[ls s k]
 |0=>⟨[],rfl⟩
 |k+1=>by
  obtain⟨l,hl⟩:=Hr s k;rw[vK,ls];split
  ·exact⟨vK s k,rfl⟩
  rw[rD];exact⟨l,hl⟩
theorem AB(s:ByteArray)(k:Nat):∀d,∃r,vK s (k+d)=vK s k++r/\∀x∈r,k<x/\x<=k+d
 |0=>⟨[],by simp,by simp⟩
 |d+1=>by
  obtain⟨r,h1,h2⟩:=AB s k d;refine⟨r++if ends s (k+d)then[k+d+1]else[],?_,?_⟩
  ·rw[<-DJ,vK,h1,sF]
  intro x hx;rcases rQ.1 hx with h|h
  ·have:=h2 x h;omega
  split at h
  ·simp at h;omega
  cases h
theorem K3(s:ByteArray):∀k,∀x∈vK s k,x<=k
 |0=>by simp[vK]
 |k+1=>by
  intro x hx;rw[vK]at hx;rcases rQ.1 hx with h|h
  ·have:=K3 s k x h;omega
  split at h
  ·simp at h;omega
  cases h
theorem XL(s:ByteArray)(k m j:Nat)(hk:k<=m)(hj:j<(vK s m).length):(vK s m).getD j 0<=k↔j<(vK s k).length:=by
 obtain⟨d,rfl⟩:∃d,m=k+d:=⟨m-k,by omega⟩
 obtain⟨r,h1,h2⟩:=AB s k d;rw[h1]at hj⊢;rw[pO];by_cases h:j<(vK s k).length
 ·rw[vC h,qQ h];have:=K3 s k _ (Ur h);simp[h];exact this
 rw[yF (by omega)];rw[oq]at hj;have hlt:j-(vK s k).length<r.length:=by omega
 rw[qQ hlt];have:=h2 _ (Ur hlt);simp only[UF];constructor
 ·intro hh;omega
 intro hh;omega
theorem VU(s:ByteArray)(k m:Nat)(hk:k<=m):(vK s m).getD ((vK s k).length-1) 0=ls s k:=by
 obtain⟨d,rfl⟩:∃d,m=k+d:=⟨m-k,by omega⟩
 obtain⟨r,h1,_⟩:=AB s k d;obtain⟨l,hl⟩:=Hr s k;rw[h1,hl,oq,List.length_singleton,si,sF,pO,yF (mJ _)];simp
theorem TU(s:ByteArray):∀k,(vK s k).getD 0 0=0
 |0=>rfl
 |k+1=>by
  have h:=TU s k;have hp:=KZ s k;rw[vK,pO,vC (by omega),<-pO];exact h
theorem skip(s:ByteArray)(p:Nat):∀d,(∀i,p<=i->i<p+d->¬ends s i)->vK s (p+d)=vK s p/\ls s (p+d)=ls s p
 |0,_=>⟨rfl,rfl⟩
 |d+1,h=>by
  have ih:=skip s p d (λi h1 h2=>h i h1 (by omega));have hn:=h (p+d) (by omega) (by omega);rw[<-DJ,vK,ls,fu hn,fu hn,rD];exact ih
theorem Ij(s:ByteArray)(i:Nat)(h:128<=(s.get! i).toNat):¬ends s i:=by
 unfold ends;omega
theorem over(s:ByteArray)(p K:Nat)(hK:1<=K)(h:∀i,p<i->i<p+K->128<=(s.get! i).toNat):
 vK s (p+K)=vK s p++(if ends s p then[p+1]else[])/\ls s (p+K)=if ends s p then p+1 else ls s p:=by
 obtain⟨d,rfl⟩:∃d,K=1+d:=⟨K-1,by omega⟩
 have:=skip s (p+1) d (λi h1 h2=>Ij s i (h i (by omega) (by omega)));rw[<-DJ,this.1,this.2];exact⟨rfl,rfl⟩
theorem Ht(s:ByteArray)(p:Nat)(h:p<s.size):
 ((s.get! p).toNat<128->nx s p=(((s.get! p).toNat:Int),1))/\(128<=(s.get! p).toNat->((nx s p).1=-1\/128<=(nx s p).1)/\∀i,p<i->i<p+(nx s p).2->128<=(s.get! i).toNat):=by
 have l0:=(s.get! p).toNat_lt;have l1:=(s.get! (p+1)).toNat_lt;have l2:=(s.get! (p+2)).toNat_lt;have l3:=(s.get! (p+3)).toNat_lt;have hpos:0<s.size-p:=by omega
 refine⟨λhb=>by unfold nx;exact xE _ _ _ _ _ hpos hb,λhb=>?_⟩;have key:∀K:Nat,(2<=K->128<=(s.get! (p+1)).toNat)->(3<=K->128<=(s.get! (p+2)).toNat)->(4<=K->128<=(s.get! (p+3)).toNat)->K<=4->∀i,p<i->i<p+K->128<=(s.get! i).toNat:=by
  intro K k1 k2 k3 k4 i h1 h2;rcases(by omega:i=p+1\/i=p+2\/i=p+3)with rfl|rfl|rfl
  ·exact k1 (by omega)
  ·exact k2 (by omega)
  exact k3 (by omega)
 by_cases c2:(s.get! p).toNat<192
 ·have e:nx s p=(-1,1):=by unfold nx;exact vv _ _ _ _ _ hpos hb (.inl c2)
  rw[e];exact⟨.inl rfl,λi h1 h2=>by dsimp only at h2;omega⟩
 by_cases c3:(s.get! p).toNat<224
 ·have e:nx s p=D8 (s.size-p) ((s.get! p).toNat%32) (s.get! (p+1)).toNat:=by unfold nx;exact zZ _ _ _ _ _ hpos (by omega) c3 l1
  rw[e];refine⟨?_,key _ ?_ ?_ ?_ ?_⟩<;>unfold D8<;>(repeat' split)<;>dsimp only at*<;>omega
 by_cases c4:(s.get! p).toNat<240
 ·have e:nx s p=Dn (s.size-p) ((s.get! p).toNat%16) (s.get! (p+1)).toNat (s.get! (p+2)).toNat:=by unfold nx;exact vM _ _ _ _ _ hpos (by omega) c4 l1 l2
  rw[e];refine⟨?_,key _ ?_ ?_ ?_ ?_⟩<;>unfold Dn<;>(repeat' split)<;>dsimp only at*<;>omega
 by_cases c5:(s.get! p).toNat<248
 ·have e:nx s p=Bj (s.size-p) ((s.get! p).toNat%8) (s.get! (p+1)).toNat (s.get! (p+2)).toNat (s.get! (p+3)).toNat:=by unfold nx;exact xW _ _ _ _ _ hpos (by omega) c5 l1 l2 l3
  rw[e];refine⟨?_,key _ ?_ ?_ ?_ ?_⟩<;>unfold Bj<;>(repeat' split)<;>dsimp only at*<;>omega
 have e:nx s p=(-1,1):=by unfold nx;exact vv _ _ _ _ _ hpos hb (.inr (by omega))
 rw[e];exact⟨.inl rfl,λi h1 h2=>by dsimp only at h2;omega⟩
theorem Xl(s:ByteArray)(p:Nat)(h:p<s.size):∀i,p<i->i<p+(nx s p).2->128<=(s.get! i).toNat:=by
 have hf:=Ht s p h;by_cases hb:(s.get! p).toNat<128
 ·rw[hf.1 hb];intro i h1 h2;dsimp only at h2;omega
 exact(hf.2 (by omega)).2
theorem Xj(s:ByteArray)(p c:Nat)(h:p<s.size)(hc:c<128):(nx s p).1=(c:Int)↔(s.get! p).toNat=c:=by
 have hf:=Ht s p h;by_cases hb:(s.get! p).toNat<128
 ·rw[hf.1 hb];dsimp only;omega
 have:=(hf.2 (by omega)).1;constructor<;>intro hh<;>omega
theorem XB(s:ByteArray)(p c:Nat)(h:p<s.size)(hc:c<128):(Utf8.decode s p).1=c↔(s.get! p).toNat=c:=by
 have hi:=Xj s p c h hc;by_cases hr:(Utf8.decode s p).1=65533
 ·have h1:(nx s p).1=-1\/(nx s p).1=65533:=by
   rw[IB s p h];split
   ·exact .inl rfl
   exact .inr (by dsimp only;omega)
  constructor
  ·intro hh;omega
  intro hh;have:=hi.2 hh;omega
 rw[VK s p h hr]at hi;constructor
 ·intro hh;exact hi.1 (by omega)
 intro hh;have:=hi.2 hh;omega
theorem TV(s:ByteArray)(a i j:Nat)(hi:i<=s.size)(h:i<=a+j):(s.extract a i).get! j=0:=by
 rw[<-getD_get!',pO,xQ (by rw[<-size_eq,ext_size s a i hi];omega)];rfl
theorem VL(n v b1:Nat):D8 n v b1=(-1,1)\/(D8 n v b1).2=2:=by
 unfold D8;(repeat' split)<;>first|exact .inl rfl|exact .inr rfl
theorem VM(n v b1 b2:Nat):Dn n v b1 b2=(-1,1)\/(Dn n v b1 b2).2=3:=by
 unfold Dn;(repeat' split)<;>first|exact .inl rfl|exact .inr rfl
theorem VN(n v b1 b2 b3:Nat):Bj n v b1 b2 b3=(-1,1)\/(Bj n v b1 b2 b3).2=4:=by
 unfold Bj;(repeat' split)<;>first|exact .inl rfl|exact .inr rfl
theorem VO(n m b0 b1 b2 b3 c1 c2 c3:Nat)(hm:0<m)(hn:m<=n)(h:(xm n b0 b1 b2 b3).2<=m)(h0:b0<256)(l1:b1<256)(l2:b2<256)(l3:b3<256)
 (e1:1<m->c1=b1) (e2:2<m->c2=b2) (e3:3<m->c3=b3) (k1:m<=1->c1=0) (k2:m<=2->c2=0) (k3:m<=3->c3=0):xm m b0 c1 c2 c3=xm n b0 b1 b2 b3:=by
 have j1:c1<256:=by omega
 have j2:c2<256:=by omega
 have j3:c3<256:=by omega
 by_cases c1':b0<128
 ·rw[xE _ _ _ _ _ hm c1',xE _ _ _ _ _ (by omega) c1']
 by_cases c2':b0<192
 ·rw[vv _ _ _ _ _ hm (by omega) (.inl c2'),vv _ _ _ _ _ (by omega) (by omega) (.inl c2')]
 by_cases c3':b0<224
 ·rw[zZ _ _ _ _ _ (by omega) (by omega) c3' l1]at h;rw[zZ _ _ _ _ _ hm (by omega) c3' j1,zZ _ _ _ _ _ (by omega) (by omega) c3' l1];by_cases q:1<m
  ·rw[e1 q];unfold D8;rw[fu (show¬m<2 by omega),fu (show¬n<2 by omega)]
  rcases VL n (b0%32) b1 with e|e
  ·rw[e];unfold D8;rw[gu (show m<2 by omega)]
  omega
 by_cases aa:b0<240
 ·rw[vM _ _ _ _ _ (by omega) (by omega) aa l1 l2]at h;rw[vM _ _ _ _ _ hm (by omega) aa j1 j2,vM _ _ _ _ _ (by omega) (by omega) aa l1 l2];by_cases q:2<m
  ·rw[e1 (by omega),e2 q];unfold Dn;rw[fu (show¬m<3 by omega),fu (show¬n<3 by omega)]
  rcases VM n (b0%16) b1 b2 with e|e
  ·rw[e];unfold Dn;rw[gu (show m<3 by omega)]
  omega
 by_cases ae:b0<248
 ·rw[xW _ _ _ _ _ (by omega) (by omega) ae l1 l2 l3]at h;rw[xW _ _ _ _ _ hm (by omega) ae j1 j2 j3,xW _ _ _ _ _ (by omega) (by omega) ae l1 l2 l3];by_cases q:3<m
  ·rw[e1 (by omega),e2 (by omega),e3 q];unfold Bj;rw[fu (show¬m<4 by omega),fu (show¬n<4 by omega)]
  rcases VN n (b0%8) b1 b2 b3 with e|e
  ·rw[e];unfold Bj;rw[gu (show m<4 by omega)]
  omega
 rw[vv _ _ _ _ _ hm (by omega) (.inr (by omega)),vv _ _ _ _ _ (by omega) (by omega) (.inr (by omega))]
theorem VQ(s:ByteArray)(a i p:Nat)(hi:i<=s.size)(hp:a+p+(nx s (a+p)).2<=i)(hlt:a+p<i):nx (s.extract a i) p=nx s (a+p):=by
 have hg:∀k,a+(p+k)<i->((s.extract a i).get! (p+k)).toNat=(s.get! (a+p+k)).toNat:=λk hk=>by rw[ext_get s a i _ hk,<-DJ]
 have ho:∀k,i<=a+(p+k)->((s.extract a i).get! (p+k)).toNat=0:=λk hk=>by rw[TV s a i _ hi hk];rfl
 have h0:((s.extract a i).get! p).toNat=(s.get! (a+p)).toNat:=hg 0 hlt;unfold nx at hp⊢;rw[ext_size s a i hi,h0];exact VO _ _ _ _ _ _ _ _ _ (by omega) (by omega) (by omega) (s.get! (a+p)).toNat_lt (s.get! (a+p+1)).toNat_lt (s.get! (a+p+2)).toNat_lt (s.get! (a+p+3)).toNat_lt
  (λq=>hg 1 (by omega)) (λq=>hg 2 (by omega)) (λq=>hg 3 (by omega)) (λq=>ho 1 (by omega)) (λq=>ho 2 (by omega)) (λq=>ho 3 (by omega))
inductive Reach(s:ByteArray)(a:Nat):Nat->Nat->Prop
 |here:Reach s a a 0
 |step {p n:Nat}:Reach s a p n->p<s.size->Reach s a (p+(nx s p).2) (n+1)
theorem Reach.le{s:ByteArray}{a p n:Nat}(h:Reach s a p n):a<=p/\(a<=s.size->p<=s.size)/\n<=p-a:=by
 induction h with
 |here=>exact⟨mJ _,id,nO _⟩
 |step h hlt ih=>
  have h1:=T7 s _ hlt;have h2:=IC s _ hlt;refine⟨by omega,λ_=>h1,by omega⟩
theorem JC(a b:ByteArray)(hb:(b.get! 0).toNat≠10)(p:Nat)(h:p<a.size):ends (a++b) p↔ends a p:=by
 unfold ends;rw[pZ,N5 a b p h];by_cases h1:p+1<a.size
 ·rw[N5 a b (p+1) h1];omega
 have:p+1=a.size+0:=by omega
 rw[this,JM];omega
theorem K4(a b:ByteArray)(hb:(b.get! 0).toNat≠10):∀k,k<=a.size->vK (a++b) k=vK a k
 |0,_=>rfl
 |k+1,h=>by
  have h1:=JC a b hb k (by omega);rw[vK,vK,K4 a b hb k (by omega)];by_cases hc:ends a k
  ·rw[gu hc,gu (h1.2 hc)]
  rw[fu hc,fu (λx=>hc (h1.1 x))]
theorem M8(a b:ByteArray)(p:Nat):ends (a++b) (a.size+p)↔ends b p:=by
 unfold ends;rw[pZ,DJ,JM,JM];omega
def RF(b:ByteArray):Nat->Nat
 |0=>0
 |k+1=>RF b k+if ends b k then 1 else 0
theorem Hu(a b:ByteArray)(hb:(b.get! 0).toNat≠10):∀k,(vK (a++b) (a.size+k)).length=(vK a a.size).length+RF b k
 |0=>by rw[xh,K4 a b hb _ (mJ _)];rfl
 |k+1=>by
  have h1:=M8 a b k;rw[<-DJ,vK,oq,Hu a b hb k,RF];by_cases hc:ends b k
  ·rw[gu hc,gu (h1.2 hc)];rfl
  rw[fu hc,fu (λx=>hc (h1.1 x))];rfl
theorem Xm(a b:ByteArray)(hb:(b.get! 0).toNat≠10):(st (a++b)).length=(st a).length+RF b b.size:=by
 unfold st;rw[pZ,Hu a b hb]
end Sg
section
open Go.RowKit
open Sg
theorem zP{w:World}{B e size n k pos:Nat}{v:Value}{xs:List Value}{s:ByteArray}(h:w.ownsRow B e size v n xs)(hk:w.heap[k]?=some (.stringIter s pos)):v.ownBlock≠some k:=λe=>by
 rcases h.2 with⟨h1,_⟩|⟨g,cap,cur,h1,_,h3,_⟩
 ·rw[h1]at e;cases e
 rw[h1]at e;obtain rfl:g=k:=qJ e;rw[h3]at hk;cases hk
theorem own_iterAt{w:World}{B e size n k pos:Nat}{v:Value}{xs:List Value}{s:ByteArray}(h:w.ownsRow B e size v n xs)(hk:w.heap[k]?=some (.stringIter s pos))(pos':Nat):(w.iterAt k s pos').ownsRow B e size v n xs:=
 h.kept (row:=some k) ⟨rfl,rfl,rfl,rR (Lib.iterAt_size w k s pos').symm,λj _ hj=>Lib.iterAt_other w k j s pos' (λe=>hj (by rw[e]))⟩ (.inr (zP h hk))
theorem own_ne_iter{w:World}{B e size n k pos:Nat}{v:Value}{xs:List Value}{s:ByteArray}(h:w.ownsRow B e size v n xs)(hk:w.heap[k]?=some (.stringIter s pos)):some k≠v.ownBlock:=λe=>zP h hk e.symm
end
section
open Go.RowKit
theorem VR{w1 W W':World}(hn:Below w1.heap.size w1 W)(hb:Below W.heap.size W W'):Below w1.heap.size w1 W':=hn.trans (hb.mono hn.size)
theorem XM{W w1:World}(hb:Below W.heap.size W w1):(∀b o,b<W.heap.size->w1.cell? ⟨b,o,none⟩=W.cell? ⟨b,o,none⟩)/\(∀b o,b<W.heap.size->w1.frozen? ⟨b,o,none⟩=W.frozen? ⟨b,o,none⟩):=
 ⟨λb o h=>hb.cell (p:=⟨b,o,none⟩) h,λb o h=>hb.frozen (p:=⟨b,o,none⟩) h⟩
theorem Ik{W w':World}{p:Addr}(hb:Below W.heap.size W w')(h:(W.cell? p).isSome=true):(w'.cell? p).isSome=true:=by
 obtain⟨u,hu⟩:=Wp.1 h;rw[hb.cell (lt_of_cell hu)];exact h
theorem there_alloc{W:World}{o:Obj}{p:Addr}(h:(W.cell? p).isSome=true):((W.alloc o).cell? p).isSome=true:=Ik (mr W o) h
theorem there_drew{W:World}{p:Addr}(h:(W.cell? p).isSome=true):(W.drew.cell? p).isSome=true:=h
theorem VV{W:World}{q p:Addr}{v:Value}(h:(W.cell? p).isSome=true):((W.setCell q v).cell? p).isSome=true:=by
 by_cases e:q=p
 ·subst e;rw[pU _ _ _ h];rfl
 rw[UH _ _ _ _ e];exact h
theorem at_set{W:World}{p:Addr}{v:Value}(h:(W.cell? p).isSome=true):(W.setCell p v).cell? p=some v:=pU W p v h
end
section
open Go.RowKit
theorem run_append_nil(ty:TypeId)(b n cap:Nat)(w:World)(hn:n<=cap):
 (Builtin.append_ #[23,23] ty #[.slice (some ⟨b,0,none⟩) n cap,.slice none 0 0]).run prog w=.ok (.slice (some ⟨b,0,none⟩) n cap) w:=by
 obtain⟨i0,hi,hz0,hz1,hz2⟩:=Fa infoByte;simp[Builtin.append_,run_underlying underlying23,sizeOf,typeInfo,hi,Builtin.lenOf,Builtin.firstCells,hn,storeCells]
theorem M9{s:ByteArray}{j:Nat}{u:Value}(h:(cellsOf s)[j]?=some u):j<s.size/\u=.int .u8 (s.get! j).toNat:=by
 rw[cellsOf,r9]at h;obtain⟨x,hx,rfl⟩:=Wq.1 h;have hj:j<s.data.toList.length:=(nC.1 hx).1
 refine⟨by rw[vZ];exact hj,?_⟩;rw[<-BP,pO,hx];rfl
theorem Na(s:ByteArray)(j:Nat)(h:j<s.size):(cellsOf s)[j]?=some (.int .u8 (s.get! j).toNat):=by
 have hj:j<s.data.toList.length:=by rw[<-vZ];exact h
 rw[cellsOf,r9,qQ hj,<-BP,pO,qQ hj];rfl
theorem K6{w:World}{ops:Array Oper}{rest:List Oper}{o:Oper}{a:Act}{Q:Exit->Act->World->Prop}(hgd:o.guard=none)(x y:Operand)
 (ho:o.op=.call {callee:=.builtin .append,args:=#[x,y],argTypes:=#[23,23]})
 (g cap:Nat) (s:ByteArray) (hs:a.eval x=.slice (some ⟨g,0,none⟩) s.size cap) (hr:Fv w g s cap) (yv:Value) (bs:ByteArray) (hy:a.eval y=yv) (hb:uG w yv bs)
 (hlen:s.size+bs.size<=140737488355328)
 (h:∀v' w',uG w' v' (s++bs)->Below g w w'->wpList prog ops Q rest (a.put o.dst v') w'):wpList prog ops Q (o::rest) a w:=by
 obtain⟨i0,hi,hz0,hz1,hz2⟩:=Fa infoByte;obtain⟨C,fr,hC,hCs,hfr⟩:=hr.at';rcases hb with⟨rfl,hz⟩|⟨b,off,cap2,rfl,h2,h3,h4⟩
 ·refine wpList_plain hgd λK hK=>?_
  have hrun:=run_append_nil o.type g s.size cap w hr.le;unfold Oper.wp;simp[execOp,ho,resolve,invoke,builtin,hs,hy,hrun,Result.andThen];refine hK _ _ (h _ _ ?_ (mF _ _));have e:bs=⟨#[]⟩:=by
   cases bs with
   |mk d=>simp[ByteArray.size]at hz;rw[hz]
  rw[e,Sg.QO];exact hr.Xr
 have hlen1:(cellsOf bs).length=bs.size*1:=by rw[cellsOf,CV,Lm]
 refine wpList_append_arg w hgd x y 23 ho 5 i0 (.int .u8 0) 1 1 underlying23 hi hz0 hz1 hz2 rfl (by decide) g 0 s.size cap (cellsOf s) hs (by rw[cellsOf,CV,Lm]) (λj u hj=>?_) ⟨b,off,none⟩ bs.size cap2 (cellsOf bs) hy hlen1 (KS h4) (G7 bs) (λhfit j hj=>?_) (by simp only[maxLen];omega) (by omega) (λhfit=>h _ _ ?_ ?_) (λhno v' w' hown hg=>h _ _ ?_ ?_)
 ·obtain⟨h5,rfl⟩:=M9 hj;rw[qz];exact hr.cell j h5
 ·have hj2:j<bs.size:=by rw[hlen1]at hj;omega
  have hlt:0+s.size*1+j<C.size:=by omega
  constructor
  ·simp[World.cell?,hC];omega
  unfold World.frozen?;rw[hC];simp;omega
 ·have hsz:(s++bs).size=s.size+bs.size:=Sg.pZ s bs;refine .inr ⟨g,0,cap,by rw[hsz],by rw[hsz];exact hfit,hr.max,λj hj=>?_⟩;rw[hsz]at hj;by_cases hjs:j<s.size
  ·rw[World.cell?_setCells_out g _ _ _ _ (λ_ _=>.inl (by simp;omega)),qz,hr.cell j hjs,Sg.N5 _ _ _ hjs]
  have aa:∀k,k<(cellsOf bs).length->(w.cell? ⟨g,0+s.size*1+k,none⟩).isSome=true:=λk hk=>by
   rw[hlen1]at hk;simp[World.cell?,hC];omega
  have hin:=World.cell?_setCells_in g (cellsOf bs) (0+s.size*1) w aa (j-s.size) (by rw[hlen1];omega);rw[show(0:Nat)+j=0+s.size*1+(j-s.size)from by omega,hin,<-qQ,Na bs (j-s.size) (by omega)];have e:=Sg.JM s bs (j-s.size);rw[show s.size+(j-s.size)=j from by omega]at e;rw[e]
 ·exact Lib.below_setCells_w (mJ _) _ _ _
 ·have hown2:w'.ownsRow w.heap.size 5 1 v' (s++bs).size (cellsOf (s++bs)):=by
   rw[Sg.pZ];have e:cellsOf (s++bs)=cellsOf s++cellsOf bs:=by simp[cellsOf]
   rw[e];exact hown
  exact uG.mW hown2
 exact(mF g w).grown hg (by have:=(Ng.1 hC).1;omega) (λk hk=>by cases hk)
end
end Go.Proofs.Ytfbiffdmhcjhbaa
namespace Go
open Go.Proofs.Ytfbiffdmhcjhbaa
section
variable {P:Program}{ops:Array Oper}{Q:Exit->Act->World->Prop}{md:Region.Mode}{C:World->Prop}{st:Nat}
theorem nZ.K5{m:Sem Next}{v:Value}{w:World}{f:FuncId}{args:Array Value}(h:m.run P w=.ok (.enter f args) w)(hc:Calls P f args w (λe w''=>e=.returned v/\w=w'')):nZ P m v w:=by
 unfold nZ;rw[h];exact⟨rfl,hc⟩
end
end Go
namespace Go.Proofs.Ytfbiffdmhcjhbaa
open RowKit Try
section
open Go.RowKit
open Sg
open Sq
theorem Cg.read{L:List Rw.R}{w w':World}{e:Ending}(h:Cg L w e w'):∃a cap,e=.returned (.slice a L.length cap)/\Reads encR w' (.slice a L.length cap) L/\Below w.heap.size w w':=by
 obtain⟨u,rfl,hO,hB⟩:=h;have hR:=Reads.mW (E:=encR) hO;obtain⟨a,cap,rfl⟩:=hR.shape;exact⟨a,cap,rfl,hR,hB⟩
end
namespace Rw
theorem Xn(ts:List Tk)(p:Nat)(x:Tk)(hx:ts[p]?=some x):AZ ts p=if x.1=6 then((p+1:Nat):Int)else -1:=by
 unfold AZ;rw[qZ ts p x hx]
end Rw
section
open Go.RowKit
open Sq
open Ar
open Fl (Tk)
theorem XC:Sc.tokens [97]=[(15,0,1)]:=by decide+kernel
end
section
open Go.RowKit
open Sq
open Ar
open Fl (Tk)
namespace Wk
theorem XD(O:List Int)(i j:Nat):0<=yM O i j/\yM O i j<=O.length:=by
 unfold yM;split
 ·rename_i h;have:=Wd.2 (Rh h);omega
 omega
end Wk
theorem TW{l:List Tk}(ht:Rw.pI 0 l){f t f' t':Nat}(h1:f'<=f)(h2:f<t)(h3:t<=t')(h4:t'<=l.length):(Wk.oF l f' t').1<=(Wk.oF l f t).1/\(Wk.oF l f t).2<=(Wk.oF l f' t').2/\(Wk.oF l f t).1<(Wk.oF l f t).2:=by
 obtain⟨a,ha⟩:=pG l f (by omega);obtain⟨b,hb⟩:=pG l (t-1) (by omega);have ea:=CW ht ha h1 (by omega) h4;have eb:=CW ht hb (show f'<=t-1 by omega) (by omega) h4;have e:Wk.oF l f t=(a.2.1,b.2.2):=by unfold Wk.oF;rw[gu h2,yT ha,uI hb]
 rw[e];refine⟨ea.1,eb.2,?_⟩;show a.2.1<b.2.2
 have:=ht.le f a ha;have:=ht.le (t-1) b hb;rcases sJ f (t-1)with h|h
 ·have:=ht.lt f (t-1) a b h ha hb;omega
 obtain rfl:f=t-1:=by omega
 rw[hb]at ha;injection ha with ha;subst ha;omega
theorem Nb(l:List Tk)(f:Nat):(Wk.oF l f f).1=(Wk.oF l f f).2:=by
 unfold Wk.oF;rw[fu (Lj _)]
end
section
open Go.RowKit
open Sg
open Sq
def N6:List (List UInt8):=[[45,32],[97,58,32],[98,58,32,91,49,44,32,50,93],[45,32,99,58,32,100],[116,101,120,116],[93],[123,120,58,32,121,125],[45,32,124]]
abbrev JN:Array Value:=#[.string ⟨#[45,32]⟩,.string ⟨#[97,58,32]⟩,.string ⟨#[98,58,32,91,49,44,32,50,93]⟩,.string ⟨#[45,32,99,58,32,100]⟩,.string ⟨#[116,101,120,116]⟩,.string ⟨#[93]⟩,.string ⟨#[123,120,58,32,121,125]⟩,.string ⟨#[45,32,124]⟩]
theorem QP:JN=(N6.map λp=>Value.string ⟨p.toArray⟩).toArray:=rfl
theorem Nc:∀k:Fin 8,((N6[k.val]?).map λp=>decide (p.length<=9))=some true:=by decide+kernel
theorem TX(k:Nat)(hk:k<8):∃X:ByteArray,X.size<=9/\JN[k]?=some (.string X):=by
 have h:=Nc ⟨k,hk⟩;simp only at h;cases hp:N6[k]? with
 |none=>rw[hp]at h;cases h
 |some p=>
  rw[hp,Lp]at h;have h:=xS (qJ h);refine⟨⟨p.toArray⟩,by show p.toArray.size<=9;simpa using h,?_⟩;rw[QP,Lh,r9,hp];rfl
abbrev RH:ByteArray:=⟨#[32,32,32,32,32,32]⟩
theorem TY(k:Nat)(h:k<=6):∃C:ByteArray,C.size=k/\∀W:World,(Instr.slice 9 (.string ⟨#[32,32,32,32,32,32]⟩) none (some (.int .i64 (k:Int))) none).run prog W=.ok (.string C) W:=by
 have hs:RH.size=6:=rfl;refine⟨RH.extract 0 k,?_,λW=>?_⟩
 ·rw[K8,hs];omega
 show(Instr.slice 9 (.string RH) none (some (.int .i64 (k:Int))) none).run prog W=_;rw[run_slice_string_h W 9 RH underlying9 .i64 k (by omega) (by rw[hs];omega)];simp
def OL(w:World)(e:Ending)(w':World):Prop:=∃v,∃S:ByteArray,e=.returned v/\uG w' v S/\S.size<=400/\Below w.heap.size w w'
theorem TZ(v0:Value)(l0:List Int)(w:World)(h0:xU .i64 w v0 l0):
 Calls prog 17 #[v0] w (OL w):=by
 obtain⟨Q,hQ⟩:=my (OL w);rw[hQ];obtain⟨a0,cap0,rfl⟩:=h0.shape;have hl:=h0.len;obtain⟨NL,aa⟩:=my (l0.length);rw[aa]at hl;obtain⟨H0,HQ,ai⟩:=nY h0 hQ aa;clear h0 hQ;rw[aa];clear aa
 go_enter func17,ntmps17
 go_wp2_with fail
 go_loopw [3,4] (λsv iv wr=>∃(k:Nat)(S:ByteArray),iv=.int .i64 k/\k<=20/\sv=.string S/\Hid (S.size<=17*k/\Below w.heap.size w wr)) (λ_ iv _=>20-(intOf iv).toNat)
 case atStart=>exact⟨0,⟨#[]⟩,rfl,by omega,rfl,eu ⟨nO _,mF _ w⟩⟩
 case round=>
  obtain⟨k,S,rfl,hk,rfl,HS⟩:=hrel;by_cases hlt:k<NL/\k<20
  ·obtain⟨hlt1,hlt2⟩:=hlt;have i1:(k:Int)<(NL:Int):=by omega
   have i2:(k:Int)<20:=by omega
   obtain⟨nb,no,rfl,q2,q3,hc1⟩:=(H0.out.below HS.out.2).at_ (by rw[ai.out];exact hlt1);obtain⟨y,hy⟩:=my (l0.getD k 0);rw[hy]at hc1;obtain⟨j1,hj1,-,hw1⟩:=vW y 5 5 rfl (by decide) (by decide);obtain⟨y7,aj⟩:=my (IntKind.i64.wrap (y.tdiv 5));obtain⟨j2,hj2,-,hw2⟩:=vW y7 8 8 rfl (by decide) (by decide);obtain⟨C1,ak,av⟩:=TY j1 (by omega);obtain⟨Y,ax,ag⟩:=TX j2 hj2;have hsz:=HS.out.1;have n1:¬(9223372036854775807<S.size+C1.size):=by omega
   have n2:¬(9223372036854775807<S.size+C1.size+Y.size):=by omega
   have n3:¬(9223372036854775807<S.size+C1.size+Y.size+1):=by omega
   have i9:(j2:Int)<8:=by omega
   have i90:(0:Int)<=(j2:Int):=by omega
   obtain⟨WX,ae⟩:=my ((wr.alloc (.cells JN 9)).drew);have hbX:Below wr.heap.size wr WX:=ae▸((mF _ wr).alloc (mJ _) _).drew;obtain⟨BX,af⟩:=my (wr.heap.size);have xl:WX.cell? ⟨BX,j2,none⟩=some (.string Y):=by
    rw[<-ae,<-af];show(wr.alloc (.cells JN 9)).cell? ⟨wr.heap.size,j2,none⟩=_;rw[Rn];exact ag
   have xc:WX.cell? ⟨nb,no+k,none⟩=some (.int .i64 y):=ku hbX hc1;have hfz:(S++C1++Y++(⟨#[10]⟩:ByteArray)).size<=17*(k+1):=by rw[pZ,pZ,pZ];show _+1<=_;omega
   have ah:=eu (show(S++C1++Y++(⟨#[10]⟩:ByteArray)).size<=17*(k+1)/\Below w.heap.size w WX from⟨hfz,HS.out.2.trans (hbX.mono HS.out.2.size)⟩);obtain⟨HW1,HW2⟩:=mR hw1 hw2;have ay:=eu (show(wr.alloc (.cells #[.string ⟨#[45,32]⟩,.string ⟨#[97,58,32]⟩,.string ⟨#[98,58,32,91,49,44,32,50,93]⟩,.string ⟨#[45,32,99,58,32,100]⟩,.string ⟨#[116,101,120,116]⟩,.string ⟨#[93]⟩,.string ⟨#[123,120,58,32,121,125]⟩,.string ⟨#[45,32,124]⟩] 9)).drew=WX from ae);have az:=eu af;clear hy hw1 hw2 ag ae hbX af hfz hsz HS ax ak;go_upto_region 5 with fail
   refine mK (λwx=>wx.cell? ⟨nb,no+k,none⟩=some (.int .i64 y)) 19 (by kernel_rfl) ?_;have hH:(λwx:World=>wx.cell? ⟨nb,no+k,none⟩=some (.int .i64 y)) wr.drew:=pR hc1;refine mI 0 (.string S) rfl (by kernel_rfl) rfl mD (λW hW=>by go_simp) hH ?_;refine mI 1 (.slice (some ⟨nb,no,none⟩) NL cap0) rfl (by kernel_rfl) rfl mD (λW hW=>by go_simp) hH ?_;refine mI 2 (.int .i64 (k:Int)) rfl (by kernel_rfl) rfl mD (λW hW=>by go_simp) hH ?_;refine mI 3 (.pointer (some ⟨nb,no+k,none⟩)) rfl (by kernel_rfl) rfl mD (λW hW=>by go_simp) hH ?_;refine mI 4 (.int .i64 y) rfl (by kernel_rfl) rfl mD (λW hW=>by go_simp) hH ?_;refine xL (i:=5) (oi:=⟨_,_,_,_,_,_⟩) (v:=.int .i64 (j1:Int)) rfl (by kernel_rfl) (by kernel_rfl) (by kernel_rfl) (by kernel_rfl) (by kernel_rfl) mD (Or.inl ⟨rfl,λW hW=>?_⟩) hH ?_
   ·refine nZ.K5 (f:=13) (args:=#[.int .i64 y,.int .i64 5]) ?_ ?_
    ·go_simp
    exact HW1.out _
   try simp only[Act.put,mM,mP,mO]
   refine mI 6 (.string C1) rfl (by kernel_rfl) rfl mD (λW hW=>by go_simp) hH ?_;refine mI 7 (.string (S++C1)) rfl (by kernel_rfl) rfl mD (λW hW=>by go_simp) hH ?_;refine mI 9 (.slice (some ⟨nb,no,none⟩) NL cap0) rfl (by kernel_rfl) rfl mD (λW hW=>by go_simp) hH ?_;refine mI 10 (.int .i64 (k:Int)) rfl (by kernel_rfl) rfl mD (λW hW=>by go_simp) hH ?_;refine mI 11 (.pointer (some ⟨nb,no+k,none⟩)) rfl (by kernel_rfl) rfl mD (λW hW=>by go_simp) hH ?_;refine mI 12 (.int .i64 y) rfl (by kernel_rfl) rfl mD (λW hW=>by go_simp) hH ?_;refine mI 13 (.int .i64 y7) rfl (by kernel_rfl) rfl mD (λW hW=>by go_simp) hH ?_;refine xL (i:=14) (oi:=⟨_,_,_,_,_,_⟩) (v:=.int .i64 (j2:Int)) rfl (by kernel_rfl) (by kernel_rfl) (by kernel_rfl) (by kernel_rfl) (by kernel_rfl) mD (Or.inl ⟨rfl,λW hW=>?_⟩) hH ?_
   ·refine nZ.K5 (f:=13) (args:=#[.int .i64 y7,.int .i64 8]) ?_ ?_
    ·go_simp
    exact HW2.out _
   try simp only[Act.put,mM,mP,mO]
   refine oD 8 (by kernel_rfl) rfl λK hK=>?_
   go_simp;rw[ay.out];try rw[az.out]
   refine hK.out _ _ (λ_=>xc) (λhH2=>?_);clear hK K;replace hH:=hH2 (by kernel_rfl);clear hH2;try simp only[Act.put,mM,mP,mO]
   refine mI 15 (.pointer (some ⟨BX,j2,none⟩)) rfl (by kernel_rfl) rfl mD (λW hW=>by go_simp) hH ?_;refine oD 16 (by kernel_rfl) rfl λK hK=>?_
   go_simp;refine hK.out _ _ (λ_=>xc) (λhH2=>?_);clear hK K;replace hH:=hH2 (by kernel_rfl);clear hH2;try simp only[Act.put,mM,mP,mO]
   refine mI 17 (.string (S++C1++Y)) rfl (by kernel_rfl) rfl mD (λW hW=>by go_simp) hH ?_;refine mI 18 (.string (S++C1++Y++⟨#[10]⟩)) rfl (by kernel_rfl) rfl mD (λW hW=>by go_simp) hH ?_;refine oD 19 (by kernel_rfl) rfl λK hK=>?_
   go_simp;refine hK.out _ _ (pV (by kernel_rfl)) (λ_=>?_);clear hK K;try simp only[Act.put,mM,mP,mO]
   refine mH (by kernel_rfl) ?_ _;clear xl xc n1 n2 n3 hc1 aj;obtain⟨S2,hS2⟩:=my (S++C1++Y++(⟨#[10]⟩:ByteArray));rw[hS2]at ah⊢;clear hS2;go_wp2_with fail
   go_roundw
   case rel=>exact⟨k+1,S2,by go_num,by omega,rfl,ah⟩
   case measure=>simp[intOf];omega
  obtain⟨hsz,hbl⟩:=HS.out;obtain⟨cap0,w3,hcv,hrow,hb3⟩:=Hf S wr (by unfold maxLen;omega)
  have HD:=eu (show Q (.returned (.slice (some ⟨wr.heap.size,0,none⟩) S.size cap0)) w3 by
   rw[<-HQ.out]
   exact⟨_,S,rfl,hrow.Xr,by omega,hbl.trans (hb3.mono hbl.size)⟩)
  clear HS hsz hbl hrow hb3;by_cases hlt1:k<NL
  ·have i1:(k:Int)<(NL:Int):=by omega
   have i2:¬((k:Int)<20):=by omega
   clear hlt;go_wp2_with fail
   exact HD.out
  have i1:¬((k:Int)<(NL:Int)):=by omega
  clear hlt;go_wp2_with fail
  exact HD.out
end
section
open Go.RowKit
open Sq
open Ar
open Fl (Tk)
namespace Wk
def vJ(t:List Nd)(i:Nat):Nat:=(t.take i).countP (λx=>x.k==11)
theorem JD{t:List Nd}{i:Nat}{x:Nd}(h:t[i]?=some x):vJ t (i+1)=vJ t i+(if x.k=11 then 1 else 0):=by
 have hi:=(nC.1 h).1;have he:=(nC.1 h).2;unfold vJ;rw[Ri hi,Dx,he,V4];by_cases hk:x.k=11
 ·simp[hk]
 simp[hk]
theorem Xk(t:List Nd)(i:Nat):vJ t i<=i:=by
 unfold vJ;have:=List.countP_le_length (p:=λx:Nd=>x.k==11) (l:=t.take i);rw[qx]at this;omega
end Wk
theorem T3(w:World)(nv:Value)(l:List Nd)(hN:qH w nv l)(hl:l.length<=1000000):
 Calls prog 18 #[.agg #[nv]] w λe w'=>e=.returned (.int .i64 (Wk.vJ l l.length:Nat))/\Below w.heap.size w w':=by
 obtain⟨na,nc,rfl⟩:=hN.shape;have HX:=eu (λW (hW:Below w.heap.size w W) j x hj=>(hN.below hW).at_ j x hj);obtain⟨NN,ae⟩:=my (l.length);have ai:=eu ae;rw[ae]at hl⊢;have hQ:∀w',Below w.heap.size w w'->(λe (w':World)=>e=Ending.returned (.int .i64 (Wk.vJ l NN:Nat))/\Below w.heap.size w w') (.returned (.int .i64 (Wk.vJ l NN:Nat))) w':=λw' h=>⟨rfl,h⟩
 obtain⟨Q,af⟩:=my ((λe (w':World)=>e=Ending.returned (.int .i64 (Wk.vJ l NN:Nat))/\Below w.heap.size w w'));rw[af]at hQ⊢;have HQ:=eu hQ;obtain⟨w1,hw1⟩:=my (w.alloc (.cells #[.slice na NN nc] 34));have hb1:Below w.heap.size w w1:=hw1▸mr w _;obtain⟨bx,hbx⟩:=my (w.heap.size);have hx1:w1.cell? ⟨bx,0,none⟩=some (.slice na NN nc):=by rw[<-hw1,<-hbx];exact at_new rfl
 obtain⟨HW1,aj,HB1⟩:=nY hw1 hbx hb1;clear hQ af ae hw1 hbx hb1 hN
 go_enter func18,ntmps18
 go_upto_region 1 with fail
 rw[HW1.out,aj.out];clear HW1;go_wp2_with fail
 clear hx1
 go_loopw [3,9] (λev iv wr=>∃(i c:Nat),iv=.int .i64 i/\i<=NN/\ev=.int .i64 c/\c<=i/\Hid (c=Wk.vJ l i)/\Hid (Below w.heap.size w wr)) (λ_ iv _=>NN-(intOf iv).toNat)
 case atStart=>exact⟨0,0,rfl,nO _,rfl,mJ _,eu rfl,HB1⟩
 case round=>
  obtain⟨i,c,rfl,hi,rfl,hc,HC,HB⟩:=hrel;by_cases hlt:i<NN
  ·obtain⟨x,hx⟩:=pG l i (by rw[ai.out];omega);obtain⟨nb,no,ka,kc,rfl,c0,c1,c2,c3,c4,c5,-⟩:=HX.out wr HB.out i x hx;have gi:(i:Int)<(NN:Int):=by omega
   have hst:=Wk.JD hx;obtain⟨w4,hw4⟩:=my (wr.alloc (.cells #[.int .i64 x.k,.int .i64 x.f,.int .i64 x.t,.int .i64 x.u,.slice ka x.ks.length kc,.bool x.y] 37));have ag:=eu (HB.out.trans ((hw4▸mr wr _:Below wr.heap.size wr w4).mono HB.out.size));obtain⟨bn,hbn⟩:=my (wr.heap.size);have d0:w4.cell? ⟨bn,0,none⟩=some (.int .i64 x.k):=by rw[<-hw4,<-hbn];exact at_new rfl
   obtain⟨aa,ah⟩:=mR hw4 hbn;by_cases h11:x.k=11
   ·rw[gu h11]at hst;have HS:=eu (show c+1=Wk.vJ l (i+1)by rw[hst,<-HC.out]);have g11:(x.k==11)=true:=by simp[h11]
    clear hst hx h11 hw4 hbn;go_upto_region 5 with fail
    rw[ah.out,aa.out];clear aa c0 c1 c2 c3 c4 c5;go_wp2_with fail
    go_roundw
    case rel=>exact⟨i+1,c+1,by go_num,by omega,by go_num,by omega,HS,ag⟩
    case measure=>simp[intOf];omega
   rw[fu h11]at hst;have HS:=eu (show c=Wk.vJ l (i+1)by rw[hst,<-HC.out];rfl);have g11:(x.k==11)=false:=by simp[h11]
   clear hst hx h11 hw4 hbn;go_upto_region 5 with fail
   rw[ah.out,aa.out];clear aa c0 c1 c2 c3 c4 c5;go_wp2_with fail
   go_roundw
   case rel=>exact⟨i+1,c,by go_num,by omega,rfl,by omega,HS,ag⟩
   case measure=>simp[intOf];omega
  obtain rfl:i=NN:=by omega
  have HD:=eu (HQ.out wr HB.out);rw[<-HC.out]at HD;clear hlt HQ;go_wp2_with fail
  first|exact HD.out|(go_ret;exact HD.out)
end
end Go.Proofs.Ytfbiffdmhcjhbaa

import Derived.Test.YtfbiffdmhcjhbaaZa22
set_option linter.all false
set_option maxHeartbeats 16000000
set_option maxRecDepth 100000
namespace Go.Proofs.Ytfbiffdmhcjhbaa
open Go.RowKit Try
section
open Go.RowKit
open Sg
theorem uG.mW{w:World}{base:Nat}{v:Value}{s:ByteArray}(h:w.ownsRow base 5 1 v s.size (s.data.toList.map fun(x:UInt8)=>Value.int .u8 x.toNat)):uG w v s:=by
 rcases h.2 with⟨h1,h2⟩|⟨g,cap,cur,h1,h2,h3,h4,h5,h6,h7⟩
 ·exact .inl ⟨h1,h2⟩
 refine .inr ⟨g,0,cap,h1,h4,h5,λj hj=>?_⟩;have hj':j<s.data.toList.length:=by rw[<-vZ];exact hj
 have hc:=h.cells (g:=g) (by rw[h1];rfl) j (.int .u8 ((s.data.toList[j]).toNat:Int)) (by rw[r9,qQ hj'];rfl);rw[addr_add]at hc;rw[hc,<-BP,pO,qQ hj'];rfl
theorem infoByte:(prog.info? 5).map (λi=>(i.zero,i.size,i.bytes))=some (some (.int .u8 0),1,1):=by kernel_rfl
theorem KS{w:World}{b off:Nat}{s:ByteArray}(h:∀j,j<s.size->w.cell? ⟨b,off+j,none⟩=some (.int .u8 (s.get! j).toNat)):
 ∀j u,(s.data.toList.map fun(x:UInt8)=>Value.int .u8 x.toNat)[j]?=some u->w.cell? ((⟨b,off,none⟩:Addr).add j)=some u:=by
 intro j u hu;rw[r9]at hu;obtain⟨x,hx,rfl⟩:=Wq.1 hu;have hj:j<s.data.toList.length:=(nC.1 hx).1
 rw[addr_add,h j (by rw[vZ];exact hj),<-BP,pO,hx];rfl
theorem CV(s:ByteArray):(s.data.toList.map fun(x:UInt8)=>Value.int .u8 (x.toNat:Int)).length=s.size:=by rw[tV,<-vZ]
theorem G7(s:ByteArray):∀u∈(s.data.toList.map fun(x:UInt8)=>Value.int .u8 (x.toNat:Int)),u.oneCell'=true:=by
 intro u hu;obtain⟨x,_,rfl⟩:=AO.1 hu;rfl
def cellsOf(s:ByteArray):List Value:=s.data.toList.map fun(x:UInt8)=>Value.int .u8 (x.toNat:Int)
theorem zQ{w:World}{ops:Array Oper}{rest:List Oper}{o:Oper}{a:Act}{Q:Exit->Act->World->Prop}(hgd:o.guard=none)(x y:Operand)
 (ho:o.op=.call {callee:=.builtin .append,args:=#[x,y],argTypes:=#[23,23]})
 (base:Nat) (v:Value) (n:Nat) (xs:List Value) (hs:a.eval x=v) (hown:w.ownsRow base 5 1 v n xs) (yv:Value) (s:ByteArray) (hy:a.eval y=yv) (hb:uG w yv s)
 (hlen:n+s.size<=140737488355328) (hbase:base<=w.heap.size)
 (h:∀v' w',w'.ownsRow base 5 1 v' (n+s.size) (xs++cellsOf s)->w.grownBy w' v.ownBlock->wpList prog ops Q rest (a.put o.dst v') w'):wpList prog ops Q (o::rest) a w:=by
 obtain⟨i0,hi,hz0,hz1,hz2⟩:=Fa infoByte;rcases hb with⟨rfl,hz⟩|⟨b,off,cap,rfl,h2,h3,h4⟩
 ·refine Wt hgd x y 23 ho base 5 i0 1 underlying23 hi v n xs hs hown hy ?_;have e:cellsOf s=[]:=by
   have:s.data.toList.length=0:=by rw[<-vZ];exact hz
   rw[cellsOf,uV this];rfl
  refine h v w ?_ ⟨rfl,rfl,rfl,mJ _,λ_ _ _=>rfl⟩;rw[e,hz,rD,xh];exact hown
 exact Rm w hgd x y 23 ho base 5 i0 (.int .u8 0) 1 1 underlying23 hi hz0 hz1 hz2 rfl (by decide) v n xs hs hown ⟨b,off,none⟩ s.size cap (cellsOf s) hy (by rw[cellsOf,CV,Lm]) (KS h4) (G7 s) (by simp only[maxLen];omega) (by omega) hbase (λv' w' q1 q2 _=>h v' w' q1 q2)
end
section
open Go.RowKit
open Sg
theorem OG{w:World}{a:Option Addr}{s:ByteArray}{cap hi:Nat}(h:uG w (.slice a s.size cap) s)(h2:hi<=s.size):
 ∃v,(∀W:World,(Instr.slice 23 (.slice a s.size cap) none (some (.int .i64 (hi:Int))) none).run prog W=.ok v W)/\uG w v (s.extract 0 hi):=by
 have hb:=Kg h (nO hi) h2;have hc:=h.B6;refine⟨_,λW=>?_,hb⟩;rw[run_slice_h W _ a s.size cap yV .i64 hi (by omega) (by omega),size_bytes];simp[Result.andThen,sliced]
end
namespace Wk
open Ar
theorem Ef{l:List Nd}{n:Int}(h:Ck l n){i:Nat}{x:Nd}(hi:0<i)(hx:l[i]?=some x):
 ∃(j:Nat)(p:Nd),x.u=(j:Int)/\j<i/\l[j]?=some p/\(i:Int)∈p.ks/\p.f<=x.f/\x.f<=x.t/\x.t<=p.t:=by
 have hl:=(nC.1 hx).1;have hs:=h.seen i hi hl;have hm:(i:Int)∈l.flatMap (·.ks):=by
  have h0:0<(l.flatMap (·.ks)).countP (λz=>z==(i:Int)):=by omega
  obtain⟨z,hz,e⟩:=V3.1 h0;have e:z=(i:Int):=by simpa using e
  rw[<-e];exact hz
 obtain⟨p,hp,hk⟩:=Rf.1 hm;obtain⟨j,hj⟩:=yG hp;obtain⟨i',y,e1,e2,e3,e4,e5,e6,e7⟩:=h.kid j p hj _ hk;obtain rfl:i=i':=by omega
 rw[hx]at e3;injection e3 with e3
 subst e3;have hu:=h.up i x hi hx;exact⟨j,p,e4,by omega,hj,hk,e5,e6,e7.elim id False.elim⟩
end Wk
section
open Go.RowKit
open Sg
open Sq
theorem Ia(x n:Int)(w:World)(h1:1<=n)(h2:n<=1000):
 Calls prog 48 #[.int .i64 x,.int .i64 n] w λe w'=>e=.returned (.int .i64 (zb x n))/\w=w':=by
 have hb1:=La x (show 0<n by omega);have hb2:-n<x.tmod n:=by
  have:=La (-x) (show 0<n by omega);rw[Un]at this;omega
 have hz:(n==0)=false:=by simp;omega
 have hn1:n≠0:=by omega
 unfold zb;by_cases hc:x.tmod n<0
 ·rw[gu hc]
  go_enter func48,ntmps48
  go_wp2;go_ret;exact⟨rfl,rfl⟩
 rw[fu hc]
 go_enter func48,ntmps48
 go_wp2;go_ret;exact⟨rfl,rfl⟩
theorem Ib(x:Int)(n:Nat)(h1:1<=n)(h2:n<=1000):∃k:Nat,k<n/\∀w:World,Calls prog 48 #[.int .i64 x,.int .i64 n] w λe w'=>e=.returned (.int .i64 k)/\w=w':=by
 have hb:=Ki x n (by omega);refine⟨(zb x n).toNat,by omega,λw=>?_⟩;have:=Ia x n w (by omega) (by omega);rw[show((zb x n).toNat:Int)=zb x n from by omega];exact this
end
section
open Go.ChangeShapes Go.WideShapes Go.ChangeAt Go.RowKit
theorem laidOut:laidOutB prog=true:=by kernel_rfl
theorem Ju{P:Program}{w:World}{base:Nat}{t e:TypeId}{x:Addr}{len cap:Nat}(ht:P.underlying t=some (.slice e))(h:Value.okWide P w .any base t (.slice (some x) len cap)):x.spot=none:=by
 simp only[Value.okWide,ht,Cell.okWide]at h;simp only[Cell.ok,ht]at h;exact h.2.2.2.1
def xU(k:IntKind)(w:World)(v:Value)(l:List Int):Prop:=
 ((v=.slice none 0 0/\l=[])\/∃b off cap,v=.slice (some ⟨b,off,none⟩) l.length cap/\l.length<=cap/\cap<=maxLen/\∀j,j<l.length->w.cell? ⟨b,off+j,none⟩=some (.int k (l.getD j 0)))/\∀n∈l,(Lit.int k n).wf=true
theorem vo{H:Type}{enc:TypeId×Value->H}{w:World}{base:Nat}{t e:TypeId}{k:IntKind}{v:Value}{d:DataW H}{p:List MemPlace}
 (ht:prog.underlying t=some (.slice e)) (he:prog.underlying e=some (.int k)) (hce:prog.cellsOf e=1)
 (hv:Value.okWide prog w .any base t v) (h:DataW.Trod enc prog w 0 (λ_=>true) true t v d p):∃l,xU k w v l:=by
 obtain⟨a,len,cap,rfl⟩:=okWide_slice ht hv;obtain⟨fuel,hf⟩:=h;rcases open_ints ht he hce hf with⟨hcs,_⟩|⟨x,l,c,zs,hcs,_,hl,hm,hz,_,hcell,hwz⟩
 ·simp[Value.cells]at hcs;obtain⟨rfl,rfl,rfl⟩:=hcs;exact⟨[],.inl ⟨rfl,rfl⟩,by simp⟩
 simp[Value.cells]at hcs;obtain⟨rfl,rfl,rfl⟩:=hcs;have hsp:=Ju ht hv;obtain⟨b,off,spot⟩:=x;simp only at hsp;subst hsp;have hzl:zs.length=cap:=by simpa using hz
 have hlen:(zs.take len).length=len:=by rw[qx];omega
 refine⟨zs.take len,.inr ⟨b,off,cap,by rw[hlen],by rw[hlen];exact hl,hm,λj hj=>?_⟩,λn hn=>hwz n (Rh hn)⟩;rw[hlen]at hj;have:=hcell j (by omega);rw[addr_add]at this;rw[this];simp[List.getD,hj]
theorem Ic{w:World}{v:Value}{l:List Int}(h:xU .u8 w v l):∃s,uG w v s:=by
 obtain⟨h1,hwf⟩:=h;have hb:∀n∈l,0<=n/\n<256:=λn hn=>by
  have:=bounds_u8 (hwf n hn);omega
 refine⟨⟨(l.map λn=>UInt8.ofNat n.toNat).toArray⟩,?_⟩;have hsz:(⟨(l.map λn=>UInt8.ofNat n.toNat).toArray⟩:ByteArray).size=l.length:=by simp[ByteArray.size]
 rcases h1 with⟨rfl,rfl⟩|⟨b,off,cap,rfl,h2,h3,h4⟩
 ·exact .inl ⟨rfl,rfl⟩
 refine .inr ⟨b,off,cap,by rw[hsz],by rw[hsz];exact h2,h3,λj hj=>?_⟩;rw[hsz]at hj;rw[h4 j hj,<-BP,pO,pO];have hx:=hb l[j] (Ur hj);simp[hj];omega
theorem Dk{H:Type}{enc:TypeId×Value->H}{w:World}{base:Nat}{v:Value}{d:DataW H}{p:List MemPlace}
 (hv:Value.okWide prog w .any base 23 v) (h:DataW.Trod enc prog w 0 (λ_=>true) true 23 v d p):∃s,uG w v s:=by
 obtain⟨l,hl⟩:=vo underlying23 underlying5 (by kernel_rfl) hv h;exact Ic hl
end
section
open Go.RowKit
theorem xU.shape{k:IntKind}{w:World}{v:Value}{l:List Int}(h:xU k w v l):∃a cap,v=.slice a l.length cap:=by
 rcases h.1 with⟨h1,h2⟩|⟨b,off,cap,h1,_⟩
 ·exact⟨none,0,by rw[h1,h2];rfl⟩
 exact⟨_,_,h1⟩
theorem xU.below{k:IntKind}{w w':World}{v:Value}{l:List Int}(h:xU k w v l)(hb:Below w.heap.size w w'):xU k w' v l:=by
 refine⟨?_,h.2⟩;rcases h.1 with h1|⟨b,off,cap,h1,h2,h3,h4⟩
 ·exact .inl h1
 refine .inr ⟨b,off,cap,h1,h2,h3,λj hj=>?_⟩;have h5:=h4 j hj;rw[hb.cell (p:=⟨b,off+j,none⟩) (lt_of_cell h5)];exact h5
theorem xU.at_{k:IntKind}{w:World}{a:Option Addr}{l:List Int}{cap j:Nat}(h:xU k w (.slice a l.length cap) l)(hj:j<l.length):
 ∃b off,a=some ⟨b,off,none⟩/\l.length<=cap/\cap<=maxLen/\w.cell? ⟨b,off+j,none⟩=some (.int k (l.getD j 0)):=by
 rcases h.1 with⟨_,hz⟩|⟨b,off,cap',hv,g2,g3,g4⟩
 ·rw[hz]at hj;exact absurd hj (BM _)
 obtain⟨rfl,-,rfl⟩:=sK hv;exact⟨b,off,rfl,g2,g3,g4 j hj⟩
theorem xU.len{k:IntKind}{w:World}{v:Value}{l:List Int}(h1:xU k w v l):l.length<=9223372036854775807:=by
 rcases h1.1 with⟨_,hz⟩|⟨_,_,_,_,g2,g3,_⟩
 ·rw[hz];exact nO _
 simp only[maxLen]at g3;omega
end
end Go.Proofs.Ytfbiffdmhcjhbaa

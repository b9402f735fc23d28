import Derived.Test.YtfbiffdmhcjhbaaZa18
import Derived.Test.YtfbiffdmhcjhbaaZa20
set_option linter.all false
set_option maxHeartbeats 16000000
set_option maxRecDepth 100000
namespace Go.Proofs.Ytfbiffdmhcjhbaa
open Go.RowKit Try
section
open Go.RowKit
theorem KB:∀(f:Nat)(s:Sc.St)(p:Nat)(l:List Nat),∀x∈Sc.toks f s p l,x.2.1<=p+l.length/\x.2.2<=p+l.length
 |0,_,_,_=>λx h=>by cases h
 |f+1,s,p,l=>λx h=>by
  rw[Sc.toks]at h;by_cases hl:l=[]
  ·rw[gu hl]at h;cases h
  rw[fu hl]at h;have hp:=Sc.step_pos s l hl;rcases xg.1 h with rfl|h
  ·exact⟨by show p<=_;omega,by show p+(Sc.step s l).2.1<=_;omega⟩
  have:=KB f _ _ _ x h;rw[oz]at this;omega
theorem EK(l:List Nat)(x:Tk)(h:x∈Sc.tokens l):x.2.1<=l.length/\x.2.2<=l.length:=by
 unfold Sc.tokens at h;split at h
 ·cases h
 have:=KB _ _ _ _ x h;omega
theorem GV:∀(f:Nat)(s:Sc.St)(p:Nat)(l:List Nat),(Sc.toks f s p l).length<=f
 |0,_,_,_=>by simp[Sc.toks]
 |f+1,s,p,l=>by
  rw[Sc.toks];split
  ·simp
  rw[nI];have:=GV f (Sc.step s l).2.2 (p+(Sc.step s l).2.1) (l.drop (Sc.step s l).2.1);omega
theorem Di(l:List Nat):(Sc.tokens l).length<=l.length:=by
 unfold Sc.tokens;split
 ·simp
 exact GV _ _ _ _
end
namespace Ps
open Ar Fl
open Rw (R E)
theorem OC:∀(f p:Nat)(l:List Nat),∀x∈tX f p l,x<p+l.length
 |0,p,l=>λx hx=>by cases hx
 |f+1,p,l=>λx hx=>by
  rw[tX]at hx;by_cases hl:l=[]
  ·rw[gu hl]at hx;cases hx
  rw[fu hl]at hx;have hpos:0<l.length:=Np.2 hl
  have key:∀n,∀x∈tX f (p+n) (l.drop n),x<p+l.length:=by
   intro n x hx;have:=OC f _ _ x hx;rw[oz]at this;by_cases h:n<=l.length
   ·omega
   rw[uQ (by omega)]at hx;cases f with
   |zero=>cases hx
   |succ f=>rw[tX,gu rfl]at hx;cases hx
  split at hx
  ·rcases xg.1 hx with rfl|hx
   ·omega
   exact key _ x hx
  exact key _ x hx
theorem NU:∀(f p:Nat)(l:List UInt8),∀x∈(Qo.BK f p l).2.1,x<p+l.length
 |0,_,_=>λx hx=>by cases hx
 |_+1,_,[]=>λx hx=>by cases hx
 |f+1,p,c::r=>λx hx=>by
  rw[Qo.BK]at hx;by_cases q:c=34
  ·rw[gu q]at hx;cases hx
  rw[fu q]at hx;have h1:x∈(Qo.BK f (p+1) r).2.1->x<p+(c::r).length:=by
   intro h;have:=NU f _ _ x h;rw[nI];omega
  by_cases q2:c=92
  ·rw[gu q2]at hx;cases he:Es.esc (c::r)with
   |none=>
    rw[he]at hx;dsimp only at hx;rcases xg.1 hx with rfl|hx
    ·rw[nI];omega
    exact h1 hx
   |some y=>
    obtain⟨v,k⟩:=y;rw[he]at hx;dsimp only at hx;have hk:=Qo.BA he;have:=NU f _ _ x hx;rw[oz]at this;omega
  rw[fu q2]at hx;exact h1 hx
theorem GX(kind:Int)(l:List UInt8):∀x∈(Qo.rU kind l).2.1,x<l.length:=by
 intro x hx;unfold Qo.rU at hx;by_cases h0:l=[]
 ·rw[gu h0]at hx;cases hx
 rw[fu h0]at hx;have hpos:0<l.length:=Np.2 h0
 split at hx
 ·cases hx
 split at hx
 ·cases hx
 split at hx
 ·have:=NU _ _ _ x hx;rw[oz]at this;omega
 cases hx
end Ps
section
open Go.RowKit
open Sq
open Ar
open Fl (Tk)
theorem KC(s:ByteArray):∀(f p:Nat),Sg.tX s f p=Ps.tX f p ((Sc.ng s).drop p)
 |0,p=>rfl
 |f+1,p=>by
  have hlen:(Sc.ng s).length=s.size:=by simp[Sc.ng]
  rw[Sg.tX,Ps.tX];by_cases hp:p<s.size
  ·have hne:(Sc.ng s).drop p≠[]:=λh=>by
    have:=congrArg List.length h;rw[oz,hlen]at this;simp at this;omega
   rw[gu hp,fu hne,Sc.UX,<-Sc.JU,sG];rw[KC s f (p+(Sg.nx s p).2)];by_cases hn:(Sg.nx s p).1<0
   ·rw[gu hn,gu (oP hn)]
   rw[fu hn,fu (by simpa using hn)]
  have hnil:(Sc.ng s).drop p=[]:=uQ (by omega);rw[fu hp,gu hnil]
theorem OD(s:ByteArray):Sg.bad s=Ps.tX (Sc.ng s).length 0 (Sc.ng s):=by
 have hlen:(Sc.ng s).length=s.size:=by simp[Sc.ng]
 rw[hlen];exact KC s s.size 0
theorem y8:∀bs:List Nat,places bs=encI.all (bs.map (fun(p:Nat)=>(p:Int)))
 |[]=>rfl
 |x::r=>by
  show Value.int .i64 (x:Int)::places r=Value.int .i64 (x:Int)::encI.all (r.map _);rw[y8 r]
theorem Ql(s:ByteArray)(f t:Nat):(Ps.part (Sc.ng s) f t).map UInt8.ofNat=(s.extract f t).data.toList:=by
 have h1:(s.extract f t).data.toList=(s.data.toList.drop f).take (t-f):=by
  rw[ByteArray.data_extract,Array.toList_extract]
 rw[h1];unfold Ps.part Sc.ng;rw[<-List.map_drop,<-List.map_take,Ut];have e:(UInt8.ofNat∘λx:UInt8=>x.toNat)=id:=by
  funext x;simp
 first
  |rw[e,List.map_id]
  |simp[Function.comp_def]
def AL(b:ByteArray)(x:Tk):Bool×List Nat:=((Qo.rU (x.1:Nat) (b.extract x.2.1 x.2.2).data.toList).2.2,(Qo.rU (x.1:Nat) (b.extract x.2.1 x.2.2).data.toList).2.1)
def Gf(x:Tk)(k:Nat):Fl.Dg:=⟨4,x.2.1+k,x.2.1+k+1⟩
theorem Az(b:ByteArray)(x:Tk):Ps.qU (Sc.ng b) x=if x.1=16\/x.1=17 then(if(AL b x).1=true then[]else[(⟨3,x.2.1,x.2.2⟩:Fl.Dg)])++(AL b x).2.map (Gf x)else[]:=by
 unfold Ps.qU AL;dsimp only;rw[Ql];rfl
structure RA(b:ByteArray)(x:Tk):Prop where
 lo:x.2.1<=x.2.2
 hi:x.2.2<=b.size
 len:(AL b x).2.length<=1000000
 le:∀k∈(AL b x).2,k<=1000000
theorem Xx(b:ByteArray)(x:Tk)(h:RA b x):(Ps.qU (Sc.ng b) x).length<=1000001:=by
 rw[Az];have:=h.len;split
 ·rw[oq,tV];split<;>simp<;>omega
 exact nO _
theorem EO(b:ByteArray):∀l:List Tk,(∀x∈l,RA b x)->(l.flatMap (Ps.qU (Sc.ng b))).length<=l.length*1000001
 |[],_=>nO _
 |x::l,h=>by
  rw[uW,oq,nI,xR,Nt];have h1:=Xx b x (h x (by simp));have h3:=EO b l (λy hy=>h y (by simp[hy]));omega
theorem NV:∀(f p:Nat)(l:List UInt8),(∀x∈(Qo.BK f p l).2.1,p<=x)/\(Qo.BK f p l).2.1.Pairwise (·<·)
 |0,_,_=>⟨λx hx=>(by cases hx),.nil⟩
 |_+1,_,[]=>⟨λx hx=>(by cases hx),.nil⟩
 |f+1,p,c::r=>by
  rw[Qo.BK];by_cases q:c=34
  ·rw[gu q];exact⟨λx hx=>(by cases hx),.nil⟩
  rw[fu q];obtain⟨h1,h2⟩:=NV f (p+1) r;by_cases q2:c=92
  ·rw[gu q2];cases he:Es.esc (c::r)with
   |none=>
    dsimp only;refine⟨λx hx=>?_,?_⟩
    ·rcases xg.1 hx with rfl|hx
     ·exact mJ _
     have:=h1 x hx;omega
    rw[AQ];exact⟨λy hy=>by have:=h1 y hy;omega,h2⟩
   |some y=>
    obtain⟨v,k⟩:=y;dsimp only;obtain⟨g1,g2⟩:=NV f (p+k) ((c::r).drop k);exact⟨λx hx=>by have:=g1 x hx;omega,g2⟩
  rw[fu q2];exact⟨λx hx=>by have:=h1 x hx;omega,h2⟩
theorem KE(kind:Int)(l:List UInt8):(Qo.rU kind l).2.1.Pairwise (·<·):=by
 unfold Qo.rU;split
 ·exact .nil
 split
 ·exact .nil
 split
 ·exact .nil
 split
 ·exact(NV _ _ _).2
 exact .nil
theorem uK{n:Nat}:∀l:List Nat,l.Pairwise (·<·)->(∀x∈l,x<n)->l.length<=n:=by
 have key:∀(l:List Nat)(p:Nat),l.Pairwise (·<·)->(∀x∈l,p<=x/\x<n)->p<=n->p+l.length<=n:=by
  intro l
  induction l with
  |nil=>intro p _ _ h;exact h
  |cons x r ih=>
   intro p h1 h2 _;rw[AQ]at h1;have hx:=h2 x (by simp);have:=ih (x+1) h1.2 (λy hy=>⟨h1.1 y hy,(h2 y (by simp[hy])).2⟩) (by omega);rw[nI];omega
 intro l h1 h2;have:=key l 0 h1 (λx hx=>⟨nO _,h2 x hx⟩) (nO _);omega
theorem Tm(b:ByteArray)(hb:b.size<=100000):∀x∈Sc.tokens (Sc.ng b),RA b x:=λx hx=>by
 have ht:=Rw.xM (Sc.ng b);obtain⟨j,hj⟩:=yG hx;have h1:=(ht.le j x hj).2;have h2:=EK (Sc.ng b) x hx;rw[Sc.rF]at h2;have hl:(b.extract x.2.1 x.2.2).data.toList.length<=100000:=by
  rw[QY];show(b.extract x.2.1 x.2.2).size<=_;rw[K8];omega
 have hbd:=Ps.GX (x.1:Nat) (b.extract x.2.1 x.2.2).data.toList;refine⟨AV h1,h2.2,?_,λk hk=>?_⟩
 ·have:=uK (n:=100000) _ (KE (x.1:Nat) (b.extract x.2.1 x.2.2).data.toList) (λk hk=>by have:=hbd k hk;omega);show(Qo.rU (x.1:Nat) _).2.1.length<=_;omega
 have:=hbd k hk;omega
end
namespace Ps
open Ar Fl
open Rw (R E)
def Ac(p:Nat):Dg:=⟨1,p,p+1⟩
def yS(b:List Nat)(l:List Tk)(F i:Nat):Option Dg:=
 if raw l (F+i)=3/\(part b (wu l (F+i)) (too l (F+i))).contains 9=true then some ⟨2,wu l (F+i),too l (F+i)⟩else none
def yB(b:List Nat)(l:List Tk)(F j:Nat):List Dg:=(List.range j).filterMap (yS b l F)
theorem KF(b:List Nat)(l:List Tk)(r:R):tabs b l r=if r.kind=5 then yB b l r.from' (lo l r.from' r.au-r.from')else[]:=rfl
theorem Js(b:List Nat)(l:List Tk)(F j:Nat):yB b l F (j+1)=yB b l F j++(yS b l F j).toList:=by
 unfold yB;rw[Uy,List.filterMap_append,List.filterMap_cons,List.filterMap_nil];cases yS b l F j<;>rfl
theorem EP(b:List Nat)(l:List Tk)(F j:Nat):(yB b l F j).length<=j:=by
 have h:=List.length_filterMap_le (yS b l F) (List.range j);rw[Nq]at h;exact h
theorem MP{b:List Nat}{l:List Tk}{F k:Nat}{x:Tk}(hF:F<=k)(hx:l[k]?=some x):yS b l F (k-F)=if x.1=3/\(part b x.2.1 x.2.2).contains 9=true then some ⟨2,x.2.1,x.2.2⟩else none:=by
 have e1:F+(k-F)=k:=by omega
 have e2:wu l k=x.2.1:=by unfold wu;rw[hx]
 have e3:too l k=x.2.2:=by unfold too;rw[hx]
 unfold yS;rw[e1,rP hx,e2,e3]
theorem Qm(b:List Nat)(l:List Tk)(r:R)(h:r.au<=l.length):(tabs b l r).length<=l.length:=by
 rw[KF];split
 ·have h1:=EP b l r.from' (lo l r.from' r.au-r.from');by_cases hft:r.from'<=r.au
  ·have h2:=lo_le l hft;omega
  have h2:=oW (λj=>!cnt (raw l j)) (r.au-r.from') r.from';have h3:lo l r.from' r.au=p9 (λj=>!cnt (raw l j)) (r.au-r.from') r.from':=rfl;omega
 exact nO _
theorem AA(b:List Nat)(l:List Tk):∀rs:List R,(∀r∈rs,r.au<=l.length)->(rs.flatMap (tabs b l)).length<=rs.length*l.length
 |[],_=>nO _
 |r::rs,h=>by
  rw[uW,oq,nI,xR,Nt];have h1:=Qm b l r (h r (by simp));have h2:=AA b l rs (λx hx=>h x (by simp[hx]));omega
theorem uy{α:Type}{l:List α}{i:Nat}{x:α}(h:l[i]?=some x):l.take (i+1)=l.take i++[x]:=by
 have hi:=(nC.1 h).1;have he:=(nC.1 h).2;rw[Ri hi,he]
theorem MQ(b:List Nat)(f:Nat):part b f f=[]:=by unfold part;rw[DL,AU]
theorem MR{b:List Nat}{f j c:Nat}(hf:f<=j)(hc:b[j]?=some c):part b f (j+1)=part b f j++[c]:=by
 unfold part;rw[show j+1-f=(j-f)+1 by omega];refine uy (l:=b.drop f) ?_;rw[xP,show f+(j-f)=j by omega];exact hc
theorem Qn{b:List Nat}{f j c:Nat}(hf:f<=j)(hc:b[j]?=some c):(part b f (j+1)).contains 9=((part b f j).contains 9||(c==9)):=by
 rw[MR hf hc,zS];rw[Q6,rQ,za,Nj,Q6,Lr];constructor
 ·rintro(h|h)
  ·exact .inl h
  exact .inr h.symm
 rintro(h|h)
 ·exact .inl h
 exact .inr h.symm
theorem Tn(l:List Tk){k T:Nat}{x:Tk}(h:k<T)(hx:l[k]?=some x):lo l k T=if cnt x.1=true then k else lo l (k+1) T:=by
 unfold lo;rw[rZ _ T k h,rP hx];cases cnt x.1<;>rfl
theorem Tp(l:List Tk){k T:Nat}(h:T<=k):lo l k T=k:=by
 unfold lo;rw[tL _ T k h]
end Ps
section
open Go.RowKit
open Sq
open Ar
open Fl (Tk)
theorem Tq(s:ByteArray)(j:Nat)(h:j<s.size):(Sc.ng s)[j]?=some (s.get! j).toNat:=by
 unfold Sc.ng;rw[r9];have h1:s.data.toList[j]?=some s.data[j]:=by rw[Ul];exact Array.getElem?_eq_getElem h
 rw[h1,Lp];congr 1;show _=(s.data[j]!).toNat;rw[getElem!_pos s.data j h]
end
section
open Go.RowKit
open Sg
theorem A7{p:Int×Nat}{x k:Int}(h:p.1=x/\(p.2:Int)=k):Ending.returned (.tuple #[.int .i32 x,.int .i64 k])=.returned (.tuple #[.int .i32 p.1,.int .i64 p.2]):=by rw[h.1,h.2]
theorem WS(b off len cap:Nat)(v0:Int)(b1:Nat)(w:World)(hl:len<=9223372036854775807)(h0:0<=v0)(h1:v0<32)(l1:b1<256)
 (hc1:1<len->w.cell? ⟨b,off+1,none⟩=some (.int .u8 b1)):
 Calls prog 73 #[.slice (some ⟨b,off,none⟩) len cap,.int .i64 2,.int .i32 v0,.int .i32 128] w λe w'=>e=.returned (.tuple #[.int .i32 (D8 len v0.toNat b1).1,.int .i64 (D8 len v0.toNat b1).2])/\w=w':=by
 obtain⟨v,rfl⟩:=K9 h0;rw[oN];by_cases hn:len<2
 ·go_enter func73,ntmps73
  go_wp2;go_ret2;refine⟨?_,rfl⟩;exact A7 (by unfold D8;(repeat' split);all_goals first|exact⟨rfl,rfl⟩|(exfalso;omega))
 have g1:=hc1 (by omega);clear hc1;have hlt:(1:Int)<(len:Int):=by omega
 by_cases k1:b1<128\/191<b1
 ·go_enter func73,ntmps73
  go_wp2;refine wo 2 ?_;rw[qC];go_wp2;all_goals
   go_ret2;refine⟨?_,rfl⟩;exact A7 (by unfold D8;(repeat' split);all_goals first|exact⟨rfl,rfl⟩|(exfalso;omega))
 obtain⟨aa,ae⟩:128<=b1/\b1<=191:=by omega
 clear k1
 go_enter func73,ntmps73
 go_wp2;refine wo 2 ?_;rw[qC];go_wp2;rw[qC];go_wp2;all_goals
  go_ret2;refine⟨?_,rfl⟩;exact A7 (by unfold D8;(repeat' split);all_goals first|exact⟨rfl,rfl⟩|(exfalso;omega)|(refine⟨?_,rfl⟩;dsimp only;omega))
theorem WT(b off len cap:Nat)(v0:Int)(b1 b2:Nat)(w:World)(hl:len<=9223372036854775807)(h0:0<=v0)(h1:v0<16)(l1:b1<256)(l2:b2<256)
 (hc1:1<len->w.cell? ⟨b,off+1,none⟩=some (.int .u8 b1))
 (hc2:2<len->w.cell? ⟨b,off+2,none⟩=some (.int .u8 b2)):
 Calls prog 73 #[.slice (some ⟨b,off,none⟩) len cap,.int .i64 3,.int .i32 v0,.int .i32 2048] w λe w'=>e=.returned (.tuple #[.int .i32 (Dn len v0.toNat b1 b2).1,.int .i64 (Dn len v0.toNat b1 b2).2])/\w=w':=by
 obtain⟨v,rfl⟩:=K9 h0;rw[oN];by_cases hn:len<3
 ·go_enter func73,ntmps73
  go_wp2;go_ret2;refine⟨?_,rfl⟩;exact A7 (by unfold Dn;(repeat' split);all_goals first|exact⟨rfl,rfl⟩|(exfalso;omega))
 have g1:=hc1 (by omega);have g2:=hc2 (by omega);clear hc1 hc2;have hlt:(2:Int)<(len:Int):=by omega
 by_cases k1:b1<128\/191<b1
 ·go_enter func73,ntmps73
  go_wp2;refine wo 3 ?_;rw[qC];go_wp2;all_goals
   go_ret2;refine⟨?_,rfl⟩;exact A7 (by unfold Dn;(repeat' split);all_goals first|exact⟨rfl,rfl⟩|(exfalso;omega))
 obtain⟨aa,ae⟩:128<=b1/\b1<=191:=by omega
 clear k1;by_cases k2:b2<128\/191<b2
 ·go_enter func73,ntmps73
  go_wp2;refine wo 3 ?_;rw[qC];go_wp2;rw[qC];go_wp2;all_goals
   go_ret2;refine⟨?_,rfl⟩;exact A7 (by unfold Dn;(repeat' split);all_goals first|exact⟨rfl,rfl⟩|(exfalso;omega))
 obtain⟨af,ag⟩:128<=b2/\b2<=191:=by omega
 clear k2
 go_enter func73,ntmps73
 go_wp2;refine wo 3 ?_;rw[qC];go_wp2;rw[qC];go_wp2;rw[qC];go_wp2;all_goals
  go_ret2;refine⟨?_,rfl⟩;exact A7 (by unfold Dn;(repeat' split);all_goals first|exact⟨rfl,rfl⟩|(exfalso;omega)|(refine⟨?_,rfl⟩;dsimp only;omega))
theorem WU(b off len cap:Nat)(v0:Int)(b1 b2 b3:Nat)(w:World)(hl:len<=9223372036854775807)(h0:0<=v0)(h1:v0<8)(l1:b1<256)(l2:b2<256)(l3:b3<256)
 (hc1:1<len->w.cell? ⟨b,off+1,none⟩=some (.int .u8 b1))
 (hc2:2<len->w.cell? ⟨b,off+2,none⟩=some (.int .u8 b2))
 (hc3:3<len->w.cell? ⟨b,off+3,none⟩=some (.int .u8 b3)):
 Calls prog 73 #[.slice (some ⟨b,off,none⟩) len cap,.int .i64 4,.int .i32 v0,.int .i32 65536] w λe w'=>e=.returned (.tuple #[.int .i32 (Bj len v0.toNat b1 b2 b3).1,.int .i64 (Bj len v0.toNat b1 b2 b3).2])/\w=w':=by
 obtain⟨v,rfl⟩:=K9 h0;rw[oN];by_cases hn:len<4
 ·go_enter func73,ntmps73
  go_wp2;go_ret2;refine⟨?_,rfl⟩;exact A7 (by unfold Bj;(repeat' split);all_goals first|exact⟨rfl,rfl⟩|(exfalso;omega))
 have g1:=hc1 (by omega);have g2:=hc2 (by omega);have g3:=hc3 (by omega);clear hc1 hc2 hc3;have hlt:(3:Int)<(len:Int):=by omega
 by_cases k1:b1<128\/191<b1
 ·go_enter func73,ntmps73
  go_wp2;refine wo 4 ?_;rw[qC];go_wp2;all_goals
   go_ret2;refine⟨?_,rfl⟩;exact A7 (by unfold Bj;(repeat' split);all_goals first|exact⟨rfl,rfl⟩|(exfalso;omega))
 obtain⟨aa,ae⟩:128<=b1/\b1<=191:=by omega
 clear k1;by_cases k2:b2<128\/191<b2
 ·go_enter func73,ntmps73
  go_wp2;refine wo 4 ?_;rw[qC];go_wp2;rw[qC];go_wp2;all_goals
   go_ret2;refine⟨?_,rfl⟩;exact A7 (by unfold Bj;(repeat' split);all_goals first|exact⟨rfl,rfl⟩|(exfalso;omega))
 obtain⟨af,ag⟩:128<=b2/\b2<=191:=by omega
 clear k2;by_cases k3:b3<128\/191<b3
 ·go_enter func73,ntmps73
  go_wp2;refine wo 4 ?_;rw[qC];go_wp2;rw[qC];go_wp2;rw[qC];go_wp2;all_goals
   go_ret2;refine⟨?_,rfl⟩;exact A7 (by unfold Bj;(repeat' split);all_goals first|exact⟨rfl,rfl⟩|(exfalso;omega))
 obtain⟨ah,ai⟩:128<=b3/\b3<=191:=by omega
 clear k3
 go_enter func73,ntmps73
 go_wp2;refine wo 4 ?_;rw[qC];go_wp2;rw[qC];go_wp2;rw[qC];go_wp2;rw[qC];go_wp2;all_goals
  go_ret2;refine⟨?_,rfl⟩;exact A7 (by unfold Bj;(repeat' split);all_goals first|exact⟨rfl,rfl⟩|(exfalso;omega)|(refine⟨?_,rfl⟩;dsimp only;omega))
end
section
open Go.RowKit
open Sg
theorem H9(n b off cap x0 x1 x2 x3:Nat)(w:World)(hm:n<=9223372036854775807)(l0:x0<256)(l1:x1<256)(l2:x2<256)(l3:x3<256)
 (h0:0<n->w.cell? ⟨b,off,none⟩=some (.int .u8 x0)) (h1:1<n->w.cell? ⟨b,off+1,none⟩=some (.int .u8 x1)) (h2:2<n->w.cell? ⟨b,off+2,none⟩=some (.int .u8 x2)) (h3:3<n->w.cell? ⟨b,off+3,none⟩=some (.int .u8 x3)):
 Calls prog 58 #[.slice (some ⟨b,off,none⟩) n cap] w λe w'=>e=.returned (.tuple #[.int .i32 (xm n x0 x1 x2 x3).1,.int .i64 (xm n x0 x1 x2 x3).2])/\w=w':=by
 by_cases hz:n=0
 ·subst hz;clear h0 h1 h2 h3;rw[JR]
  go_enter func58,ntmps58
  go_wp2;go_ret2;exact⟨rfl,rfl⟩
 have hlt:(0:Int)<(n:Int):=by omega
 have hne:((n:Int)==0)=false:=by simp;omega
 have g0:=h0 (by omega);clear h0;have t2:=zZ n x0 x1 x2 x3 (by omega);have t3:=vM n x0 x1 x2 x3 (by omega);have t4:=xW n x0 x1 x2 x3 (by omega);by_cases c1:x0<128
 ·rw[xE n x0 x1 x2 x3 (by omega) c1];clear h1 h2 h3 t2 t3 t4
  go_enter func58,ntmps58
  go_wp2;go_ret2;exact⟨rfl,rfl⟩
 by_cases c2:x0<192
 ·rw[vv n x0 x1 x2 x3 (by omega) (by omega) (by omega)];clear h1 h2 h3 t2 t3 t4
  go_enter func58,ntmps58
  go_wp2;go_ret2;exact⟨rfl,rfl⟩
 by_cases c3:x0<224
 ·rw[t2 (by omega) c3 l1];clear t2 t3 t4
  go_enter func58,ntmps58
  go_wp2_with fail
  refine(WS b off n cap ((x0:Int)%32) x1 w hm (by omega) (by omega) l1 h1).mono ?_;rintro e w' ⟨rfl,rfl⟩;go_wp2;go_ret2;rw[show((x0:Int)%32).toNat=x0%32 from by omega];exact⟨rfl,rfl⟩
 by_cases c4:x0<240
 ·rw[t3 (by omega) c4 l1 l2];clear t2 t3 t4
  go_enter func58,ntmps58
  go_wp2_with fail
  refine(WT b off n cap ((x0:Int)%16) x1 x2 w hm (by omega) (by omega) l1 l2 h1 h2).mono ?_;rintro e w' ⟨rfl,rfl⟩;go_wp2;go_ret2;rw[show((x0:Int)%16).toNat=x0%16 from by omega];exact⟨rfl,rfl⟩
 by_cases c5:x0<248
 ·rw[t4 (by omega) c5 l1 l2 l3];clear t2 t3 t4
  go_enter func58,ntmps58
  go_wp2_with fail
  refine(WU b off n cap ((x0:Int)%8) x1 x2 x3 w hm (by omega) (by omega) l1 l2 l3 h1 h2 h3).mono ?_;rintro e w' ⟨rfl,rfl⟩;go_wp2;go_ret2;rw[show((x0:Int)%8).toNat=x0%8 from by omega];exact⟨rfl,rfl⟩
 rw[vv n x0 x1 x2 x3 (by omega) (by omega) (by omega)];clear h1 h2 h3 t2 t3 t4
 go_enter func58,ntmps58
 go_wp2;go_ret2;exact⟨rfl,rfl⟩
theorem Tt(s:ByteArray)(n b off cap:Nat)(w:World)(hn:s.size=n)(hm:n<=9223372036854775807)(hp:∀j,j<n->w.cell? ⟨b,off+j,none⟩=some (.int .u8 (s.get! j).toNat)):
 Calls prog 58 #[.slice (some ⟨b,off,none⟩) n cap] w λe w'=>e=.returned (.tuple #[.int .i32 (nx s 0).1,.int .i64 (nx s 0).2])/\w=w':=by
 have h:=H9 n b off cap (s.get! 0).toNat (s.get! 1).toNat (s.get! 2).toNat (s.get! 3).toNat w hm (s.get! 0).toNat_lt (s.get! 1).toNat_lt (s.get! 2).toNat_lt (s.get! 3).toNat_lt (hp 0) (hp 1) (hp 2) (hp 3)
 simpa only[nx,hn,Nat.sub_zero,qz]using h
end
section
open Go.RowKit
open Sg
theorem MS(s:ByteArray)(b off cap:Nat)(w:World)(hm:s.size<=1000000)(hcap:s.size<=cap)(hcm:cap<=maxLen)(hp:∀j,j<s.size->w.cell? ⟨b,off+j,none⟩=some (.int .u8 (s.get! j).toNat)):
 Calls prog 46 #[.slice (some ⟨b,off,none⟩) s.size cap] w λe w'=>∃v,e=.returned v/\w'.ownsRow w.heap.size 3 1 v (bad s).length (places (bad s))/\Below w.heap.size w w':=by
 obtain⟨i0,hi,hz0,hz1,hz2⟩:=Fa J8;have hm2:s.size<=9223372036854775807:=by omega
 simp only[maxLen]at hcm
 go_enter func46,ntmps46
 go_wp2
 go_loopg [3,4] s.size (λgf v at' wr=>∃(pos:Nat)(acc:List Nat),at'=.int .i64 pos/\wr.ownsRow w.heap.size 3 1 v acc.length (places acc)/\Below w.heap.size w wr/\acc++tX s gf pos=bad s/\s.size<=pos+gf/\acc.length<=pos/\pos<=s.size)
 case atStart=>exact⟨0,[],rfl,Iw _ _ _ _,mF _ w,by simp[bad],by omega,mJ _,nO _⟩
 case round=>
  obtain⟨pos,acc,rfl,hown,hb,hc,hf,ha,hps⟩:=hrel;by_cases hlt:pos<s.size
  ·obtain⟨g',rfl⟩:∃g',gk=g'+1:=⟨gk-1,by omega⟩
   have hwd:=IC s pos hlt;have hwn:=T7 s pos hlt;have hlo:=WA s pos;rw[LA s g' pos hlt]at hc;have ae:nx (s.extract pos s.size) 0=nx s pos:=by rw[RO,xh]
   obtain⟨K,hK⟩:=my ((nx s pos).2);obtain⟨X,hX⟩:=my ((nx s pos).1);rw[hX]at hlo hc;rw[hK]at hwd hwn hc
   have hN:=Tt (s.extract pos s.size) (s.size-pos) b (off+pos) (cap-pos) wr (Lib.tail_size s pos) (by omega) (λj hj=>by
    have hc0:=hp (pos+j) (by omega);have hblt:b<w.heap.size:=lt_of_cell hc0
    rw[Lib.tail_get!,hb.cell (p:=⟨b,off+pos+j,none⟩) hblt,<-hc0,DJ])
   rw[ae,hK,hX]at hN;obtain⟨HN,HC⟩:=mR hN hc;have hpi:(pos:Int)<=(cap:Int):=by omega
   have hpi2:(pos:Int)<(s.size:Int):=by omega
   clear hK hX hc hN ae hp;by_cases hx:X<0
   ·go_wp2_with fail
    refine HN.out.mono ?_;rintro e W1 ⟨rfl,rfl⟩;go_wp2_with (at_builtin;go_must (refine Rm _ rfl (.tmp 20) (.tmp 22) 22 rfl w.heap.size 3 i0 (.int .i64 0) 1 8 underlying22 hi hz0 hz1 hz2 rfl (by decide) _ _ _ rfl (hown.alloc _) ⟨wr.heap.size,0,none⟩ 1 1 [.int .i64 (pos:Int)] rfl rfl (cell_one_new _ _ _) (by intro u hu;simp at hu;subst hu;rfl) (by unfold maxLen;omega) (by omega) (by have:=hb.size;simp;omega) ?_;intro v3 w3 aa hgrow hnil))
    go_roundg g'
    case measure=>omega
    case rel=>
     have hX:=hown.alloc (.cells #[.int .i64 (pos:Int)] 3);have hc:=HC.out;rw[gu hx,<-sF]at hc;refine⟨pos+K,acc++[pos],by go_num,?_,?_,hc,by omega,by simp;omega,hwn⟩
     ·rw[oq,Bb];exact aa
     exact(hb.alloc hb.size _).grown hgrow (by have:=hb.size;simp;omega) (λj hj=>(hX.lt j hj).1)
   go_wp2_with fail
   refine HN.out.mono ?_;rintro e W1 ⟨rfl,rfl⟩;go_wp2
   go_roundg g'
   case measure=>omega
   case rel=>
    have hc:=HC.out;rw[fu (by omega)]at hc;exact⟨pos+K,acc,by go_num,hown,hb,hc,by omega,by omega,hwn⟩
  have hge:¬((pos:Int)<(s.size:Int)):=by omega
  rw[Gp s gk pos hlt,rD]at hc;subst hc;go_wp2;go_ret;exact⟨_,rfl,hown,hb⟩
theorem Jt(w:World):
 Calls prog 46 #[.slice none 0 0] w λe w'=>∃v,e=.returned v/\w'.ownsRow w.heap.size 3 1 v 0 []/\Below w.heap.size w w':=by
 go_enter func46,ntmps46
 go_wp2;refine wo 1 ?_;rw[qC];go_wp2;go_ret;exact⟨_,rfl,Iw _ _ _ _,mF _ w⟩
theorem Vr(s:ByteArray)(v:Value)(w:World)(h:uG w v s)(hm:s.size<=1000000):
 Calls prog 46 #[v] w λe w'=>∃v,e=.returned v/\w'.ownsRow w.heap.size 3 1 v (bad s).length (places (bad s))/\Below w.heap.size w w':=by
 rcases h with⟨rfl,h⟩|⟨b,off,cap,rfl,h2,h3,h4⟩
 ·have e:bad s=[]:=Gp s _ _ (by omega);rw[e];exact Jt w
 exact MS s b off cap w hm h2 h3 h4
end
namespace Ps
open Ar Fl
open Rw (R E)
theorem xF(f:Op->Bool):∀(st:List Op),(st.dropWhile f).length<=st.length
 |[]=>mJ _
 |o::r=>by
  rw[Dy];split
  ·exact qy (xF f r) (F6 _)
  exact mJ _
theorem NW(l:List Tk)(s:St)(node:Int)(e:E):(cur l s node e).1.d=s.d:=by
 unfold cur;split
 ·rfl
 unfold pair;dsimp only;split<;>rfl
theorem FL(l:List Tk)(depth:Nat)(p:PS)(up:Int)(root:Bool)(st:List Op)(e:E):(fresh l depth p up root st e).2.s.d=p.s.d:=by
 unfold fresh;split
 ·rfl
 dsimp only;rw[NW];rfl
theorem CU(l:List Tk)(depth:Nat)(p:PS)(up:Int)(root:Bool)(st:List Op)(e:E)(h:p.st.length<=depth):(fresh l depth p up root st e).2.st.length<=depth:=by
 unfold fresh;split
 ·exact h
 dsimp only;rw[nI];omega
theorem GY(l:List Tk)(depth:Nat)(p:PS)(en:E):(place l depth p en)=(match p.st.dropWhile (λo=>decide (en.mE<o.mE))with
 |[]=>if p.root=true then(7,p)else fresh l depth p p.doc true [] en
 |o::r=>
  if o.mE=en.mE then
   if o.kind=kindOf en then again l p o r en
   else if kindOf en=3 then(if o.has=true then(5,p)else fresh l depth p o.cur p.root ({o with has:=true}::r) en)
   else match r with
    |o2::r2=>if o2.mE=en.mE/\o2.kind=5 then again l p o2 r2 en else(5,p)
    |[]=>(5,p)
  else if o.has=true then(6,p)else fresh l depth p o.cur p.root ({o with has:=true}::r) en):=rfl
theorem KG(l:List Tk)(depth:Nat)(p:PS)(en:E):(place l depth p en).2.s.d=p.s.d:=by
 rw[GY];split
 ·split
  ·rfl
  exact FL ..
 split
 ·split
  ·exact NW ..
  split
  ·split
   ·rfl
   exact FL ..
  split
  ·split
   ·exact NW ..
   rfl
  rfl
 split
 ·rfl
 exact FL ..
theorem GZ(l:List Tk)(depth:Nat)(p:PS)(en:E)(h:p.st.length<=depth):(place l depth p en).2.st.length<=depth:=by
 have hd:=xF (λo=>decide (en.mE<o.mE)) p.st;rw[GY];split
 ·split
  ·exact h
  exact CU _ _ _ _ _ _ _ h
 rename_i o r hdw;rw[hdw,nI]at hd;split
 ·split
  ·show(_::r).length<=_;rw[nI];omega
  split
  ·split
   ·exact h
   exact CU _ _ _ _ _ _ _ h
  split
  ·rename_i o2 r2;rw[nI]at hd;split
   ·show(_::r2).length<=_;rw[nI];omega
   exact h
  exact h
 split
 ·exact h
 exact CU _ _ _ _ _ _ _ h
theorem ER(l:List Tk)(depth b:Nat):∀(es:List E)(p:PS)(up:Int),p.st.length<=depth->(places l depth b p up es).2.st.length<=depth
 |[],_,_,h=>h
 |en::es,p,up,h=>by
  rw[places];split
  ·exact ER l depth b es _ _ (GZ l depth p en h)
  exact h
theorem G4(l:List Tk)(depth b:Nat):∀(es:List E)(p:PS)(up:Int),(places l depth b p up es).2.s.d.length<=p.s.d.length+1
 |[],_,_=>F6 _
 |en::es,p,up=>by
  rw[places];split
  ·have:=G4 l depth b es (place l depth p en).2 (Fj (place l depth p en).2.st);rw[KG]at this;exact this
  show(p.s.d++_).length<=_;rw[oq];exact mJ _
theorem KH(l:List Tk)(s:St)(up:Int)(a b code:Nat):(qf l s up a b code).d.length<=s.d.length+1:=by
 unfold qf;split
 ·show(s.d++_).length<=_;rw[oq];exact mJ _
 exact F6 _
theorem BF{l:List Tk}{B:Bs}{k e i depth:Nat}{p:PS}(h:OK l B k e p.s)(aa:e<=i)(hi:i<l.length):
 (value l (Rw.mQ l) depth p k i).1.s.d.length<=p.s.d.length+l.length+1:=by
 have hlim:i<=limit l i/\limit l i<=l.length:=by
  have h1:=rX (λj=>raw l j !=20&&raw l j !=21) (l.length-i) i;have h2:=oW (λj=>raw l j !=20&&raw l j !=21) (l.length-i) i;unfold limit;omega
 have hv:=Fe.xY l (limit l i) l.length (by omega) (depth-p.st.length) k i p.s e h.ck (h.fits.le (by omega) (pW _)) h.lf h.no (by omega) hlim.1;unfold value rest;dsimp only;refine qy (KH ..) ?_;rcases hv with⟨v1,_⟩|⟨next,s',v1,v2,v3,_,_,_,v7⟩
 ·rw[v1];dsimp only;omega
 rw[v1];dsimp only;omega
theorem NY(l:List Tk)(s:St)(up:Int)(f t code:Nat):(err l s up f t code).d.length=s.d.length+1:=by
 show(s.d++_).length=_;rw[oq];rfl
theorem zx(p:PS)(i:Nat):(nH p i).s.d=p.s.d:=by
 unfold nH;split<;>rfl
theorem xK(p:PS)(i depth:Nat)(h:p.st.length<=depth):(nH p i).st.length<=depth:=by
 unfold nH;split
 ·exact nO _
 exact h
theorem bare_eq(l:List Tk)(rs:List R)(depth:Nat)(p:PS)(r:R)(a b:Nat):bare l rs depth p r a b=(match p.st.dropWhile (λo=>decide (r.mE<=o.mE))with
 |[]=>if p.root=true then{p with s:=err l p.s (holder p) a b 7}
  else
   let v:=value l rs depth {p with st:=[]} p.doc a
   {v.1 with root:=v.2}
 |o::q=>if o.has=true then{p with s:=err l p.s (holder p) a b 7}
  else
   let v:=value l rs depth {p with st:=o::q} o.cur a
   {v.1 with st:={o with has:=v.2}::q}):=rfl
theorem Tu(l:List Tk)(rs:List R)(depth:Nat)(p:PS)(r:R)(a b:Nat)(h:p.st.length<=depth):(bare l rs depth p r a b).st.length<=depth:=by
 have hd:=xF (λo=>decide (r.mE<=o.mE)) p.st;rw[bare_eq];split
 ·split
  ·exact h
  exact nO _
 rename_i o q hdw;rw[hdw,nI]at hd;split
 ·exact h
 show(_::q).length<=_;rw[nI];omega
theorem Vs{l:List Tk}{B:Bs}{a b depth:Nat}{p:PS}{r:R}(h:zh l B a p)(ha:a<l.length):(bare l (Rw.mQ l) depth p r a b).s.d.length<=p.s.d.length+l.length+1:=by
 obtain⟨d,hd,hc,hh⟩:=h;obtain⟨hc',hh'⟩:=qN.drop (λo=>decide (r.mE<=o.mE)) hc hh;rw[bare_eq];cases hdw:p.st.dropWhile (λo=>decide (r.mE<=o.mE))with
 |nil=>
  rw[hdw]at hh';dsimp only;split
  ·show(err _ _ _ _ _ _).d.length<=_;rw[NY];omega
  obtain⟨m,e1,e2⟩:=hh';rw[hd,e1];exact BF (p:={p with st:=[]}) e2 (mJ _) ha
 |cons o q=>
  rw[hdw]at hh';dsimp only;split
  ·show(err _ _ _ _ _ _).d.length<=_;rw[NY];omega
  rename_i ho;obtain⟨m,e1,e2⟩:=hh'.2 (by simpa using ho);rw[e1];exact BF (p:={p with st:=o::q}) e2 (mJ _) ha
theorem Tv(l:List Tk)(rs:List R)(depth:Nat)(p:PS)(r:R):(mark l rs depth p r).st.length<=depth:=by
 unfold mark;dsimp only;split
 ·split
  ·exact nO _
  exact nO _
 exact nO _
theorem Vt{l:List Tk}{B:Bs}{e depth:Nat}{p:PS}{r:R}(h:Inv l B e p)(hr:tH l r)(h4:r.kind=4)(he:e<=r.from'):(mark l (Rw.mQ l) depth p r).s.d.length<=p.s.d.length+l.length+1:=by
 have hle:=hr.le;obtain⟨m1,m2⟩:=hr.mark h4;have hge:=qD l r.from' r.au;unfold mark;dsimp only;obtain⟨a,ha⟩:=my (lo l r.from' r.au);rw[ha]at m1 m2 hge⊢;by_cases h20:raw l a=20
 ·rw[gu h20];obtain⟨s',a1,_,a3,_,a6⟩:=Fe.pQ (kind:=2) (f:=a) (t:=a+1) h.root (by omega) (by omega) (by omega) (by omega) (by omega);have a1:add p.s 0 2 a (a+1)=(s',(p.s.t.length:Int)):=a1;have hsd:s'.d=p.s.d:=by
   have:(add p.s 0 2 a (a+1)).1.d=p.s.d:=rfl;rw[a1]at this;exact this
  rw[a1];dsimp only;have a3':OK l B p.s.t.length (a+1) s':=a3.le (by omega) (by omega);have hb:=nD l r.au (lo l (a+1) r.au);have aa:=qD l (a+1) r.au;split
  ·rename_i hx;have:=BF (depth:=depth) (p:={p with s:=s',doc:=(p.s.t.length:Int),root:=false,st:=[]}) (i:=lo l (a+1) r.au) a3' aa (by omega);dsimp only at this⊢;rw[hsd]at this;exact this
  rw[hsd];omega
 rw[fu h20];dsimp only;refine qy (KH ..) ?_;split
 ·dsimp only;omega
 omega
theorem Tw(l:List Tk)(rs:List R)(depth:Nat)(p:PS)(r:R)(h:p.st.length<=depth):(body l rs depth p r).st.length<=depth:=by
 unfold body;dsimp only;have h1:=xK p (lo l r.from' r.au) depth h;split
 ·exact Tu _ _ _ _ _ _ _ h1
 have h2:=ER l depth (back l r.au (lo l r.from' r.au)) (Rw.su l r).1 _ (holder (nH p (lo l r.from' r.au))) h1;split
 ·split
  ·split
   ·rename_i t k hst;rw[hst,nI]at h2;show(_::k).length<=_;rw[nI];omega
   exact h2
  exact h2
 exact h2
theorem Vu{l:List Tk}{B:Bs}{e depth:Nat}{p:PS}{r:R}(ht:Rw.pI 0 l)(h:Inv l B e p)(hr:tH l r)(h5:r.kind=5)(hB:B.1<=r.from')(he:e<=r.from'):
 (body l (Rw.mQ l) depth p r).s.d.length<=p.s.d.length+l.length+2:=by
 have hlt:=hr.lt;have hle:=hr.le;have hlo:=hr.body h5;have hge:=qD l r.from' r.au;have hcn:=Ce l hlo;obtain⟨n1,n2,n3,n4⟩:=zq ht hr h5;unfold body;dsimp only;obtain⟨a,ha⟩:=my (lo l r.from' r.au);rw[ha]at hlo hge hcn n1 n3⊢;obtain⟨b,hb⟩:=my (back l r.au a);have hbl:=nD l r.au a;have hbg:=wK l r.au a a (mJ _) hlo hcn;rw[hb]at n1 hbl hbg⊢;obtain⟨o1,o2⟩:=uO h (i:=a) (by omega) (by omega);have hd1:=zx p a;obtain⟨p1,hp1⟩:=my (nH p a);rw[hp1]at o1 o2 hd1⊢;obtain⟨es,hes⟩:=my (Rw.su l r);rw[hes]at n1 n2 n3 n4⊢;split
 ·have:=Vs (r:=r) (b:=b) (depth:=depth) o1 (by omega);rw[hd1]at this;omega
 rename_i hne;have aa:=G4 l depth b es.1 p1 (holder p1);obtain⟨e',k1,k2,k3,k4,k5⟩:=yu (depth:=depth) (b:=b) (by omega) es.1 a p1 (holder p1) o1 (by omega) rfl n1 (by omega);obtain⟨q,hq⟩:=my (places l depth b p1 (holder p1) es.1);rw[hq]at k3 k4 k5 aa⊢;rw[hd1]at aa;split
 ·rename_i hall;split
  ·rename_i hx;obtain⟨_,m1,m2⟩:=k5 hall;obtain⟨t,k,m3,m4⟩:=m2 hne;have hlast:∃z,es.1.getLast?=some z:=by
    cases hz:es.1.getLast? with
    |none=>rw[Rc]at hz;exact absurd hz hne
    |some z=>exact⟨z,rfl⟩
   obtain⟨z,hz⟩:=hlast;have hrest:es.2=e':=by rw[n2 z hz,m1 z hz]
   have hxg:=qD l es.2 r.au;have hxb:=nD l r.au (lo l es.2 r.au);obtain⟨d,d1,d2,d3⟩:=k3;rw[m3]at d3⊢;dsimp only;obtain⟨m,e1,e2⟩:=d3.2 m4;rw[e1];have:=BF (depth:=depth) (p:=q.2) (i:=lo l es.2 r.au) e2 (by omega) (by omega);omega
  omega
 omega
theorem Vv(l:List Tk)(rs:List R)(depth:Nat)(p:PS)(r:R)(h:p.st.length<=depth):(row l rs depth p r).st.length<=depth:=by
 unfold row;dsimp only;split
 ·exact Tv ..
 split
 ·exact Tw _ _ _ _ _ h
 split
 ·split
  ·exact xK {p with read:=r.au} _ depth h
  exact h
 exact h
theorem WV{l:List Tk}{B:Bs}{depth:Nat}{p:PS}{r:R}(ht:Rw.pI 0 l)(h:Inv l B p.read p)(hr:tH l r)(hB:B.1<=r.from')(he:p.read<=r.from'):
 (row l (Rw.mQ l) depth p r).s.d.length<=p.s.d.length+l.length+2:=by
 have h0:Inv l B p.read {p with read:=r.au}:=h;unfold row;dsimp only;split
 ·rename_i h4;have:=Vt (depth:=depth) h0 hr h4 he;dsimp only at this;omega
 split
 ·rename_i h5;exact Vu (p:={p with read:=r.au}) ht h0 hr h5 hB he
 split
 ·split
  ·show(err _ _ _ _ _ _).d.length<=_;rw[NY,zx];dsimp only;omega
  dsimp only;omega
 dsimp only;omega
end Ps
namespace Ps
open Ar Fl
open Rw (R E)
structure BL(l:List Tk)(depth b:Nat)(B:Bs)(P1:PS)(ES:List E)(a i:Nat)(q:PS)(up:Int)(e':Nat):Prop where
 pl:places l depth b P1 (holder P1) ES=places l depth b q up (ES.drop i)
 op:zh l B e' q
 hu:up=holder q
 en:xA l b e' (ES.drop i)
 lo:a<=e'
 hi:e'<=b
 st:q.st.length<=depth
 sz:q.s.t.length<=P1.s.t.length+3*i
 dd:q.s.d=P1.s.d
 rd:q.read=P1.read
 XR:i=0->e'=a
 XO:∀z,0<i->ES[i-1]?=some z->e'=z.au
 top:0<i->∃t k,q.st=t::k/\t.has=false
theorem BL.start{l:List Tk}{depth b:Nat}{B:Bs}{P1:PS}{ES:List E}{a:Nat}(h:zh l B a P1)(hE:xA l b a ES)(hab:a<=b)(hst:P1.st.length<=depth):BL l depth b B P1 ES a 0 P1 (holder P1) a:=
 ⟨rfl,h,rfl,hE,mJ _,hab,hst,Nat.le_add_right _ _,rfl,rfl,λ_=>rfl,λ_ h=>absurd h (Lj _),λh=>absurd h (Lj _)⟩
theorem drop_cons{ES:List E}{i:Nat}{en:E}(h:ES[i]?=some en):ES.drop i=en::ES.drop (i+1):=by
 have hi:=(nC.1 h).1;have he:=(nC.1 h).2;rw[yE hi,he]
theorem BL.bounds{l:List Tk}{depth b:Nat}{B:Bs}{P1:PS}{ES:List E}{a i:Nat}{q:PS}{up:Int}{e':Nat}(h:BL l depth b B P1 ES a i q up e'){en:E}(hx:ES[i]?=some en):e'<=en.from'/\en.from'<en.au/\en.au<=b:=by
 have:=h.en;rw[drop_cons hx]at this;exact⟨this.1,this.2.1,this.2.2.1⟩
theorem BL.step{l:List Tk}{depth b:Nat}{B:Bs}{P1:PS}{ES:List E}{a i:Nat}{q:PS}{up:Int}{e':Nat}(h:BL l depth b B P1 ES a i q up e')(hB:B.1<=a)(hb:b<=l.length){en:E}(hx:ES[i]?=some en)(h0:(place l depth q en).1=0):
 ∃t k,(place l depth q en).2.st=t::k/\BL l depth b B P1 ES a (i+1) (place l depth q en).2 t.cur en.au:=by
 have h1:=h.lo;have h2:=h.hi;have he:=h.en;have hp:=h.pl;rw[drop_cons hx]at he hp;obtain⟨g1,g2,g3,g4⟩:=he;have hd:=KG l depth q en;have hl:=EF l depth q en;have hs:=GZ l depth q en h.st;rcases CJ (depth:=depth) h.op (by omega) g1 g2 (by omega)with⟨k1,k2,k3,t,k,k4,k5⟩|⟨k1,_⟩
 ·refine⟨t,k,k4,?_⟩;have hz:=h.sz;rw[places,gu k1]at hp;obtain⟨q',hq⟩:∃q',(place l depth q en).2=q':=⟨_,rfl⟩
  rw[hq]at k2 k3 k4 hd hl hs hp⊢;rw[k4]at hp;refine⟨hp,k2,?_,g4,by omega,g3,hs,by omega,hd.trans h.dd,k3.trans h.rd,λh=>absurd h (Nat.succ_ne_zero _),λz _ hz=>?_,λ_=>⟨t,k,k4,k5⟩⟩
  ·rw[sS,k4];show t.cur=if t.has=true then t.node else t.cur
   rw[fu (by rw[k5];decide)]
  rw[si,hx]at hz;injection hz with hz
  rw[hz]
 exact absurd h0 k1
theorem BL.fail{l:List Tk}{depth b:Nat}{B:Bs}{P1:PS}{ES:List E}{a i:Nat}{q:PS}{up:Int}{e':Nat}(h:BL l depth b B P1 ES a i q up e')(hB:B.1<=a)(hb:b<=l.length){en:E}(hx:ES[i]?=some en)(h0:(place l depth q en).1≠0):
 (place l depth q en).2=q/\5<=(place l depth q en).1/\(place l depth q en).1<=10/\(place l depth q en).1≠9/\places l depth b P1 (holder P1) ES=(false,{q with s:=err l q.s up en.from' b (place l depth q en).1}):=by
 have h1:=h.lo;have h2:=h.hi;have he:=h.en;have hp:=h.pl;rw[drop_cons hx]at he hp;obtain⟨g1,g2,g3,g4⟩:=he;rcases CJ (depth:=depth) h.op (by omega) g1 g2 (by omega)with⟨k1,_⟩|⟨k1,k2,k3,k4,k5⟩
 ·exact absurd k1 h0
 refine⟨k2,k3,k4,k5,?_⟩;rw[hp,places,fu h0]
theorem BL.done{l:List Tk}{depth b:Nat}{B:Bs}{P1:PS}{ES:List E}{a:Nat}{q:PS}{up:Int}{e':Nat}(h:BL l depth b B P1 ES a ES.length q up e')(hne:ES≠[]):
 places l depth b P1 (holder P1) ES=(true,q)/\(∃z,ES.getLast?=some z/\e'=z.au)/\∃t k,q.st=t::k/\t.has=false:=by
 have hl:0<ES.length:=Np.2 hne
 refine⟨?_,?_,h.top hl⟩
 ·rw[h.pl,List.drop_length];rfl
 cases hz:ES.getLast? with
 |none=>rw[Rc]at hz;exact absurd hz hne
 |some z=>
  refine⟨z,rfl,h.XO z hl ?_⟩;rw[Rb]at hz;exact hz
def KI(l:List Tk)(rs:List R)(depth aa:Nat)(q:Bool×PS)(RS:Nat):PS:=
 if q.1=true then
  if lo l RS aa<back l aa (lo l RS aa)then
   match q.2.st with
   |t::k=>{(value l rs depth q.2 t.cur (lo l RS aa)).1 with st:={t with has:=(value l rs depth q.2 t.cur (lo l RS aa)).2}::k}
   |[]=>q.2
  else q.2
  else q.2
theorem Tx(l:List Tk)(rs:List R)(depth:Nat)(p:PS)(r:R)(h:(Rw.su l r).1≠[]):
 body l rs depth p r=KI l rs depth r.au (places l depth (back l r.au (lo l r.from' r.au)) (nH p (lo l r.from' r.au)) (holder (nH p (lo l r.from' r.au))) (Rw.su l r).1) (Rw.su l r).2:=by
 unfold body;dsimp only;rw[fu h];rfl
theorem Qp(l:List Tk)(rs:List R)(depth:Nat)(p:PS)(r:R)(h:(Rw.su l r).1=[]):
 body l rs depth p r=bare l rs depth (nH p (lo l r.from' r.au)) r (lo l r.from' r.au) (back l r.au (lo l r.from' r.au)):=by
 unfold body;dsimp only;rw[gu h]
end Ps
namespace Wk
open Ar
def zX(x:Nd)(k:Int):Bool:=decide (x.f<=k)&&decide (k<x.t)
def qM(l:List Nd)(k:Int):Nat->Int
 |0=>-1
 |j+1=>match l[j]? with
  |some x=>if zX x k=true then(j:Int)else qM l k j
  |none=>qM l k j
theorem ET{l:List Nd}{k:Int}{j:Nat}{x:Nd}(h:l[j]?=some x):qM l k (j+1)=if zX x k=true then(j:Int)else qM l k j:=by
 rw[qM,h]
end Wk
section
open Go.RowKit
open Sq
open Ar
theorem Ad(a:Option Addr)(n cap:Nat)(w:World):Calls prog 11 #[.agg #[.slice a n cap]] w λe w'=>e=.returned (.agg #[.slice a n cap])/\Below w.heap.size w w':=by
 have hb:=uj (mr w (.cells #[.slice a n cap] 28)) (.cells #[.slice a n cap] 34);have HB:=eu hb;clear hb
 go_enter func11,ntmps11
 go_wp2_with fail
 refine yJ (v:=.agg #[.slice a n cap]) ?_ rfl ⟨rfl,HB.out⟩;simp[results,results11,go_sem]
end
end Go.Proofs.Ytfbiffdmhcjhbaa

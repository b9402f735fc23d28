import Derived.Test.YtfbiffdmhcjhbaaGreatZa16
import Derived.Test.YtfbiffdmhcjhbaaGreatZa18
import Derived.Laws.CopyOwn
import Derived.Laws.StructEq
set_option linter.all false
set_option maxHeartbeats 16000000
set_option maxRecDepth 100000
set_option synthInstance.maxSize 4000
set_option synthInstance.maxHeartbeats 0
namespace Go.Proofs.YtfbiffdmhcjhbaaGreat
open Go.RowKit Tryz
namespace Ps
open Ar Fl
theorem qL(a b:Dg):less a b=true↔a.f<b.f\/(a.f=b.f/\(a.t<b.t\/(a.t=b.t/\a.code<b.code))):=by
 unfold less;split
 ·split
  ·simp;omega
  simp;omega
 simp;omega
theorem same_iff(a b:Dg):same a b=true↔a=b:=by
 unfold same;obtain⟨a1,a2,a3⟩:=a;obtain⟨b1,b2,b3⟩:=b;simp;constructor
 ·rintro⟨⟨rfl,rfl⟩,rfl⟩;exact⟨rfl,rfl,rfl⟩
 rintro⟨rfl,rfl,rfl⟩;exact⟨⟨rfl,rfl⟩,rfl⟩
theorem xJ{a b c:Dg}(h:less a b=true)(g:less b c=true):less a c=true:=by
 rw[qL]at*;omega
theorem Bv(a:Dg):less a a=false:=by
 rw[Al];intro h;rw[qL]at h;omega
theorem GQ{a b:Dg}(h:less a b=true):less b a=false:=by
 rw[Al];intro g;rw[qL]at*;omega
theorem Ks{a b:Dg}(h:less a b=false)(g:a≠b):less b a=true:=by
 rw[Al,ne_eq,qL]at h;rw[qL];obtain⟨a1,a2,a3⟩:=a;obtain⟨b1,b2,b3⟩:=b;dsimp only at*;by_cases e:a2=b2/\a3=b3/\a1=b1
 ·obtain⟨rfl,rfl,rfl⟩:=e;exact absurd rfl g
 omega
def Cs(l:List Dg):Prop:=l.Pairwise (λa b=>less a b=true)
theorem zV(x y:Dg):∀l:List Dg,y∈lK x l↔y=x\/y∈l
 |[]=>by simp[lK]
 |z::r=>by
  rw[lK];split
  ·simp
  split
  ·rename_i h;rw[same_iff]at h;subst h;simp
  rw[qV,zV x y r,qV];constructor
  ·rintro(h|h|h)
   ·exact .inr (.inl h)
   ·exact .inl h
   exact .inr (.inr h)
  rintro(h|h|h)
  ·exact .inr (.inl h)
  ·exact .inl h
  exact .inr (.inr h)
theorem EZ(x:Dg):∀l:List Dg,Cs l->Cs (lK x l)
 |[]=>λ_=>by unfold Cs lK;exact List.pairwise_singleton _ _
 |z::r=>λh=>by
  unfold Cs at h;rw[vQ]at h;rw[lK];split
  ·rename_i hl;unfold Cs;rw[vQ,vQ];refine⟨λy hy=>?_,h⟩;rcases qV.1 hy with rfl|hy
   ·exact hl
   exact xJ hl (h.1 y hy)
  rename_i hl;split
  ·unfold Cs;rw[vQ];exact h
  rename_i hs;unfold Cs;rw[vQ];refine⟨λy hy=>?_,EZ x r h.2⟩;rw[zV]at hy;rcases hy with rfl|hy
  ·exact Ks (by simpa using hl) (λe=>hs ((same_iff _ _).2 e))
  exact h.1 y hy
theorem yZ:∀(l o:List Dg),Cs o->Cs (l.foldl (λo x=>lK x o) o)/\∀y,y∈l.foldl (λo x=>lK x o) o↔y∈o\/y∈l
 |[],o=>λh=>⟨h,λy=>by simp⟩
 |x::r,o=>λh=>by
  rw[List.foldl_cons];obtain⟨h1,h2⟩:=yZ r (lK x o) (EZ x o h);refine⟨h1,λy=>?_⟩;rw[h2,zV,qV];constructor
  ·rintro((h|h)|h)
   ·exact .inr (.inl h)
   ·exact .inl h
   exact .inr (.inr h)
  rintro(h|h|h)
  ·exact .inl (.inr h)
  ·exact .inl (.inl h)
  exact .inr h
theorem Kt(l:List Dg):Cs (lF l):=(yZ l [] List.Pairwise.nil).1
end Ps
namespace Ps
open Ar Fl
open Rw (R E)
theorem Jf:∀(f p:Nat)(l:List Nat),∀x∈mH f p l,x<p+l.length
 |0,p,l=>λx hx=>by cases hx
 |f+1,p,l=>λx hx=>by
  rw[mH]at hx;by_cases hl:l=[]
  ·rw[eT hl]at hx;cases hx
  rw[eQ hl]at hx;have hpos:0<l.length:=Hz.2 hl
  have key:∀n,∀x∈mH f (p+n) (l.drop n),x<p+l.length:=by
   intro n x hx;have:=Jf f _ _ x hx;rw[iq]at this;by_cases h:n<=l.length
   ·omega
   rw[nM (by omega)]at hx;cases f with
   |zero=>cases hx
   |succ f=>rw[mH,eT rfl]at hx;cases hx
  split at hx
  ·rcases qV.1 hx with rfl|hx
   ·omega
   exact key _ x hx
  exact key _ x hx
theorem IB:∀(f p:Nat)(l:List UInt8),∀x∈(Qo.vO f p l).2.1,x<p+l.length
 |0,_,_=>λx hx=>by cases hx
 |_+1,_,[]=>λx hx=>by cases hx
 |f+1,p,c::r=>λx hx=>by
  rw[Qo.vO]at hx;by_cases q:c=34
  ·rw[eT q]at hx;cases hx
  rw[eQ q]at hx;have h1:x∈(Qo.vO f (p+1) r).2.1->x<p+(c::r).length:=by
   intro h;have:=IB f _ _ x h;rw[gy];omega
  by_cases q2:c=92
  ·rw[eT q2]at hx;cases he:Es.esc (c::r)with
   |none=>
    rw[he]at hx;dsimp only at hx;rcases qV.1 hx with rfl|hx
    ·rw[gy];omega
    exact h1 hx
   |some y=>
    obtain⟨v,k⟩:=y;rw[he]at hx;dsimp only at hx;have hk:=Qo.vI he;have:=IB f _ _ x hx;rw[iq]at this;omega
  rw[eQ q2]at hx;exact h1 hx
theorem Bw(kind:Int)(l:List UInt8):∀x∈(Qo.kU kind l).2.1,x<l.length:=by
 intro x hx;unfold Qo.kU at hx;by_cases h0:l=[]
 ·rw[eT h0]at hx;cases hx
 rw[eQ h0]at hx;have hpos:0<l.length:=Hz.2 h0
 split at hx
 ·cases hx
 split at hx
 ·cases hx
 split at hx
 ·have:=IB _ _ _ x hx;rw[iq]at this;omega
 cases hx
end Ps
section
open Go.RowKit
open Sq
open Ar
open Fl (Tk)
theorem E4(s:ByteArray):∀(f p:Nat),Sg.mH s f p=Ps.mH f p ((Sc.fP s).drop p)
 |0,p=>rfl
 |f+1,p=>by
  have hlen:(Sc.fP s).length=s.size:=by simp[Sc.fP]
  rw[Sg.mH,Ps.mH];by_cases hp:p<s.size
  ·have hne:(Sc.fP s).drop p≠[]:=λh=>by
    have:=congrArg List.length h;rw[iq,hlen]at this;simp at this;omega
   rw[eT hp,eQ hne,Sc.Pf,<-Sc.Ep,lH];rw[E4 s f (p+(Sg.nx s p).2)];by_cases hn:(Sg.nx s p).1<0
   ·rw[eT hn,eT (iO hn)]
   rw[eQ hn,eQ (by simpa using hn)]
  have hnil:(Sc.fP s).drop p=[]:=nM (by omega);rw[eQ hp,eT hnil]
theorem Jg(s:ByteArray):Sg.bad s=Ps.mH (Sc.fP s).length 0 (Sc.fP s):=by
 have hlen:(Sc.fP s).length=s.size:=by simp[Sc.fP]
 rw[hlen];exact E4 s s.size 0
theorem sK:∀bs:List Nat,places bs=encI.all (bs.map (fun(p:Nat)=>(p:Int)))
 |[]=>rfl
 |x::r=>by
  show Value.int .i64 (x:Int)::places r=Value.int .i64 (x:Int)::encI.all (r.map _);rw[sK r]
theorem Ku(s:ByteArray)(f t:Nat):(Ps.part (Sc.fP s) f t).map UInt8.ofNat=(s.extract f t).data.toList:=by
 have h1:(s.extract f t).data.toList=(s.data.toList.drop f).take (t-f):=by
  rw[Qg,Qf]
 rw[h1];unfold Ps.part Sc.fP;rw[<-List.map_drop,<-List.map_take,Ou];have e:(UInt8.ofNat∘λx:UInt8=>x.toNat)=id:=by
  funext x;simp
 first
  |rw[e,List.map_id]
  |simp[Function.comp_def]
def uT(b:ByteArray)(x:Tk):Bool×List Nat:=((Qo.kU (x.1:Nat) (b.extract x.2.1 x.2.2).data.toList).2.2,(Qo.kU (x.1:Nat) (b.extract x.2.1 x.2.2).data.toList).2.1)
def AL(x:Tk)(k:Nat):Fl.Dg:=⟨4,x.2.1+k,x.2.1+k+1⟩
theorem uP(b:ByteArray)(x:Tk):Ps.jY (Sc.fP b) x=if x.1=16\/x.1=17 then(if(uT b x).1=true then[]else[(⟨3,x.2.1,x.2.2⟩:Fl.Dg)])++(uT b x).2.map (AL x)else[]:=by
 unfold Ps.jY uT;dsimp only;rw[Ku];rfl
structure Mf(b:ByteArray)(x:Tk):Prop where
 lo:x.2.1<=x.2.2
 hi:x.2.2<=b.size
 len:(uT b x).2.length<=1000000
 le:∀k∈(uT b x).2,k<=1000000
theorem Rx(b:ByteArray)(x:Tk)(h:Mf b x):(Ps.jY (Sc.fP b) x).length<=1000001:=by
 rw[uP];have:=h.len;split
 ·rw[ig,nP];split<;>simp<;>omega
 exact gG _
theorem y5(b:ByteArray):∀l:List Tk,(∀x∈l,Mf b x)->(l.flatMap (Ps.jY (Sc.fP b))).length<=l.length*1000001
 |[],_=>gG _
 |x::l,h=>by
  rw[nN,ig,gy,qW,Ia];have h1:=Rx b x (h x (by simp));have h3:=y5 b l (λy hy=>h y (by simp[hy]));omega
theorem IC:∀(f p:Nat)(l:List UInt8),(∀x∈(Qo.vO f p l).2.1,p<=x)/\(Qo.vO f p l).2.1.Pairwise (·<·)
 |0,_,_=>⟨λx hx=>(by cases hx),.nil⟩
 |_+1,_,[]=>⟨λx hx=>(by cases hx),.nil⟩
 |f+1,p,c::r=>by
  rw[Qo.vO];by_cases q:c=34
  ·rw[eT q];exact⟨λx hx=>(by cases hx),.nil⟩
  rw[eQ q];obtain⟨h1,h2⟩:=IC f (p+1) r;by_cases q2:c=92
  ·rw[eT q2];cases he:Es.esc (c::r)with
   |none=>
    dsimp only;refine⟨λx hx=>?_,?_⟩
    ·rcases qV.1 hx with rfl|hx
     ·exact fC _
     have:=h1 x hx;omega
    rw[vQ];exact⟨λy hy=>by have:=h1 y hy;omega,h2⟩
   |some y=>
    obtain⟨v,k⟩:=y;dsimp only;obtain⟨g1,g2⟩:=IC f (p+k) ((c::r).drop k);exact⟨λx hx=>by have:=g1 x hx;omega,g2⟩
  rw[eQ q2];exact⟨λx hx=>by have:=h1 x hx;omega,h2⟩
theorem E5(kind:Int)(l:List UInt8):(Qo.kU kind l).2.1.Pairwise (·<·):=by
 unfold Qo.kU;split
 ·exact .nil
 split
 ·exact .nil
 split
 ·exact .nil
 split
 ·exact(IC _ _ _).2
 exact .nil
theorem nG{n:Nat}:∀l:List Nat,l.Pairwise (·<·)->(∀x∈l,x<n)->l.length<=n:=by
 have key:∀(l:List Nat)(p:Nat),l.Pairwise (·<·)->(∀x∈l,p<=x/\x<n)->p<=n->p+l.length<=n:=by
  intro l
  induction l with
  |nil=>intro p _ _ h;exact h
  |cons x r ih=>
   intro p h1 h2 _;rw[vQ]at h1;have hx:=h2 x (by simp);have:=ih (x+1) h1.2 (λy hy=>⟨h1.1 y hy,(h2 y (by simp[hy])).2⟩) (by omega);rw[gy];omega
 intro l h1 h2;have:=key l 0 h1 (λx hx=>⟨gG _,h2 x hx⟩) (gG _);omega
theorem Nh(b:ByteArray)(hb:b.size<=100000):∀x∈Sc.tokens (Sc.fP b),Mf b x:=λx hx=>by
 have ht:=Rw.qN (Sc.fP b);obtain⟨j,hj⟩:=rT hx;have h1:=(ht.le j x hj).2;have h2:=yJ (Sc.fP b) x hx;rw[Sc.ll]at h2;have hl:(b.extract x.2.1 x.2.2).data.toList.length<=100000:=by
  rw[Lt];show(b.extract x.2.1 x.2.2).size<=_;rw[Fu];omega
 have hbd:=Ps.Bw (x.1:Nat) (b.extract x.2.1 x.2.2).data.toList;refine⟨uX h1,h2.2,?_,λk hk=>?_⟩
 ·have:=nG (n:=100000) _ (E5 (x.1:Nat) (b.extract x.2.1 x.2.2).data.toList) (λk hk=>by have:=hbd k hk;omega);show(Qo.kU (x.1:Nat) _).2.1.length<=_;omega
 have:=hbd k hk;omega
end
namespace Ps
open Ar Fl
open Rw (R E)
def uw(p:Nat):Dg:=⟨1,p,p+1⟩
def su(b:List Nat)(l:List Tk)(F i:Nat):Option Dg:=
 if raw l (F+i)=3/\(part b (pF l (F+i)) (too l (F+i))).contains 9=true then some ⟨2,pF l (F+i),too l (F+i)⟩else none
def rR(b:List Nat)(l:List Tk)(F j:Nat):List Dg:=(List.range j).filterMap (su b l F)
theorem E6(b:List Nat)(l:List Tk)(r:R):tabs b l r=if r.kind=5 then rR b l r.from' (lo l r.from' r.au-r.from')else[]:=rfl
theorem DK(b:List Nat)(l:List Tk)(F j:Nat):rR b l F (j+1)=rR b l F j++(su b l F j).toList:=by
 unfold rR;rw[OD,List.filterMap_append,List.filterMap_cons,List.filterMap_nil];cases su b l F j<;>rfl
theorem y8(b:List Nat)(l:List Tk)(F j:Nat):(rR b l F j).length<=j:=by
 have h:=List.length_filterMap_le (su b l F) (List.range j);rw[LK]at h;exact h
theorem GR{b:List Nat}{l:List Tk}{F k:Nat}{x:Tk}(hF:F<=k)(hx:l[k]?=some x):su b l F (k-F)=if x.1=3/\(part b x.2.1 x.2.2).contains 9=true then some ⟨2,x.2.1,x.2.2⟩else none:=by
 have e1:F+(k-F)=k:=by omega
 have e2:pF l k=x.2.1:=by unfold pF;rw[hx]
 have e3:too l k=x.2.2:=by unfold too;rw[hx]
 unfold su;rw[e1,kR hx,e2,e3]
theorem Kv(b:List Nat)(l:List Tk)(r:R)(h:r.au<=l.length):(tabs b l r).length<=l.length:=by
 rw[E6];split
 ·have h1:=y8 b l r.from' (lo l r.from' r.au-r.from');by_cases hft:r.from'<=r.au
  ·have h2:=lo_le l hft;omega
  have h2:=iM (λj=>!cnt (raw l j)) (r.au-r.from') r.from';have h3:lo l r.from' r.au=jh (λj=>!cnt (raw l j)) (r.au-r.from') r.from':=rfl;omega
 exact gG _
theorem uQ(b:List Nat)(l:List Tk):∀rs:List R,(∀r∈rs,r.au<=l.length)->(rs.flatMap (tabs b l)).length<=rs.length*l.length
 |[],_=>gG _
 |r::rs,h=>by
  rw[nN,ig,gy,qW,Ia];have h1:=Kv b l r (h r (by simp));have h2:=uQ b l rs (λx hx=>h x (by simp[hx]));omega
theorem mX{α:Type}{l:List α}{i:Nat}{x:α}(h:l[i]?=some x):l.take (i+1)=l.take i++[x]:=by
 have hi:=(fT.1 h).1;have he:=(fT.1 h).2;rw[LP hi,he]
theorem GU(b:List Nat)(f:Nat):part b f f=[]:=by unfold part;rw[zl,vS]
theorem GV{b:List Nat}{f j c:Nat}(hf:f<=j)(hc:b[j]?=some c):part b f (j+1)=part b f j++[c]:=by
 unfold part;rw[show j+1-f=(j-f)+1 by omega];refine mX (l:=b.drop f) ?_;rw[qT,show f+(j-f)=j by omega];exact hc
theorem Kw{b:List Nat}{f j c:Nat}(hf:f<=j)(hc:b[j]?=some c):(part b f (j+1)).contains 9=((part b f j).contains 9||(c==9)):=by
 rw[GV hf hc,uj];rw[LC,kS,sN,Oi,LC,FH];constructor
 ·rintro(h|h)
  ·exact .inl h
  exact .inr h.symm
 rintro(h|h)
 ·exact .inl h
 exact .inr h.symm
theorem Ni(l:List Tk){k T:Nat}{x:Tk}(h:k<T)(hx:l[k]?=some x):lo l k T=if cnt x.1=true then k else lo l (k+1) T:=by
 unfold lo;rw[lq _ T k h,kR hx];cases cnt x.1<;>rfl
theorem Nj(l:List Tk){k T:Nat}(h:T<=k):lo l k T=k:=by
 unfold lo;rw[mi _ T k h]
end Ps
section
open Go.RowKit
open Sq
open Ar
open Fl (Tk)
theorem Nk(s:ByteArray)(j:Nat)(h:j<s.size):(Sc.fP s)[j]?=some (s.get! j).toNat:=by
 unfold Sc.fP;rw[nO];have h1:s.data.toList[j]?=some s.data[j]:=by rw[Qe];exact Array.getElem?_eq_getElem h
 rw[h1,FF];congr 1;show _=(s.data[j]!).toNat;rw[getElem!_pos s.data j h]
end
section
open Go.RowKit
open Sg
theorem u7{p:Int×Nat}{x k:Int}(h:p.1=x/\(p.2:Int)=k):Ending.returned (.tuple #[.int .i32 x,.int .i64 k])=.returned (.tuple #[.int .i32 p.1,.int .i64 p.2]):=by rw[h.1,h.2]
theorem QW(b off len cap:Nat)(v0:Int)(b1:Nat)(w:World)(hl:len<=9223372036854775807)(h0:0<=v0)(h1:v0<32)(l1:b1<256)
 (hc1:1<len->w.cell? ⟨b,off+1,none⟩=some (.int .u8 b1)):
 Calls prog 76 #[.slice (some ⟨b,off,none⟩) len cap,.int .i64 2,.int .i32 v0,.int .i32 128] w λe w'=>e=.returned (.tuple #[.int .i32 (FN len v0.toNat b1).1,.int .i64 (FN len v0.toNat b1).2])/\w=w':=by
 obtain⟨v,rfl⟩:=Fv h0;rw[iE];by_cases hn:len<2
 ·go_enter func76,ntmps76
  go_wp2;go_ret2;refine⟨?_,rfl⟩;exact u7 (by unfold FN;(repeat' split);all_goals first|exact⟨rfl,rfl⟩|(exfalso;omega))
 have g1:=hc1 (by omega);clear hc1;have hlt:(1:Int)<(len:Int):=by omega
 by_cases k1:b1<128\/191<b1
 ·go_enter func76,ntmps76
  go_wp2;refine pz 2 ?_;rw[jI];go_wp2;all_goals
   go_ret2;refine⟨?_,rfl⟩;exact u7 (by unfold FN;(repeat' split);all_goals first|exact⟨rfl,rfl⟩|(exfalso;omega))
 obtain⟨aa,ae⟩:128<=b1/\b1<=191:=by omega
 clear k1
 go_enter func76,ntmps76
 go_wp2;refine pz 2 ?_;rw[jI];go_wp2;rw[jI];go_wp2;all_goals
  go_ret2;refine⟨?_,rfl⟩;exact u7 (by unfold FN;(repeat' split);all_goals first|exact⟨rfl,rfl⟩|(exfalso;omega)|(refine⟨?_,rfl⟩;dsimp only;omega))
theorem QX(b off len cap:Nat)(v0:Int)(b1 b2:Nat)(w:World)(hl:len<=9223372036854775807)(h0:0<=v0)(h1:v0<16)(l1:b1<256)(l2:b2<256)
 (hc1:1<len->w.cell? ⟨b,off+1,none⟩=some (.int .u8 b1))
 (hc2:2<len->w.cell? ⟨b,off+2,none⟩=some (.int .u8 b2)):
 Calls prog 76 #[.slice (some ⟨b,off,none⟩) len cap,.int .i64 3,.int .i32 v0,.int .i32 2048] w λe w'=>e=.returned (.tuple #[.int .i32 (CB len v0.toNat b1 b2).1,.int .i64 (CB len v0.toNat b1 b2).2])/\w=w':=by
 obtain⟨v,rfl⟩:=Fv h0;rw[iE];by_cases hn:len<3
 ·go_enter func76,ntmps76
  go_wp2;go_ret2;refine⟨?_,rfl⟩;exact u7 (by unfold CB;(repeat' split);all_goals first|exact⟨rfl,rfl⟩|(exfalso;omega))
 have g1:=hc1 (by omega);have g2:=hc2 (by omega);clear hc1 hc2;have hlt:(2:Int)<(len:Int):=by omega
 by_cases k1:b1<128\/191<b1
 ·go_enter func76,ntmps76
  go_wp2;refine pz 3 ?_;rw[jI];go_wp2;all_goals
   go_ret2;refine⟨?_,rfl⟩;exact u7 (by unfold CB;(repeat' split);all_goals first|exact⟨rfl,rfl⟩|(exfalso;omega))
 obtain⟨aa,ae⟩:128<=b1/\b1<=191:=by omega
 clear k1;by_cases k2:b2<128\/191<b2
 ·go_enter func76,ntmps76
  go_wp2;refine pz 3 ?_;rw[jI];go_wp2;rw[jI];go_wp2;all_goals
   go_ret2;refine⟨?_,rfl⟩;exact u7 (by unfold CB;(repeat' split);all_goals first|exact⟨rfl,rfl⟩|(exfalso;omega))
 obtain⟨af,ag⟩:128<=b2/\b2<=191:=by omega
 clear k2
 go_enter func76,ntmps76
 go_wp2;refine pz 3 ?_;rw[jI];go_wp2;rw[jI];go_wp2;rw[jI];go_wp2;all_goals
  go_ret2;refine⟨?_,rfl⟩;exact u7 (by unfold CB;(repeat' split);all_goals first|exact⟨rfl,rfl⟩|(exfalso;omega)|(refine⟨?_,rfl⟩;dsimp only;omega))
theorem QY(b off len cap:Nat)(v0:Int)(b1 b2 b3:Nat)(w:World)(hl:len<=9223372036854775807)(h0:0<=v0)(h1:v0<8)(l1:b1<256)(l2:b2<256)(l3:b3<256)
 (hc1:1<len->w.cell? ⟨b,off+1,none⟩=some (.int .u8 b1))
 (hc2:2<len->w.cell? ⟨b,off+2,none⟩=some (.int .u8 b2))
 (hc3:3<len->w.cell? ⟨b,off+3,none⟩=some (.int .u8 b3)):
 Calls prog 76 #[.slice (some ⟨b,off,none⟩) len cap,.int .i64 4,.int .i32 v0,.int .i32 65536] w λe w'=>e=.returned (.tuple #[.int .i32 (AB len v0.toNat b1 b2 b3).1,.int .i64 (AB len v0.toNat b1 b2 b3).2])/\w=w':=by
 obtain⟨v,rfl⟩:=Fv h0;rw[iE];by_cases hn:len<4
 ·go_enter func76,ntmps76
  go_wp2;go_ret2;refine⟨?_,rfl⟩;exact u7 (by unfold AB;(repeat' split);all_goals first|exact⟨rfl,rfl⟩|(exfalso;omega))
 have g1:=hc1 (by omega);have g2:=hc2 (by omega);have g3:=hc3 (by omega);clear hc1 hc2 hc3;have hlt:(3:Int)<(len:Int):=by omega
 by_cases k1:b1<128\/191<b1
 ·go_enter func76,ntmps76
  go_wp2;refine pz 4 ?_;rw[jI];go_wp2;all_goals
   go_ret2;refine⟨?_,rfl⟩;exact u7 (by unfold AB;(repeat' split);all_goals first|exact⟨rfl,rfl⟩|(exfalso;omega))
 obtain⟨aa,ae⟩:128<=b1/\b1<=191:=by omega
 clear k1;by_cases k2:b2<128\/191<b2
 ·go_enter func76,ntmps76
  go_wp2;refine pz 4 ?_;rw[jI];go_wp2;rw[jI];go_wp2;all_goals
   go_ret2;refine⟨?_,rfl⟩;exact u7 (by unfold AB;(repeat' split);all_goals first|exact⟨rfl,rfl⟩|(exfalso;omega))
 obtain⟨af,ag⟩:128<=b2/\b2<=191:=by omega
 clear k2;by_cases k3:b3<128\/191<b3
 ·go_enter func76,ntmps76
  go_wp2;refine pz 4 ?_;rw[jI];go_wp2;rw[jI];go_wp2;rw[jI];go_wp2;all_goals
   go_ret2;refine⟨?_,rfl⟩;exact u7 (by unfold AB;(repeat' split);all_goals first|exact⟨rfl,rfl⟩|(exfalso;omega))
 obtain⟨ah,ai⟩:128<=b3/\b3<=191:=by omega
 clear k3
 go_enter func76,ntmps76
 go_wp2;refine pz 4 ?_;rw[jI];go_wp2;rw[jI];go_wp2;rw[jI];go_wp2;rw[jI];go_wp2;all_goals
  go_ret2;refine⟨?_,rfl⟩;exact u7 (by unfold AB;(repeat' split);all_goals first|exact⟨rfl,rfl⟩|(exfalso;omega)|(refine⟨?_,rfl⟩;dsimp only;omega))
end
section
open Go.RowKit
open Sg
open Sq
def Jh(x:Rw.R):List Value:=[.int .i64 x.kind,.int .i64 x.from',.int .i64 x.au,.int .i64 x.fo]
def encR:jV Rw.R:=⟨Jh,4,by decide,λ_=>rfl,λx u hu=>by
 cases hu with
 |head=>rfl
 |tail _ hu=>cases hu with
  |head=>rfl
  |tail _ hu=>cases hu with
   |head=>rfl
   |tail _ hu=>cases hu with
    |head=>rfl
    |tail _ hu=>cases hu⟩
abbrev QG(x:Rw.R):Value:=.agg #[.int .i64 x.kind,.int .i64 x.from',.int .i64 x.au,.int .i64 x.fo]
theorem RQ:Ty prog encR 56 67 32:=Ty.of (z:=.agg #[.int .i64 0,.int .i64 0,.int .i64 0,.int .i64 0]) underlying56 (by kernel_rfl) (by kernel_rfl) rfl (λw=>by kernel_rfl)
def zF(x:Rw.E):List Value:=[.bool x.dash,.int .i64 x.fo,.int .i64 x.from',.int .i64 x.au]
def oG:jV Rw.E:=⟨zF,4,by decide,λ_=>rfl,λx u hu=>by
 cases hu with
 |head=>rfl
 |tail _ hu=>cases hu with
  |head=>rfl
  |tail _ hu=>cases hu with
   |head=>rfl
   |tail _ hu=>cases hu with
    |head=>rfl
    |tail _ hu=>cases hu⟩
theorem og{w:World}{a:Option Addr}{cap:Nat}{l:List Rw.R}(h:Reads encR w (.slice a l.length cap) l)(j:Nat)(x:Rw.R)(hj:l[j]?=some x):
 ∃b off,a=some ⟨b,off,none⟩/\w.cell? ⟨b,off+j*4,none⟩=some (.int .i64 x.kind)/\w.cell? ⟨b,off+j*4+1,none⟩=some (.int .i64 x.from')/\w.cell? ⟨b,off+j*4+2,none⟩=some (.int .i64 x.au)/\w.cell? ⟨b,off+j*4+3,none⟩=some (.int .i64 x.fo):=by
 obtain⟨b,off,h1,h2⟩:=h.at_ j x hj;exact⟨b,off,h1,h2 0 _ rfl,h2 1 _ rfl,h2 2 _ rfl,h2 3 _ rfl⟩
theorem Nl{w:World}{a:Option Addr}{cap:Nat}{l:List Rw.E}(h:Reads oG w (.slice a l.length cap) l)(j:Nat)(x:Rw.E)(hj:l[j]?=some x):
 ∃b off,a=some ⟨b,off,none⟩/\w.cell? ⟨b,off+j*4,none⟩=some (.bool x.dash)/\w.cell? ⟨b,off+j*4+1,none⟩=some (.int .i64 x.fo)/\w.cell? ⟨b,off+j*4+2,none⟩=some (.int .i64 x.from')/\w.cell? ⟨b,off+j*4+3,none⟩=some (.int .i64 x.au):=by
 obtain⟨b,off,h1,h2⟩:=h.at_ j x hj;exact⟨b,off,h1,h2 0 _ rfl,h2 1 _ rfl,h2 2 _ rfl,h2 3 _ rfl⟩
def C5(L:List Rw.R)(w:World)(e:Ending)(w':World):Prop:=
 ∃u,e=.returned u/\w'.ownsRow w.heap.size 67 4 u L.length (encR.all L)/\Below w.heap.size w w'
def sw(t:TypeId)(L:List Rw.E)(n:Nat)(w:World)(e:Ending)(w':World):Prop:=
 ∃u,e=.returned (.tuple #[u,.int .i64 n])/\w'.ownsRow w.heap.size t 4 u L.length (oG.all L)/\Below w.heap.size w w'
theorem sw.read{t:TypeId}{L:List Rw.E}{n:Nat}{w w':World}{e:Ending}(h:sw t L n w e w'):∃a cap,e=.returned (.tuple #[.slice a L.length cap,.int .i64 n])/\Reads oG w' (.slice a L.length cap) L/\Below w.heap.size w w':=by
 obtain⟨u,rfl,hO,hB⟩:=h;have hR:=Reads.fJ (E:=oG) hO;obtain⟨a,cap,rfl⟩:=hR.shape;exact⟨a,cap,rfl,hR,hB⟩
theorem eU{w w1 w2:World}(h1:Below w.heap.size w w1)(h2:Below w1.heap.size w1 w2):Below w.heap.size w w2:=h1.trans (h2.mono h1.size)
end
namespace Rw
theorem wO(op k:Nat):Sc.opens op k<=op+1:=by
 unfold Sc.opens;split<;>(try split)<;>(try split)<;>omega
theorem E7(ts:List Tk):∀op,ql op ts<=op+ts.length:=by
 induction ts with
 |nil=>intro op;exact fC _
 |cons x r ih=>
  intro op;have h1:=wO op x.1;have h2:=ih (Sc.opens op x.1);show ql (Sc.opens op x.1) r<=_;rw[gy];omega
theorem GX(ts:List Tk)(x:Tk)(h:ts[0]?=some x):qA ts=x.2.1:=by
 cases ts with
 |nil=>simp at h
 |cons y r=>
  obtain rfl:y=x:=by simpa using h
  rfl
theorem GY(ts:List Tk)(x:Tk)(h:ts[0]?=some x):iQ ts=x.1:=by
 cases ts with
 |nil=>simp at h
 |cons y r=>
  obtain rfl:y=x:=by simpa using h
  rfl
theorem kY(ts:List Tk)(i:Nat)(x:Tk)(h:ts[i]?=some x):iQ (ts.drop i)=x.1:=by
 refine GY _ x ?_;rw[qT];exact h
theorem drop_one(ts:List Tk)(k:Nat)(x:Tk)(h:ts[k]?=some x):ts.drop k=x::ts.drop (k+1):=by
 have hi:=(fT.1 h).1;have e:=(fT.1 h).2;rw[sM hi,e]
theorem GZ(ts:List Tk)(k:Nat)(x:Tk)(h:ts[k]?=some x):blanks (ts.drop k)=if x.1=3 then blanks (ts.drop (k+1))+1 else 0:=by
 rw[drop_one ts k x h,blanks]
theorem DL(ts:List Tk)(k:Nat)(h:ts.length<=k):blanks (ts.drop k)=0:=by
 rw[nM h];rfl
theorem jR(ts:List Tk)(k:Nat)(h:k<=ts.length):k+blanks (ts.drop k)<=ts.length:=by
 have:=F5 (ts.drop k);rw[iq]at this;omega
theorem Ky(l:List Tk)(h:isProp (iQ l)=true):nS l=(nS (l.drop (blanks (l.drop 1)+1))).map (·+(blanks (l.drop 1)+1)):=by
 have hp:=Gt l h;obtain⟨n,hn⟩:=eX (blanks (l.drop 1)+1);rw[hn]at hp⊢;unfold nS pJ;rw[hp];obtain⟨m,hm⟩:=eX (l7 (l.drop n).length (l.drop n));rw[hm];have e1:l.drop (m+n)=(l.drop n).drop m:=by rw[lH,Nat.add_comm]
 rw[e1];obtain⟨s,hs⟩:=eX (uS ((l.drop n).drop m));rw[hs];have e2:l.drop (m+n+s)=(l.drop n).drop (m+s):=by rw[lH];congr 1;omega
 rw[e2];by_cases hk:iQ ((l.drop n).drop (m+s))=6
 ·rw[eT hk,eT hk,FF];congr 1;omega
 rw[eQ hk,eQ hk,Option.map_none]
theorem E8(l:List Tk)(h:isProp (iQ l)=false):nS l=if iQ (l.drop (uS l))=6 then some (uS l+1)else none:=by
 unfold nS pJ;rw[Gu l h,xU,j5]
def oH(ts:List Tk)(p:Nat):Int:=match nS (ts.drop p)with
 |some n=>((p+n:Nat):Int)
 |none=>-1
def yh(ts:List Tk)(q:Nat):Int:=if iQ (ts.drop q)=6 then((q+1:Nat):Int)else -1
theorem G4(ts:List Tk)(p:Nat)(x:Tk)(hx:ts[p]?=some x)(h:isProp x.1=true):oH ts p=oH ts (p+1+blanks (ts.drop (p+1))):=by
 unfold oH;rw[Ky (ts.drop p) (by rw[kY ts p x hx];exact h),lH,lH];rw[show p+(blanks (ts.drop (p+1))+1)=p+1+blanks (ts.drop (p+1))from by omega];cases nS (ts.drop (p+1+blanks (ts.drop (p+1))))with
 |none=>rfl
 |some n=>show((p+(n+(blanks (ts.drop (p+1))+1)):Nat):Int)=_;congr 1;omega
theorem G5(ts:List Tk)(p:Nat)(x:Tk)(hx:ts[p]?=some x)(h:isProp x.1=false)(hs:gF x.1=true):oH ts p=yh ts (p+1+blanks (ts.drop (p+1))):=by
 have hk:=kY ts p x hx;unfold oH yh;rw[E8 (ts.drop p) (by rw[hk];exact h)];have e:uS (ts.drop p)=blanks (ts.drop (p+1))+1:=by unfold uS;rw[hk,eT hs,lH]
 rw[e,lH,show p+(blanks (ts.drop (p+1))+1)=p+1+blanks (ts.drop (p+1))from by omega];by_cases hc:iQ (ts.drop (p+1+blanks (ts.drop (p+1))))=6
 ·rw[eT hc,eT hc];show((p+(blanks (ts.drop (p+1))+1+1):Nat):Int)=_;congr 1;omega
 rw[eQ hc,eQ hc]
theorem DT(ts:List Tk)(p:Nat)(x:Tk)(hx:ts[p]?=some x)(h:isProp x.1=false)(hs:gF x.1=false):oH ts p=yh ts p:=by
 have hk:=kY ts p x hx;unfold oH yh;rw[E8 (ts.drop p) (by rw[hk];exact h)];have e:uS (ts.drop p)=0:=by unfold uS;rw[hk,eQ (by rw[hs];decide)]
 rw[e,lH,sO];by_cases hc:iQ (ts.drop p)=6
 ·rw[eT hc,eT hc]
 rw[eQ hc,eQ hc]
theorem Kz(ts:List Tk)(p:Nat)(h:ts.length<=p):oH ts p=-1:=by
 unfold oH;rw[nM h];rfl
theorem KA(ts:List Tk)(p:Nat)(h:ts.length<=p):yh ts p=-1:=by
 unfold yh;rw[nM h];rfl
def mO(F:Nat)(ts:List Tk)(p:Nat):List E:=(jU (ts.drop p).length (ts.drop p)).map (λi=>nz F ts (p+i))
def mP(ts:List Tk)(p:Nat):Nat:=p+jw (ts.drop p).length (ts.drop p)
theorem Ch(F:Nat)(ts:List Tk)(p:Nat)(h:iQ (ts.drop p)=5):mO F ts p=nz F ts p::mO F ts (p+1+blanks (ts.drop (p+1)))/\mP ts p=mP ts (p+1+blanks (ts.drop (p+1))):=by
 have hd:=Gr (ts.drop p) h;rw[lH,lH]at hd;obtain⟨n,hn⟩:=eX (blanks (ts.drop (p+1)));rw[hn]at hd⊢;have e1:p+(n+1)=p+1+n:=by omega
 rw[e1]at hd;constructor
 ·unfold mO;rw[hd.1,qi,Ou,sO];congr 1;apply Qr;intro i _;show nz F ts (p+(i+(n+1)))=nz F ts (p+1+n+i);congr 1;omega
 unfold mP;rw[hd.2];omega
theorem vz(F:Nat)(ts:List Tk)(p:Nat)(h:iQ (ts.drop p)≠5):mO F ts p=[]/\mP ts p=p:=by
 have hd:=Gs (ts.drop p) h;unfold mO mP;rw[hd.1,hd.2];exact⟨rfl,rfl⟩
theorem DU(F:Nat)(ts:List Tk)(p:Nat)(h:ts.length<=p):mO F ts p=[]/\mP ts p=p:=by
 refine vz F ts p ?_;rw[nM h];decide
def C6(A:Nat)(es:List E):Nat:=match es.getLast? with
 |some e=>e.au
 |none=>A
theorem Ci(A:Nat)(es:List E)(x:E):C6 A (es++[x])=x.au:=by
 unfold C6;rw[List.getLast?_concat]
def Ip(F:Nat)(ts:List Tk)(k:Nat):List E:=match nS (ts.drop k)with
 |some n=>[⟨false,x9 ts k,F+k,F+k+n⟩]
 |none=>[]
theorem KB(F:Nat)(ts:List Tk):kT F ts=mO F ts (ik ts)++Ip F ts (mP ts (ik ts)):=by rw[mW];rfl
theorem KC(F:Nat)(ts:List Tk):oJ F ts=C6 (F+ik ts) (kT F ts):=rfl
theorem KE(F:Nat)(ts:List Tk)(k:Nat)(h:oH ts k=-1):Ip F ts k=[]:=by
 unfold oH at h;unfold Ip;cases hk:nS (ts.drop k)with
 |none=>rfl
 |some n=>rw[hk]at h;dsimp only at h;omega
theorem KF(F:Nat)(ts:List Tk)(k:Nat)(h:oH ts k≠-1):∃q:Nat,oH ts k=(q:Int)/\k<q/\q<=ts.length/\k<ts.length/\Ip F ts k=[⟨false,x9 ts k,F+k,F+q⟩]:=by
 unfold oH at h;unfold oH Ip;cases hk:nS (ts.drop k)with
 |none=>rw[hk]at h;exact absurd rfl h
 |some n=>
  have hi:=pI (ts.drop k) n hk;rw[iq]at hi;have hlt:k<ts.length:=by
   rcases lu k ts.length with h|h
   ·exact h
   exact absurd (nM h) hi.2.2
  refine⟨k+n,rfl,by omega,by omega,hlt,?_⟩;dsimp only;rw[LQ]
end Rw
section
open Go.RowKit
open Sg
open Sq
open Ar
theorem QZ(a b:Fl.Dg)(w:World):Calls prog 49 #[.agg #[.int .i64 (a.code:Int),.int .i64 (a.f:Int),.int .i64 (a.t:Int)],.agg #[.int .i64 (b.code:Int),.int .i64 (b.f:Int),.int .i64 (b.t:Int)]] w λe w'=>e=.returned (.bool (Ps.less a b))/\Below w.heap.size w w':=by
 obtain⟨ac,af,at'⟩:=a;obtain⟨bc,bf,bt⟩:=b;unfold Ps.less;dsimp only;obtain⟨w2,hw2⟩:=eX ((w.alloc (.cells #[.int .i64 (ac:Int),.int .i64 (af:Int),.int .i64 (at':Int)] 89)).alloc (.cells #[.int .i64 (bc:Int),.int .i64 (bf:Int),.int .i64 (bt:Int)] 89));have hb:Below w.heap.size w w2:=hw2▸(eZ w _).alloc (by simp) _;have aa:w2.heap[w.heap.size]?=some (.cells #[.int .i64 (ac:Int),.int .i64 (af:Int),.int .i64 (at':Int)] 89 (0,0)):=by
  rw[<-hw2];exact((eZ (w.alloc (.cells #[.int .i64 (ac:Int),.int .i64 (af:Int),.int .i64 (at':Int)] 89)) _).block _ (by simp)).trans (qj w _)
 have ae:w2.heap[w.heap.size+1]?=some (.cells #[.int .i64 (bc:Int),.int .i64 (bf:Int),.int .i64 (bt:Int)] 89 (0,0)):=by
  rw[<-hw2];have:=qj (w.alloc (.cells #[.int .i64 (ac:Int),.int .i64 (af:Int),.int .i64 (at':Int)] 89)) (.cells #[.int .i64 (bc:Int),.int .i64 (bf:Int),.int .i64 (bt:Int)] 89)
  simpa using this
 have p0:=gQ aa 0;have p1:=gQ aa 1;have p2:=gQ aa 2;have q0:=gQ ae 0;have q1:=gQ ae 1;have q2:=gQ ae 2;clear aa ae;by_cases h1:af=bf
 ·rw[eT h1];have n1:((af:Int)==(bf:Int))=true:=by simp[h1]
  by_cases h2:at'=bt
  ·rw[eT h2];have n2:((at':Int)==(bt:Int))=true:=by simp[h2]
   clear h1 h2
   go_enter func49,ntmps49
   go_wp2_with fail
   go_ret;exact⟨by simp,by first|exact hb|(rw[<-hw2]at hb;exact hb)⟩
  rw[eQ h2];have n2:((at':Int)==(bt:Int))=false:=by simp;omega
  clear h1 h2
  go_enter func49,ntmps49
  go_wp2_with fail
  go_ret;exact⟨by simp,by first|exact hb|(rw[<-hw2]at hb;exact hb)⟩
 rw[eQ h1];have n1:((af:Int)==(bf:Int))=false:=by simp;omega
 clear h1
 go_enter func49,ntmps49
 go_wp2_with fail
 go_ret;exact⟨by simp,by first|exact hb|(rw[<-hw2]at hb;exact hb)⟩
end
end Go.Proofs.YtfbiffdmhcjhbaaGreat
namespace Go
open Go.Proofs.YtfbiffdmhcjhbaaGreat
theorem yu{P:Program}(w:World)(dT sT ty elem:TypeId)(d a:Option Addr)(dLen dCap sLen sCap:Nat)(hu:P.underlying dT=some (.slice elem))(hs:(P.info? elem).isSome=true)(hn:Nat.min sLen dLen=0):
 (Builtin.copy_ #[dT,sT] ty #[.slice d dLen dCap,.slice a sLen sCap]).run P w=.ok (goInt 0) w:=by
 cases hq:P.info? elem with
 |none=>simp[hq]at hs
 |some i=>
  have hl:∀(x:Addr),(loadCells x 0).run P w=.ok #[] w:=λx=>by simpa using run_loadCells_list (P:=P) w x [] (by simp)
  cases d<;>cases a<;>simp[Builtin.copy_,run_underlying hu,Builtin.lenOf,Builtin.firstCells,sizeOf,typeInfo,hq,hn,storeCells,hl]
end Go
namespace Go.Proofs.YtfbiffdmhcjhbaaGreat
open RowKit Tryz
section
open Go.RowKit
open Sg
open Sq
open Ar
theorem KG(a b:Fl.Dg)(h:Ps.same a b=false)(w:World):(binOp .eql 89 (.agg #[.int .i64 (a.code:Int),.int .i64 (a.f:Int),.int .i64 (a.t:Int)]) (.agg #[.int .i64 (b.code:Int),.int .i64 (b.f:Int),.int .i64 (b.t:Int)])).run prog w=.ok (.bool false) w:=by
 obtain⟨ac,af,at'⟩:=a;obtain⟨bc,bf,bt⟩:=b;unfold Ps.same at h;dsimp only at h⊢;have u3:=underlying3;have hS:prog.underlying 89=some (.struct (prog.fieldsOf 89)):=by kernel_rfl
 have hp:prog.stoodInHeld 89=false:=by kernel_rfl
 rw[run_eql_struct,show(10000:Nat)=9999+1 from rfl,OV w 9999 89 _ _ hS hp];simp only[Program.fieldsOf,underlying89];by_cases h1:ac=bc
 ·by_cases h2:af=bf
  ·have h3:at'≠bt:=λe=>by subst h1 h2 e;simp at h
   have n1:((ac:Int)==(bc:Int))=true:=by simp[h1]
   have n2:((af:Int)==(bf:Int))=true:=by simp[h2]
   have n3:((at':Int)==(bt:Int))=false:=by simp;omega
   go_simp
  have n1:((ac:Int)==(bc:Int))=true:=by simp[h1]
  have n2:((af:Int)==(bf:Int))=false:=by simp;omega
  go_simp
 have n1:((ac:Int)==(bc:Int))=false:=by simp;omega
 go_simp
theorem vB:prog.underlying 32=some (.slice (prog.elem 32)):=by kernel_rfl
theorem vC(w:World):(sizeOf (prog.elem 32)).run prog w=.ok 3 w:=by kernel_rfl
theorem rJ(a:Option Addr)(n cap l:Nat)(hl:l<=n)(hb:n<=1000000000000):
 ∃a' c',∀W:World,(Instr.slice 32 (.slice a n cap) (some (.int .i64 (l:Int))) none none).run prog W=.ok (.slice a' (n-l) c') W:=by
 refine⟨if cap=l then a else a.map (·.add (l*3)),cap-l,λW=>?_⟩;rw[LX W _ a n cap vB .i64 l (by omega) (by omega),vC];simp only[Result.andThen,sliced,iE]
theorem xK(a1 a2:Option Addr)(c1 c2:Nat)(ty:TypeId)(W:World):(Builtin.copy_ #[32,32] ty #[.slice a1 0 c1,.slice a2 1 c2]).run prog W=.ok (goInt 0) W:=
 yu W _ _ _ _ a1 a2 0 c1 1 c2 underlying32 (by kernel_rfl) rfl
end
end Go.Proofs.YtfbiffdmhcjhbaaGreat

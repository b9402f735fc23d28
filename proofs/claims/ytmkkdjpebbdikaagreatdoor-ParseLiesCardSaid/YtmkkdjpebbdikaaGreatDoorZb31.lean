import Derived.Test.YtmkkdjpebbdikaaGreatDoorZb27
import Derived.Test.YtmkkdjpebbdikaaGreatDoorZb28
import Derived.Test.YtmkkdjpebbdikaaGreatDoorZb29
set_option linter.all false
set_option maxHeartbeats 16000000
set_option maxRecDepth 100000
namespace Go.Proofs.YtmkkdjpebbdikaaGreatDoor
open Go.RowKit Go.Proofs.Tryz
section
open Ar
open Rw (R E)
theorem yC.iff{st:List Pr.Lv}:yC st↔∃D,st.getLast?=some D/\D.eT=-1:=by
 constructor
 ·rintro⟨pre,D,rfl,h⟩;exact⟨D,eG,h⟩
 ·rintro⟨D,h,hc⟩;obtain⟨ys,e⟩:=List.getLast?_eq_some_iff.1 h;exact⟨ys,D,e,hc⟩
theorem yC.cons{r:List Pr.Lv}(h:yC r)(x:Pr.Lv):yC (x::r):=by
 obtain⟨pre,D,rfl,hc⟩:=h;exact⟨x::pre,D,rfl,hc⟩
theorem yC.head{x y:Pr.Lv}{r:List Pr.Lv}(h:yC (x::r))(e:y.eT=x.eT):yC (y::r):=by
 cases r with
 |nil=>
  have:=h.last (pre:=[]) (h:=x) rfl;exact⟨[],y,rfl,by rw[e];exact this⟩
 |cons a b=>
  obtain⟨D,h1,h2⟩:=yC.iff.1 h;exact yC.iff.2 ⟨D,by rw[aeq]at h1⊢;exact h1,h2⟩
theorem yC.drop{pre:List Pr.Lv}{x:Pr.Lv}{r:List Pr.Lv}(h:yC (pre++x::r)):yC (x::r):=by
 obtain⟨D,h1,h2⟩:=yC.iff.1 h;refine yC.iff.2 ⟨D,?_,h2⟩;rw[ahJ]at h1;cases hx:(x::r).getLast? with
 |none=>simp at hx
 |some y=>rw[hx]at h1;simpa using h1
theorem Wz(l:List Tk)(s:Fl.St)(h:Pr.Lv)(e:E):(Pr.enter l s h e).2.eT=h.eT:=by
 unfold Pr.enter;split
 ·rfl
 ·split<;>rfl
theorem Nq(depth n:Nat)(e:E):∀(st:List Pr.Lv)(h:Pr.Lv)(r:List Pr.Lv),Pr.nS depth n e st=(0,h::r)->∃pre,st=pre++h::r
 |[],h,r,hk=>wF
 |x::y,h,r,hk=>by
  rw[Pr.nS]at hk;split at hk
  ·injection hk with _ hk
   exact⟨[],hk⟩
  split at hk
  ·obtain⟨pre,hp⟩:=Nq depth n e y h r hk;exact⟨x::pre,by rw[hp];rfl⟩
  split at hk
  ·cases hk
  split at hk
  ·cases hk
  split at hk
  ·cases hk
  split at hk<;>cases hk
theorem Nr(depth n:Nat)(e:E):∀(st:List Pr.Lv)(z:List Pr.Lv),Pr.nS depth n e st=(1,z)->n<=depth
 |[],z,hk=>wF
 |x::y,z,hk=>by
  rw[Pr.nS]at hk;split at hk
  ·cases hk
  split at hk
  ·exact Nr depth n e y z hk
  split at hk
  ·cases hk
  split at hk
  ·cases hk
  split at hk
  ·cases hk
  split at hk
  ·cases hk
  ·omega
theorem EZ{q:Pr.QS}(l:List Tk)(depth:Nat)(e:E)(hb:yC q.st)(hl:q.st.length<=depth+1):
 yC (Pr.place l depth q e).2.st/\(Pr.place l depth q e).2.st.length<=depth+1/\((Pr.place l depth q e).1≠0->(Pr.place l depth q e).2=q):=by
 unfold Pr.place;obtain⟨k,hk⟩:=eu (Pr.nS depth q.st.length e q.st);rw[hk];obtain⟨code,st⟩:=k
 match code,st with
 |0,[]=>exact⟨hb,hl,λ_=>rfl⟩
 |0,v::r=>
  obtain⟨pre,hp⟩:=Nq _ _ _ _ _ _ hk;have hd:yC (v::r):=by rw[hp]at hb;exact hb.drop
  refine⟨hd.head (Wz l q.s v e),?_,λh=>absurd rfl h⟩;show((Pr.enter l q.s v e).2::r).length<=_;rw[hp,iK,iR]at hl;rw[iR];omega
 |1,st=>
  have hn:=Nr _ _ _ _ _ hk;cases hs:q.st with
  |nil=>
   have:Pr.act l q e (1,st)=(0,q):=by
    show(match q.st with|h::r=>(0,Pr.fresh l q e h r)|[]=>(0,q))=_;rw[hs]
   rw[this];exact⟨hb,hl,λ_=>rfl⟩
  |cons v r=>
   have:Pr.act l q e (1,st)=(0,Pr.fresh l q e v r):=by
    show(match q.st with|h::r=>(0,Pr.fresh l q e h r)|[]=>(0,q))=_;rw[hs]
   rw[this];rw[hs]at hb hl hn;refine⟨(hb.head (y:={v with full:=true}) rfl).cons _,?_,λh=>absurd rfl h⟩;show(_::{v with full:=true}::r).length<=_;rw[iR]at hn⊢;rw[iR];omega
 |code+2,st=>exact⟨hb,hl,λ_=>rfl⟩
theorem qd{q:Pr.QS}(i:Nat)(h:q.st=[]\/yC q.st):yC (Pr.fA q i).st:=by
 unfold Pr.fA;cases hs:q.st with
 |nil=>exact⟨[],_,rfl,rfl⟩
 |cons v r=>
  rcases h with h|h
  ·rw[hs]at h;cases h
  ·exact h
theorem rH{q:Pr.QS}(i m:Nat)(h:q.st.length<=m+1):(Pr.fA q i).st.length<=m+1:=by
 unfold Pr.fA;cases hs:q.st with
 |nil=>exact Nat.succ_le_succ (fP _)
 |cons v r=>exact h
end
section
open Go.RowKit
open Sg
open Qo
theorem adf(l:List UInt8)(h:l≠[]):mI 15 l=(l,[],true):=by unfold mI;rw[dW h,dX rfl]
theorem adg(l:List UInt8)(h:l≠[]):mI 16 l=((vQ (l.drop 1)).1,[],(vQ (l.drop 1)).2):=by unfold mI;rw[dW h,dW dU,dX rfl]
theorem adh(l:List UInt8)(h:l≠[]):mI 17 l=tZ 1 (l.drop 1):=by unfold mI;rw[dW h,dW dU,dW dU,dX rfl]
theorem agl(k:Int)(l:List UInt8)(h1:k≠15)(h2:k≠16)(h3:k≠17):mI k l=([],[],false):=by
 unfold mI;by_cases h:l=[]
 ·rw[dX h]
 ·rw[dW h,dW h1,dW h2,dW h3]
theorem agm(s:ByteArray)(h:1<=s.size):s.toList.isEmpty=false/\s.data.toList≠[]:=by
 have h1:s.data.toList≠[]:=λe=>by rw[vL,e]at h;exact absurd h dU
 refine⟨?_,h1⟩;rw[Lib.toList_data];cases hl:s.data.toList with
 |nil=>exact absurd hl h1
 |cons _ _=>rfl
theorem adi(s:ByteArray)(h:s.size=0):s=⟨#[]⟩:=by
 cases s with
 |mk d=>simp[ByteArray.size]at h;rw[h]
theorem abM(w w':World)(t:ByteArray)(l:List UInt8)(b:Bool)(h:ba l=t)(hb:Below w.heap.size w w'):Told (l,[],b) w (.returned (.tuple #[.string t,.slice none 0 0,.bool b])) w' :=
 ⟨.slice none 0 0,by rw[<-h],yj _ _,hb⟩
theorem ak9(k:Int)(s:ByteArray)(w:World)(hs:s.size<=100000):
 Calls prog 45 #[.int .i64 k,.string s] w (Told (mI k s.data.toList) w):=by
 by_cases h0:s.size=0
 ·obtain rfl:=adi s h0
  exact QW
 ·have h1:1<=s.size:=by omega
  obtain⟨hE,hne⟩:=agm s h1;have r1:=ak3 s w hs h1;have r2:=ak4 s w hs h1;by_cases k1:k=15
  ·subst k1;rw[adf _ hne];clear r1 r2
   exact QW
  by_cases k2:k=16
  ·subst k2;rw[adg _ hne];obtain⟨x,hx⟩:=eu (((vQ (s.data.toList.drop 1)).1,([]:List Nat),(vQ (s.data.toList.drop 1)).2));rw[hx]at r1⊢;have R1:=dY r1;clear r1 r2 hx
   go_enter func45,ntmps45
   go_wp2_with fail
   refine R1.out.mono ?_;rintro e w1 ⟨v,rfl,hO,hb⟩;go_wp2
   go_ret3
   exact⟨v,rfl,hO,hb⟩
  by_cases k3:k=17
  ·subst k3;rw[adh _ hne];obtain⟨x,hx⟩:=eu (tZ 1 (s.data.toList.drop 1));rw[hx]at r2⊢;have R2:=dY r2;clear r1 r2 hx
   go_enter func45,ntmps45
   go_wp2_with fail
   refine R2.out.mono ?_;rintro e w1 ⟨v,rfl,hO,hb⟩;go_wp2
   go_ret3
   exact⟨v,rfl,hO,hb⟩
  rw[agl k _ k1 k2 k3];have g1:(k==15)=false:=jE.2 k1;have g2:(k==16)=false:=jE.2 k2;have g3:(k==17)=false:=jE.2 k3;clear r1 r2
  exact QW
end
section
open Go.RowKit Go.Shelf Go.Sort
open Sq
open Fl
instance amA:Inhabited Dg:=⟨⟨0,0,0⟩⟩
def Vp(x y:Int):Int:=if x<y then -1 else if y<x then 1 else 0
def or3(x y z:Int):Int:=if x≠0 then x else if y≠0 then y else z
def cpD(a b:Dg):Int:=or3 (Vp a.f b.f) (Vp a.t b.t) (Vp a.code b.code)
theorem Ag(a b:Dg):ltOf cpD a b=Ps.less a b:=by
 unfold ltOf;rw[qb,LM,Ps.pZ];unfold cpD or3 Vp;constructor
 ·repeat' split
  all_goals (intro h;omega)
 ·repeat' split
  all_goals omega
theorem amg:SWO (ltOf cpD) where
 irrefl x:=by rw[Ag];exact Ps.wT x
 trans x y z h1 h2:=by rw[Ag]at*;exact Ps.FE h1 h2
 ntrans x y z h1 h2:=by
  rw[Ag]at*;rw[Lu,ne_eq,Ps.pZ]at*;omega
theorem ae6(x:Int)(w:World):Calls prog 76 #[.int .i64 x] w λe w'=>e=.returned (.bool false)/\w=w':=by
 have h:(x !=x)=false:=eG
 go_enter func76,ntmps76
 go_wp2;go_ret;exact⟨eG,rfl⟩
theorem ajL(x y:Int)(w:World):Calls prog 49 #[.int .i64 x,.int .i64 y] w λe w'=>e=.returned (.int .i64 (Vp x y))/\w'=w:=by
 unfold Vp;by_cases h1:x<y
 ·rw[dX h1]
  exact Q0
 ·rw[dW h1];by_cases h2:y<x
  ·rw[dX h2]
   exact Q0
  ·rw[dW h2]
   exact Q0
theorem agn(x y z:Int)(b:Nat)(w:World)(h0:w.cell? ⟨b,0,none⟩=some (.int .i64 x))(h1:w.cell? ⟨b,1,none⟩=some (.int .i64 y))(h2:w.cell? ⟨b,2,none⟩=some (.int .i64 z)):
 Calls prog 48 #[.slice (some ⟨b,0,none⟩) 3 3] w λe w'=>e=.returned (.int .i64 (or3 x y z))/\w=w':=by
 obtain⟨R,hR⟩:=eu (or3 x y z);rw[hR];have HR:=dY (show(if x≠0 then x else if y≠0 then y else z)=R from hR);clear hR
 go_enter func48,ntmps48
 go_wp2
 go_loop [8] (λis=>∃k:Nat,is=.int .i64 k/\k<=3/\Hid ((1<=k->x=0)/\(2<=k->y=0)/\(3<=k->z=0))) (λis=>3-(intOf is).toNat)
 case atStart=>exact⟨0,rfl,dS,dY ⟨dS,dS,dS⟩⟩
 case round=>
  obtain⟨k,rfl,hk,HX⟩:=hrel
  match k,hk with
  |0,_=>
   by_cases hz:x=0
   ·have b1:(x !=0)=false:=by simp[hz]
    have HZ:=dY hz;clear hz;go_wp2
    go_round
    case rel=>exact⟨1,rfl,dS,dY ⟨λ_=>HZ.out,dS,dS⟩⟩
    case measure=>simp[intOf]
   ·have b1:(x !=0)=true:=by simp[hz]
    have e:=HR.out;rw[dX hz]at e;have HZ:=dY e;clear e hz;go_wp2;go_ret;exact⟨by rw[HZ.out];rfl,rfl⟩
  |1,_=>
   have hx0:=HX.out.1 (eO _);have e:=HR.out;rw[dW (by simp[hx0])]at e;obtain⟨HE,HX0⟩:=fw e hx0;clear e hx0;by_cases hz:y=0
   ·have b1:(y !=0)=false:=by simp[hz]
    have HZ:=dY hz;clear hz;go_wp2
    go_round
    case rel=>exact⟨2,rfl,dS,dY ⟨λ_=>HX0.out,λ_=>HZ.out,dS⟩⟩
    case measure=>simp[intOf]
   ·have b1:(y !=0)=true:=by simp[hz]
    have e:=HE.out;rw[dX hz]at e;have HZ:=dY e;clear e hz;go_wp2;go_ret;exact⟨by rw[HZ.out];rfl,rfl⟩
  |2,_=>
   have hx0:=HX.out.1 dS;have hy0:=HX.out.2.1 (eO _);have e:=HR.out;rw[dW (by simp[hx0]),dW (by simp[hy0])]at e;obtain⟨HE,HX0,aa⟩:=je e hx0 hy0;clear e hx0 hy0;by_cases hz:z=0
   ·have b1:(z !=0)=false:=by simp[hz]
    have HZ:=dY hz;clear hz;go_wp2
    go_round
    case rel=>exact⟨3,rfl,dS,dY ⟨λ_=>HX0.out,λ_=>aa.out,λ_=>HZ.out⟩⟩
    case measure=>simp[intOf]
   ·have b1:(z !=0)=true:=by simp[hz]
    clear hz;go_wp2;go_ret;exact⟨by rw[HE.out];rfl,rfl⟩
  |3,_=>
   have hx0:=HX.out.1 dS;have hy0:=HX.out.2.1 dS;have hz0:=HX.out.2.2 (eO _);have e:=HR.out;rw[dW (by simp[hx0]),dW (by simp[hy0]),hz0]at e;have HE:=dY e;clear e hx0 hy0 hz0;go_wp2;go_ret;exact⟨by rw[<-HE.out];rfl,rfl⟩
theorem ajM{W:World}{n:Nat}{x y z:Value}{t:TypeId}(hn:n=W.heap.size):(W.alloc (.cells #[x,y,z] t)).cell? ⟨n,0,none⟩=some x:=by subst hn;rw[yJ];rfl
theorem ajN{W:World}{n:Nat}{x y z:Value}{t:TypeId}(hn:n=W.heap.size):(W.alloc (.cells #[x,y,z] t)).cell? ⟨n,1,none⟩=some y:=by subst hn;rw[yJ];rfl
theorem ajO{W:World}{n:Nat}{x y z:Value}{t:TypeId}(hn:n=W.heap.size):(W.alloc (.cells #[x,y,z] t)).cell? ⟨n,2,none⟩=some z:=by subst hn;rw[yJ];rfl
theorem agp(a b:Dg)(w:World):
 Calls prog 47 #[.agg (fK.cells a).toArray,.agg (fK.cells b).toArray] w λe w'=>e=.returned (.int .i64 (cpD a b))/\∃q os',w'=grow (w.drewN q) os':=by
 obtain⟨ac,af,at'⟩:=a;obtain⟨bc,bf,bt⟩:=b;show Calls prog 47 #[.agg #[.int .i64 (ac:Int),.int .i64 (af:Int),.int .i64 (at':Int)],.agg #[.int .i64 (bc:Int),.int .i64 (bf:Int),.int .i64 (bt:Int)]] w _;obtain⟨R,hR⟩:=eu (cpD ⟨ac,af,at'⟩ ⟨bc,bf,bt⟩);have hd:or3 (Vp af bf) (Vp at' bt) (Vp ac bc)=R:=hR;have HD:=dY hd;rw[hR];clear hd hR
 go_enter func47,ntmps47
 go_wp2_with fail
 refine ik 15 dV dV ?_;simp only[vJ,vT,xB,lM]
 repeat (go_big_quiet_step (exact(ajL _ _ _) _))
 refine LP ?_;obtain⟨x,hx⟩:=eu (Vp (af:Int) bf);obtain⟨y,hy⟩:=eu (Vp (at':Int) bt);obtain⟨z,hz⟩:=eu (Vp (ac:Int) bc);rw[hx,hy,hz]at HD;rw[hx,hy,hz];clear hx hy hz;have HO:=dY (λb W h0 h1 h2=>by have h:=agn x y z b W h0 h1 h2;rw[HD.out]at h;exact h);clear HD;go_wp2_with fail
 refine(HO.out _ _ ?c0 ?c1 ?c2).mono ?_
 case c0=>exact ajM eG
 case c1=>exact ajN eG
 case c2=>exact ajO eG
 rintro e w2 ⟨rfl,rfl⟩;go_wp2;go_ret;refine⟨rfl,?_⟩
 first
  |exact⟨0,_,Qi⟩
  |exact⟨1,_,Qi⟩
  |exact⟨2,_,Qi⟩
end
section
open Go.RowKit Go.Shelf Go.Sort
open Sq
open Fl
theorem Ns(d:Array Dg):(flatK fK.cells 3 d).toList=fK.all d.toList:=by
 refine r9 (λt=>?_);have hs:=size_flatK fK.cells 3 d;by_cases ht:t<d.size*3
 ·have h1:=get_flatK fK.cells 3 d t ht;have hj:t/3<d.size:=by omega
  have h2:=iJ fK d.toList (t/3) d[t/3] (by rw[IP,XG hj]) (t%3) (by show t%3<3;omega);have h2:(fK.all d.toList)[t/3*3+t%3]?=(fK.cells d[t/3])[t%3]?:=h2;rw[show t/3*3+t%3=t by omega]at h2;rw[h2,IP,XG (by rw[hs];exact ht)];rw[O6 _ t (by rw[hs];exact ht),O6 d (t/3) hj]at h1;rw[h1];have hl:(fK.cells d[t/3]).length=3:=fK.len _;rw[O6 _ (t%3) (by rw[hl];omega),fu (by rw[hl];omega)]
 ·rw[IP,ahD (by rw[hs];omega),sZ (by rw[lD];show d.toList.length*3<=t;rw[U6];omega)]
theorem adj(F c:Array Value)(h:F.size<=c.size):(putCells id 0 F c).toList.take F.size=F.toList:=by
 refine r9 (λt=>?_);by_cases ht:t<F.size
 ·rw[tu ht,IP,IP];unfold putCells;rw[Array.getElem?_mapIdx,XG (show t<c.size by omega),AB,dX ⟨fP _,dS⟩,Gn,O6 F t ht,XG ht];rfl
 ·rw[sZ nX,IP,ahD dS]
theorem UQ(w:World)(g m:Nat)(d:Array Dg)(os:Array Obj)(k:Nat)(hk:k<w.heap.size):
 (sortWorldK fK.cells 3 w g 0 m d os).heap[k]?=if g=k then(w.heap[k]?).map (onCells (putCells id 0 (flatK fK.cells 3 d)))else w.heap[k]?:=by
 show((w.heap.modify g (onCells (putCells id 0 (flatK fK.cells 3 d))))++os)[k]?=_;rw[Array.getElem?_append_left (by rw[Array.size_modify];exact hk),Array.getElem?_modify]
theorem adk(w:World)(g m:Nat)(d:Array Dg)(os:Array Obj):w.grownBy (sortWorldK fK.cells 3 w g 0 m d os) (some g) where
 os:=rfl
 tape:=rfl
 output:=rfl
 size:=by
  show w.heap.size<=((w.heap.modify g (onCells (putCells id 0 (flatK fK.cells 3 d))))++os).size;rw[Array.size_append,Array.size_modify];omega
 block:=λk hk hne=>by
  rw[UQ w g m d os k hk,dW (λe=>hne (by rw[e]))]
theorem OB{d d':Array Dg}(h:SortedIn (ltOf cpD) 0 d.size d')(hs:d'.size=d.size):d'.toList.Pairwise (λa b=>Ps.less b a=false):=by
 rw[XQ];intro i j hi hj hij;rw[U6]at hi hj;have h1:=h i j (fP _) hij dS;rw[Ag,O6 d' j hj,O6 d' i hi]at h1
 simpa using h1
def Sorted(w:World)(B:Nat)(dv:Value)(D:List Dg)(e:Ending)(w':World):Prop:=
 e=.returned dv/\∃D',D'.Perm D/\D'.Pairwise (λa b=>Ps.less b a=false)/\w'.ownsRow B 40 3 dv D'.length (fK.all D')/\w.grownBy w' dv.ownBlock
theorem SH(w:World)(r:Option Nat):w.grownBy w r:=⟨rfl,rfl,rfl,eO _,λ_ _ _=>rfl⟩
theorem agq(w:World)(B:Nat)(dv:Value)(D:List Dg)(h:w.ownsRow B 40 3 dv D.length (fK.all D))(hn:D.length<=1000000000000):
 Calls prog 26 #[dv] w (Sorted w B dv D):=by
 have key:Calls prog 46 #[dv,.func (.func 47) #[] #[]] w (λe w'=>e=.returned (.tuple #[])/\Sorted w B dv D (.returned dv) w'):=by
  rcases h.2 with⟨rfl,h0⟩|⟨g,cap,cur,rfl,hB,hg,hc1,hc2,hcs,htk⟩
  ·have hD:D=[]:=List.length_eq_zero_iff.1 h0;subst hD;have hcon:=AnyF.slices_SortFunc_none UH none 0 (.func (.func 47) #[] #[]) w
   change Calls prog 46 _ _ _ at hcon
   refine hcon.mono ?_;rintro e w' ⟨rfl,rfl⟩;exact⟨rfl,rfl,[],.refl _,.nil,h,SH _ _⟩
  ·have hlen:(flatK fK.cells 3 D.toArray).size=D.length*3:=by rw[size_flatK];simp
   have ae:(flatK fK.cells 3 D.toArray).toList=fK.all D:=by rw[Ns]
   have hle:D.length*3<=cur.size:=by rw[hcs];exact O4 3 hc1
   have hgl:g<w.heap.size:=by
    rcases mD g w.heap.size with h1|h1
    ·exact h1
    ·rw[ahD h1]at hg;cases hg
   have hH:HoldsK fK.cells 3 w g 0 D.toArray:=by
    intro j hj;rw[hlen]at hj;rw[jY];refine⟨?_,qc hg j⟩;have h1:w.cell? ⟨g,j,none⟩=cur[j]?:=fq hg j;rw[h1];have h2:cur[j]?=(fK.all D)[j]?:=by
     rw[<-htk,tu hj,IP]
    rw[h2,<-ae,IP,XG (by rw[hlen];exact hj),O6 _ j (by rw[hlen];exact hj)];rfl
   have eg:∀args w,(callFunc 47 args).run prog w=.ok (.enter 47 args) w:=enters_of func47 dV rfl;have hcon:=AnyQ.slices_SortFunc UH 3 isAgg40 sizeOf40 fK.cells (λx=>fK.len x) (λx v hv=>fK.one x v hv) cpD amg 47 #[] g 0 cap D.toArray w eg (λm os dk _ x y=>agp x y _) hH hgl eQ
   change Calls prog 46 _ _ _ at hcon
   have hsz:D.toArray.size=D.length:=eG
   rw[hsz]at hcon;refine hcon.mono ?_;rintro e w' ⟨rfl,d',m,os,hp,hs,rfl⟩;have hds:d'.size=D.length:=by rw[hp.1];simp
   refine⟨rfl,rfl,d'.toList,?_,?_,⟨by rw[lD];rfl,.inr ⟨g,cap,putCells id 0 (flatK fK.cells 3 d') cur,?_,hB,?_,?_,hc2,?_,?_⟩⟩,adk w g m d' os⟩
   ·have h3:=hp.2.2;rw[<-hsz]at h3;have e1:d'.extract 0 D.toArray.size=d':=by rw[hsz,<-hds];simp
    have e2:D.toArray.extract 0 D.toArray.size=D.toArray:=eG
    rw[e1,e2]at h3;exact h3
   ·exact OB (d:=D.toArray) (by rw[hsz];exact hs) (by rw[hsz];exact hds)
   ·rw[show d'.toList.length=D.length by rw[U6,hds]]
   ·rw[UQ w g m d' os g hgl,dX rfl,hg];rfl
   ·rw[U6,hds];exact hc1
   ·show(Array.mapIdx _ cur).size=_;rw[Array.size_mapIdx];exact hcs
   ·rw[U6];have hfs:(flatK fK.cells 3 d').size=d'.size*3:=size_flatK _ _ _;rw[<-hfs,adj _ _ (by rw[hfs,hds];exact hle),Ns]
 obtain⟨Q,hQ⟩:∃Q:World->Prop,(λw'=>Sorted w B dv D (.returned dv) w')=Q:=⟨_,rfl⟩
 have aa:Calls prog 46 #[dv,.func (.func 47) #[] #[]] w (λe w'=>e=.returned (.tuple #[])/\Q w'):=by
  rw[<-hQ];exact key
 have hR:(Sorted w B dv D)=λe w'=>e=.returned dv/\Q w':=by
  rw[<-hQ];funext e w';unfold Sorted;simp
 rw[hR];have HK:=dY aa;clear key aa hR hQ h hn
 go_enter func26,ntmps26
 go_wp2_with fail
 refine HK.out.mono ?_;rintro e w2 ⟨rfl,hq⟩;have HQ:=dY hq;clear hq HK;go_wp2;go_ret;exact⟨rfl,HQ.out⟩
end
section
open Go.RowKit
open Sg
open Sq
theorem agr(v:Value)(s:ByteArray)(w:World)(hv:qR w v s)(hT:oZ w):
 Calls prog 18 #[v] w (Gives (Sc.eH s) w):=by
 have hm:=hv.size_le;simp only[maxLen]at hm;have hln:=Sc.fM s;have hcv:=uq hv;obtain⟨a,cap,hsh⟩:∃a cap,v=.slice a s.size cap:=by
  rcases hv with⟨h1,h2⟩|⟨b,off,cap,h1,_⟩
  ·exact⟨none,0,by rw[h1,h2]⟩
  ·exact⟨_,_,h1⟩
 subst hsh;by_cases hlong:16384<s.size
 ·have hI:(16384:Int)<(s.size:Int):=by omega
  have hE:Sc.tokens (Sc.eH s)=[]:=by rw[Sc.pE,dX (by rw[hln];exact hlong)]
  have HD:=dY (show Gives (Sc.eH s) w (.returned (.slice none 0 0)) w from⟨_,rfl,by rw[hE];exact Pd w _ _ _,fD _ _⟩);clear hE hv hT hcv hln
  go_enter func18,ntmps18
  go_wp2_with fail
  go_ret;exact HD.out
 ·have hI:¬((16384:Int)<(s.size:Int)):=by omega
  obtain⟨ae,aa⟩:=eu (Sc.tokens (Sc.eH s));have hG0:Sc.wu (Sc.eH s) ae [] 0 (-1) 0:=⟨by rw[<-aa,Sc.pE,dW (by rw[hln];omega)];rfl,eO _,jk _,fP _⟩
  have hg1:0<w.heap.size:=lt_of_cell (hT.1 0 dU)
  have hg2:1<w.heap.size:=lt_of_cell (hT.2 0 dU).1
  obtain⟨ak,av,HT⟩:=je hG0 aa hT;clear hv hT hG0 aa
  go_enter func18,ntmps18
  go_wp2_with fail
  have hM0:Mem (w.alloc (.cells #[.string s,.slice none 0 0,.int .i64 0,.int .i64 0,.int .i64 0,.int .i64 0,.int .i64 0,.int .i64 (-1),.bool false] 67)) w.heap.size s (.slice none 0 0) (0:Nat) (0:Nat) (0:Nat) (0:Nat) 0 (-1) false:=lz w _;have ax:=dY hM0;clear hM0
  go_loopg [] s.size (λgf wr=>∃(v1:Value)(l1:List Tk)(p row en op:Nat)(base least:Int)(dash:Bool),Hid (Mem wr w.heap.size s v1 p row en op base least dash)/\Hid (Row wr w.heap.size v1 l1)/\Hid (Sc.wu (Sc.eH s) ae l1 op least p)/\Hid (Below w.heap.size w wr)/\p<=s.size/\s.size<=p+gf)
  case atStart=>exact⟨_,[],0,0,0,0,0,-1,false,ax,dY (Pd _ _ _ _),ak,dY (dZ w _),fP _,dS⟩
  case round=>
   obtain⟨v1,l1,p,row,en,op,base,least,dash,af,HOr,ag,ng,hps,hgf⟩:=hrel;obtain⟨c0,c1,c2,c3,c4,c5,c6,c7,c8⟩:=af.out.c;clear c3 c4 c5 c6 c7 c8 ax ak;by_cases hlt:p<s.size
   ·obtain⟨g',rfl⟩:∃g',gk=g'+1:=⟨gk-1,dS⟩
    have aA:(p:Int)<(s.size:Int):=dS
    have HR:=dY (ade w.heap.size s v1 p row en op base least dash l1 ae wr af.out HOr.out (HT.out.below ng.out) hg1 hg2 dS hlt ag.out);clear af HOr ag c1;go_wp2_with fail
    refine HR.out.mono ?_;rintro e w2 ⟨rfl,v2,l2,p2,ay,aB,aC,ai,ah,aj,hM2,hO2,hG2,hp1,hp2,hB2⟩;obtain⟨qx,xm,HG2,HB2⟩:=oK hM2 hO2 hG2 (ng.out.trans hB2);clear hM2 hO2 hG2 hB2 HR ng c0 c2;go_wp2_with fail
    go_roundg g'
    case measure=>omega
    case rel=>exact⟨v2,l2,p2,ay,aB,aC,ai,ah,aj,qx,xm,HG2,HB2,hp2,dS⟩
   ·have aA:¬((p:Int)<(s.size:Int)):=by omega
    have az:l1=ae:=by
     have h:=ag.out.tot;rw[Sc.drop_nil s p dS,Sc.xV,nJ]at h;exact h
    have HD:=dY (show Gives (Sc.eH s) w (.returned v1) wr from⟨v1,rfl,by rw[av.out,<-az];exact lK HOr.out (Vf _),ng.out⟩);clear az af HOr ag ng av;go_wp2_with fail
    go_ret;exact HD.out
end
namespace Rw
theorem EG(op k:Nat):Sc.opens op k<=op+1:=by
 unfold Sc.opens;split<;>(try split)<;>(try split)<;>omega
theorem UR(ts:List Tk):∀op,mZ op ts<=op+ts.length:=by
 induction ts with
 |nil=>intro op;exact eO _
 |cons x r ih=>
  intro op;have h1:=EG op x.1;have h2:=ih (Sc.opens op x.1);show mZ (Sc.opens op x.1) r<=_;rw[iR];omega
theorem WA(op:Nat)(ts:List Tk)(k:Nat)(x:Tk)(h:ts[k]?=some x):mZ op (ts.take (k+1))=Sc.opens (mZ op (ts.take k)) x.1:=by
 rw[Dq,h];exact Vu _ _ _
end Rw
section
open Go.RowKit
open Sg
open Sq
theorem grownBy_trans{a b c:World}{r:Option Nat}(h1:a.grownBy b r)(h2:b.grownBy c r):a.grownBy c r:=
 ⟨h2.os.trans h1.os,h2.tape.trans h1.tape,h2.output.trans h1.output,iU h1.size h2.size,λk hk hne=>(h2.block k (zx hk h1.size) hne).trans (h1.block k hk hne)⟩
theorem grownBy_set(W:World)(b:Nat)(v:Value):W.grownBy (W.setCell ⟨b,0,none⟩ v) (some b):=
 ⟨rfl,rfl,rfl,by simp[World.setCell],λk _ hk=>jo _ _ _ k (λe=>hk (by rw[e]))⟩
theorem qL{w wr:World}{p:Nat}{c:Value}{t:TypeId}(o:Obj)(hp:wr.heap[p]?=some (.cells #[c] t (0,0)))(hg:w.grownBy wr (some p)):
 (wr.alloc o).heap[p]?=some (.cells #[c] t (0,0))/\w.grownBy (wr.alloc o) (some p):=
 ⟨(I1 _ _ _ (gK hp)).trans hp,grownBy_trans hg (World.grownBy_alloc _ _ _)⟩
theorem Kv{w wr:World}{p:Nat}{c u:Value}{t:TypeId}(hp:wr.heap[p]?=some (.cells #[c] t (0,0)))(hg:w.grownBy wr (some p)):
 (wr.setCell ⟨p,0,none⟩ u).heap[p]?=some (.cells #[u] t (0,0))/\w.grownBy (wr.setCell ⟨p,0,none⟩ u) (some p):=
 ⟨Pj hp,grownBy_trans hg (grownBy_set _ _ _)⟩
theorem FR{w w':World}{p:Nat}{c v:Value}{t:TypeId}{ts:List Tk}(h:Reads iQ w v ts)(hp:w.heap[p]?=some (.cells #[c] t (0,0)))(hg:w.grownBy w' (some p)):Reads iQ w' v ts:=by
 rcases h with h|⟨b,off,cap,h1,h2,h3,h4⟩
 ·exact .inl h
 ·refine .inr ⟨b,off,cap,h1,h2,h3,λj x hj i u hu=>?_⟩;have hbp:b≠p:=by
   intro e;subst e;have:=h4 j x hj 1 _ rfl;simp[World.cell?,hp]at this
  exact hg.cell (h4 j x hj i u hu) (by simpa using hbp)
theorem WB(w:World):Calls prog 33 #[] w λe w'=>e=.returned (.func (.func 57) #[] #[.pointer (some ⟨w.heap.size,0,none⟩)])/\w'=w.alloc (.cells #[.int .i64 0] 3):=by
 have aa:∀(fn:Fn)(first cap:Array Value)(w:World),(Instr.makeFunc fn first cap).run prog w=.ok (.func fn first cap) w:=λ_ _ _ _=>rfl
 go_enter func33,ntmps33
 exact Ef
def E6(op:Nat)(ts:List Tk)(p:Nat)(w:World)(e:Ending)(w':World):Prop:=
 e=.returned (.bool (decide (0<op)))/\w'.heap[p]?=some (.cells #[.int .i64 (Rw.mZ op ts:Nat)] 3 (0,0))/\w.grownBy w' (some p)
theorem ags(v:Value)(ts:List Tk)(op p:Nat)(w:World)(h:Reads iQ w v ts)(hs:ts.length<=1000000)(hop:op<=1000000)(hp:w.heap[p]?=some (.cells #[.int .i64 op] 3 (0,0))):
 Calls prog 57 #[v,.pointer (some ⟨p,0,none⟩)] w (E6 op ts p w):=by
 obtain⟨a,cap,rfl⟩:=h.shape;have H:=dY (λW (hg:w.grownBy W (some p))=>FR h hp hg);have ai:=gK hp;have af:=dY hp;have cp:=jh hp;have HW:=dY (λe w'=>show(e=.returned (.bool (decide (0<op)))/\w'.heap[p]?=some (.cells #[.int .i64 (Rw.mZ op ts:Nat)] 3 (0,0))/\w.grownBy w' (some p))->E6 op ts p w e w' from λh=>h);obtain⟨Q,hQ⟩:=eu (E6 op ts p w);rw[hQ]at HW⊢
 have ag:=dY (λk=>show Rw.mZ op (ts.take k)<=op+k by
  have:=Rw.UR (ts.take k) op;have:=List.length_take_le k ts
  omega)
 have ah:=dY (Rw.WA op ts);have hall:Rw.mZ op (ts.take ts.length)=Rw.mZ op ts:=by rw[LJ]
 obtain⟨N,hN⟩:=eu (ts.length);have HN:=dY hN;rw[hN]at hs hall;have aa:=dY hall;rw[hN];clear h hN hp hQ hall
 go_enter func57,ntmps57
 go_wp2_with fail
 clear cp ai
 go_loopw [11] (λiv wr=>∃k:Nat,iv=.int .i64 k/\k<=N/\wr.heap[p]?=some (.cells #[.int .i64 (Rw.mZ op (ts.take k):Nat)] 3 (0,0))/\w.grownBy wr (some p)) (λiv _=>N-(intOf iv).toNat)
 case atStart=>exact⟨0,rfl,fP _,af.out,World.grownBy.refl _ _⟩
 case round=>
  obtain⟨k,rfl,hk,hp,hg⟩:=hrel;by_cases hlt:k<N
  ·obtain⟨x,hx⟩:∃x,ts[k]?=some x:=⟨_,fu sO⟩
   obtain⟨b,off,rfl,c0,c1,c2⟩:=iY (H.out wr hg) k x hx;have hi:(k:Int)<(N:Int):=dS
   have hst:=ah.out k x hx;have hle:=ag.out k;obtain⟨o,ho⟩:=eu (Rw.mZ op (ts.take k));rw[ho]at hp hst hle;have cp:=jh hp;have fp:=Dx hp;have hb:=qL (.cells #[.int .i64 x.1,.int .i64 x.2.1,.int .i64 x.2.2] 45) hp hg;have cp2:=jh hb.1;have fp2:=Dx hb.1;have hpl:=gK hp;have aj:=dY (λu (hu:u=Rw.mZ op (ts.take (k+1)))=>hu);have HB:=dY hb;have HP:=dY (show _/\_ from⟨hp,hg⟩);obtain⟨K,hK⟩:=eu (x.1);rw[hK]at hst c0 HB cp2 fp2;clear hx hp hg hb ag ah aa H HN af HW ho hK;by_cases q:K=8
   ·subst q;have HR:=dY (show Rw.mZ op (ts.take (k+1))=o+1 from hst);clear hst;go_wp2_with fail
    exact aah
   have g8:((K:Int)==8)=false:=eQ
   by_cases q2:K=9
   ·subst q2;have HR:=dY (show Rw.mZ op (ts.take (k+1))=o+1 from hst);clear hst q g8;go_wp2_with fail
    exact aah
   have g9:((K:Int)==9)=false:=eQ
   have hmx:max ((o:Int)-1) 0=((o-1:Nat):Int):=dS
   by_cases q3:K=10
   ·subst q3;have HR:=dY (show Rw.mZ op (ts.take (k+1))=o-1 from hst);clear hst q q2 g8 g9;go_wp2_with fail
    exact aag
   have g10:((K:Int)==10)=false:=eQ
   by_cases q4:K=11
   ·subst q4;have HR:=dY (show Rw.mZ op (ts.take (k+1))=o-1 from hst);clear hst q q2 q3 g8 g9 g10;go_wp2_with fail
    exact aag
   have g11:((K:Int)==11)=false:=eQ
   clear hmx;by_cases q5:K=20
   ·subst q5;have HR:=dY (show Rw.mZ op (ts.take (k+1))=0 from hst);clear hst q q2 q3 q4 g8 g9 g10 g11;go_wp2_with fail
    exact aaj
   have g20:((K:Int)==20)=false:=eQ
   by_cases q6:K=21
   ·subst q6;have HR:=dY (show Rw.mZ op (ts.take (k+1))=0 from hst);clear hst q q2 q3 q4 q5 g8 g9 g10 g11 g20;go_wp2_with fail
    exact aaj
   have g21:((K:Int)==21)=false:=eQ
   have ae:Sc.opens o K=o:=by unfold Sc.opens;rw[dW dS,dW dS,dW dS]
   rw[ae]at hst;have HR:=dY hst;clear hst ae q q2 q3 q4 q5 q6;go_wp2_with fail
   go_roundw
   case rel=>exact⟨k+1,fH,dS,by rw[HR.out];exact HB.out.1,HB.out.2⟩
   case measure=>simp[intOf];omega
  ·obtain rfl:k=N:=by omega
   have hne:¬((k:Int)<(k:Int)):=dS
   rw[aa.out]at hp;have HD:=dY (HW.out _ _ ⟨rfl,hp,hg⟩);clear hp hg hlt H ag ah aa HN af HW;go_wp2_with fail
   exact HD.out
end
section
open Go.RowKit
open Sg
open Sq
theorem agt{w:World}{B e size n:Nat}{v:Value}{xs:List Value}(h:w.ownsRow (B+1) e size v n xs):v.ownBlock=none\/v.ownBlock≠some B:=by
 right;intro e;have:=(h.lt _ e).1;omega
theorem own_ne{w:World}{B e size n:Nat}{v:Value}{xs:List Value}(h:w.ownsRow (B+1) e size v n xs):some B≠v.ownBlock:=λe=>by have:=(h.lt _ e.symm).1;omega
abbrev rowOf(op fr R:Nat)(row:List Tk):Rw.R:=⟨Rw.kindOf (decide (0<op)) row,fr,fr+R,Rw.vH row⟩
theorem ala(bv v:Value)(l:List Tk)(w:World)(h:Reads iQ w v l)(hs:l.length<=100000)(hf:∀x∈l,x.2.1<=1000000):
 Calls prog 19 #[bv,v] w (Rj (Rw.eF l) w):=by
 obtain⟨a,cap,rfl⟩:=h.shape;obtain⟨H,HF⟩:=fw h hf;have HC:=dY (λn (hn:n<=l.length)=>ag6 (P:=prog) tyT h hn);obtain⟨af,yN⟩:=fw (Rw.VA l) (Rw.VB l);have hat:Rw.jq 0 0 l=Rw.eF l:=rfl;obtain⟨Rs,hRs⟩:=eu (Rw.eF l);rw[hRs]at hat⊢;have HG:=dY (λe w'=>show(∃u,e=.returned u/\w'.ownsRow w.heap.size 61 4 u Rs.length (encR.all Rs)/\Below w.heap.size w w')->Rj Rs w e w' from λh=>h);obtain⟨Q,hQ⟩:=eu (Rj Rs w);rw[hQ]at HG⊢;obtain⟨N,hN⟩:=eu (l.length);have HN:=dY hN;rw[hN]at hs HC;have hcp:=h.wL;rw[hN]at hcp;unfold maxLen at hcp;rw[hN];have Ga:=dY hat;clear h hf hRs hN hQ hat
 go_enter func19,ntmps19
 go_wp2_with fail
 refine(WB w).mono ?_;rintro e w1 ⟨rfl,rfl⟩;go_wp2_with fail
 go_loopw [5,7] (λlv fv wr=>∃(fr op:Nat)(done:List Rw.R),fv=.int .i64 fr/\fr<=N/\op<=fr/\done.length<=fr/\Hid (done++Rw.jq op fr (l.drop fr)=Rs)/\wr.ownsRow (w.heap.size+1) 61 4 lv done.length (encR.all done)/\wr.heap[w.heap.size]?=some (.cells #[.int .i64 op] 3 (0,0))/\Below w.heap.size w wr) (λ_ fv _=>N-(intOf fv).toNat)
 case atStart=>
  exact⟨0,0,[],rfl,fP _,eO _,eO _,dY (by rw[XP,lM];exact Ga.out),kX encR _ _,lz w _,dZ w _⟩
 case round=>
  obtain⟨fr,op,done,rfl,hfr,hop,hdl,HE,hown,hp,hb⟩:=hrel;by_cases hlt:fr<N
  ·have hi:(fr:Int)<(N:Int):=by omega
   obtain⟨u,hu,Gq⟩:=HC.out fr dS;have hne:l.drop fr≠[]:=λe=>by have:=congrArg List.length e;rw[ky,HN.out]at this;simp at this;omega
   have aC:=Rw.oC _ hne;have hrl:=Rw.xJ (l.drop fr);rw[ky,HN.out]at hrl;have hF:=V3 u (l.drop fr) wr (Gq.below hb) (by rw[ky,HN.out];omega);have hst:=af.out op fr sO;have hfs:∀x∈(l.drop fr).take (Rw.jm (l.drop fr)),x.2.1<=1000000:=λx hx=>HF.out x (LG (Gl hx))
   have hlen:((l.drop fr).take (Rw.jm (l.drop fr))).length=Rw.jm (l.drop fr):=by rw[mX,ky,HN.out];omega
   obtain⟨row,hrow⟩:=eu ((l.drop fr).take (Rw.jm (l.drop fr)));rw[hrow]at hst hF hlen hfs;obtain⟨R,hR⟩:=eu (Rw.jm (l.drop fr));rw[hR]at hst hlen aC hrl;obtain⟨av,ax,aD,HLen,HO,HP⟩:=kG hF hst hfs hlen hown hp;have HB:=dY hb;have aF:fr+R<=N:=dS
   clear hF hst hfs hlen hown hp hb hrow hR hne Gq H HF HC af yN HN HG Ga;go_wp2_with fail
   refine av.out.mono ?_;rintro e w2 ⟨u2,rfl,hr2,hb2⟩;obtain⟨a2,cap2,rfl⟩:=hr2.shape;have hp2:=(hb2.block _ (gK HP.out)).trans HP.out;have hr2:=hr2.below hb2;have ag:=ags _ row op w.heap.size w2 hr2 nY dS hp2;rw[HLen.out]at ag;obtain⟨HR2,o9,HB2,ay⟩:=oK hr2 hp2 hb2 ag;rw[HLen.out];clear hr2 hp2 hb2 ag av;go_wp2_with fail
   refine ay.out.mono ?_;rintro e w3 ⟨rfl,hp3,hg3⟩;have hr3:=FR HR2.out o9.out hg3;have hk:=akO _ row (decide (0<op)) w3 hr3 nY (λe=>by have:=HLen.out;rw[e]at this;simp at this;omega);rw[HLen.out]at hk;obtain⟨HR3,PE,HG3,HK⟩:=oK hr3 hp3 hg3 hk;clear hr3 hp3 hg3 hk ay;go_wp2_with fail
   refine HK.out.mono ?_;rintro e w4 ⟨rfl,hb4⟩;have hr4:=HR3.out.below hb4;have hfi:=Rl _ row w4 hr4 nY;rw[HLen.out]at hfi;obtain⟨HR4,qQ,az⟩:=je hr4 hb4 hfi;clear hr4 hb4 hfi HK;go_wp2_with fail
   refine az.out.mono ?_;rintro e w5 ⟨rfl,hb5⟩;have aA:=HR4.out.below hb5;have hco:=Uk _ row (Rw.gJ row) w5 aA nY (Rw.KA row) aD.out;rw[HLen.out,Rw.V2]at hco;obtain⟨tY,uO⟩:=fw hb5 hco;clear aA hb5 hco az;have Bo:=dY (show encR.cells (rowOf op fr R row)=[.int .i64 (Rw.kindOf (decide (0<op)) row:Nat),.int .i64 fr,.int .i64 ((fr:Int)+(R:Int)),.int .i64 (Rw.vH row)]by simp[encR,abl]);go_wp2_with fail
   refine uO.out.mono ?_;rintro e w6 ⟨rfl,hb6⟩;have aa:=eD (eD qQ.out tY.out) hb6;have ho2:=eZ HO.out HB2.out;have ho3:=ho2.kept HG3.out (agt ho2);have aB:=eZ ho3 aa;have ah:=(aa.block _ (gK PE.out)).trans PE.out;have hsz:w.heap.size+1<=w6.heap.size:=gK ah;have hbx:Below w.heap.size w w6:=((HB.out.trans (HB2.out.mono HB.out.size)).grown HG3.out (iU HB.out.size HB2.out.size) (λk hk=>by injection hk with hk;omega)).trans (aa.mono (iU HB.out.size (iU HB2.out.size HG3.out.size)));obtain⟨ai,aj,tN,HS6⟩:=oK aB ah hbx hsz;clear hb6 aa ho2 ho3 aB ah hbx hsz HR2 HR3 HR4 HB2 qQ tY HG3 o9 PE HO HP HB uO;go_wp2_with (at_builtin;go_must (refine rD tyR rfl (.tmp 23) (.tmp 36) rfl (w.heap.size+1) _ done (rowOf op fr R row) _ Bo.out rfl ai.out rfl qV dS HS6.out ?_;intro v7 w7 ak ae))
   have ae:(w6.alloc (.cells #[.int .i64 (Rw.kindOf (decide (0<op)) row:Nat),.int .i64 fr,.int .i64 ((fr:Int)+(R:Int)),.int .i64 (Rw.vH row)] 61)).grownBy w7 (Value.ownBlock _):=ae;have aG:(done++[rowOf op fr R row]).length=done.length+1:=eG
   have hor:=own_ne ai.out
   go_roundw
   case rel=>
    refine⟨fr+R,Rw.mZ op row,done++[rowOf op fr R row],fH,aF,?_,dS,dY ?_,ak,?_,?_⟩
    ·have:=Rw.UR row op;have:=HLen.out;omega
    ·rw[pI,<-HE.out,ax.out];rfl
    ·refine(ae.block _ ?_ hor).trans ((I1 _ _ _ (gK aj.out)).trans aj.out);have:=gK aj.out;simp;omega
    ·refine(tN.out.alloc tN.out.size _).grown ae (by have:=tN.out.size;simp;omega) (λk hk=>?_);have:=(ai.out.lt k hk).1;omega
   case measure=>simp[intOf];omega
  ·obtain rfl:fr=N:=by omega
   have hne:¬((fr:Int)<(fr:Int)):=dS
   have hE:=HE.out;rw[yN.out op fr wD,nJ]at hE;subst hE;have HD:=dY (HG.out _ wr ⟨_,rfl,lK hown (Vf _),hb⟩);clear HE hown hp hb hlt H HF HC af yN HG HN Ga hdl;go_wp2_with fail
   exact HD.out
end
section
open Go.RowKit
open Sg
open Sq
open Ar
theorem lH{w:World}{a:Option Addr}{cap:Nat}{D:List Fl.Dg}(h:Reads fK w (.slice a D.length cap) D)(j:Nat)(x:Fl.Dg)(hx:D[j]?=some x):
 ∃b off,a=some ⟨b,off,none⟩/\w.cell? ⟨b,off+j*3,none⟩=some (.int .i64 (x.code:Int))/\w.cell? ⟨b,off+j*3+1,none⟩=some (.int .i64 (x.f:Int))/\w.cell? ⟨b,off+j*3+2,none⟩=some (.int .i64 (x.t:Int)):=by
 obtain⟨b,off,rfl,hat⟩:=h.at_ j x hx;exact⟨b,off,rfl,hat 0 _ rfl,hat 1 _ rfl,hat 2 _ rfl⟩
end
end Go.Proofs.YtmkkdjpebbdikaaGreatDoor

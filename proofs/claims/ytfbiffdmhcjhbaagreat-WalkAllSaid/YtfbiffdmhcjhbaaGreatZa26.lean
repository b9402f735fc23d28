import Derived.Test.YtfbiffdmhcjhbaaGreatZa23
import Derived.Laws.OwnMore
import Derived.Shelf.SlSorted.Search
import Derived.Shelf.Slices.Reverse
import Derived.Sort.OwnSortedInts
import Derived.Test.YtfbiffdmhcjhbaaGreatProg
set_option linter.all false
set_option maxHeartbeats 16000000
set_option maxRecDepth 100000
set_option synthInstance.maxSize 4000
set_option synthInstance.maxHeartbeats 0
namespace Go.Proofs.YtfbiffdmhcjhbaaGreat
open Go.RowKit Tryz
section
open Go.RowKit
open Sg
theorem Cj(n b off cap x0 x1 x2 x3:Nat)(w:World)(hm:n<=9223372036854775807)(l0:x0<256)(l1:x1<256)(l2:x2<256)(l3:x3<256)
 (h0:0<n->w.cell? ⟨b,off,none⟩=some (.int .u8 x0)) (h1:1<n->w.cell? ⟨b,off+1,none⟩=some (.int .u8 x1)) (h2:2<n->w.cell? ⟨b,off+2,none⟩=some (.int .u8 x2)) (h3:3<n->w.cell? ⟨b,off+3,none⟩=some (.int .u8 x3)):
 Calls prog 61 #[.slice (some ⟨b,off,none⟩) n cap] w λe w'=>e=.returned (.tuple #[.int .i32 (rO n x0 x1 x2 x3).1,.int .i64 (rO n x0 x1 x2 x3).2])/\w=w':=by
 by_cases hz:n=0
 ·subst hz;clear h0 h1 h2 h3;rw[Ef]
  go_enter func61,ntmps61
  go_wp2;go_ret2;exact⟨rfl,rfl⟩
 have hlt:(0:Int)<(n:Int):=by omega
 have hne:((n:Int)==0)=false:=by simp;omega
 have g0:=h0 (by omega);clear h0;have t2:=IL n x0 x1 x2 x3 (by omega);have t3:=AQ n x0 x1 x2 x3 (by omega);have t4:=Eg n x0 x1 x2 x3 (by omega);by_cases c1:x0<128
 ·rw[AP n x0 x1 x2 x3 (by omega) c1];clear h1 h2 h3 t2 t3 t4
  go_enter func61,ntmps61
  go_wp2;go_ret2;exact⟨rfl,rfl⟩
 by_cases c2:x0<192
 ·rw[zw n x0 x1 x2 x3 (by omega) (by omega) (by omega)];clear h1 h2 h3 t2 t3 t4
  go_enter func61,ntmps61
  go_wp2;go_ret2;exact⟨rfl,rfl⟩
 by_cases c3:x0<224
 ·rw[t2 (by omega) c3 l1];clear t2 t3 t4
  go_enter func61,ntmps61
  go_wp2_with fail
  refine(QW b off n cap ((x0:Int)%32) x1 w hm (by omega) (by omega) l1 h1).mono ?_;rintro e w' ⟨rfl,rfl⟩;go_wp2;go_ret2;rw[show((x0:Int)%32).toNat=x0%32 from by omega];exact⟨rfl,rfl⟩
 by_cases c4:x0<240
 ·rw[t3 (by omega) c4 l1 l2];clear t2 t3 t4
  go_enter func61,ntmps61
  go_wp2_with fail
  refine(QX b off n cap ((x0:Int)%16) x1 x2 w hm (by omega) (by omega) l1 l2 h1 h2).mono ?_;rintro e w' ⟨rfl,rfl⟩;go_wp2;go_ret2;rw[show((x0:Int)%16).toNat=x0%16 from by omega];exact⟨rfl,rfl⟩
 by_cases c5:x0<248
 ·rw[t4 (by omega) c5 l1 l2 l3];clear t2 t3 t4
  go_enter func61,ntmps61
  go_wp2_with fail
  refine(QY b off n cap ((x0:Int)%8) x1 x2 x3 w hm (by omega) (by omega) l1 l2 l3 h1 h2 h3).mono ?_;rintro e w' ⟨rfl,rfl⟩;go_wp2;go_ret2;rw[show((x0:Int)%8).toNat=x0%8 from by omega];exact⟨rfl,rfl⟩
 rw[zw n x0 x1 x2 x3 (by omega) (by omega) (by omega)];clear h1 h2 h3 t2 t3 t4
 go_enter func61,ntmps61
 go_wp2;go_ret2;exact⟨rfl,rfl⟩
theorem Nu(s:ByteArray)(n b off cap:Nat)(w:World)(hn:s.size=n)(hm:n<=9223372036854775807)(hp:∀j,j<n->w.cell? ⟨b,off+j,none⟩=some (.int .u8 (s.get! j).toNat)):
 Calls prog 61 #[.slice (some ⟨b,off,none⟩) n cap] w λe w'=>e=.returned (.tuple #[.int .i32 (nx s 0).1,.int .i64 (nx s 0).2])/\w=w':=by
 have h:=Cj n b off cap (s.get! 0).toNat (s.get! 1).toNat (s.get! 2).toNat (s.get! 3).toNat w hm (s.get! 0).toNat_lt (s.get! 1).toNat_lt (s.get! 2).toNat_lt (s.get! 3).toNat_lt (hp 0) (hp 1) (hp 2) (hp 3)
 simpa only[nx,hn,Nat.sub_zero,j5]using h
end
section
open Go.RowKit
open Sg
theorem G7(s:ByteArray)(b off cap:Nat)(w:World)(hm:s.size<=1000000)(hcap:s.size<=cap)(hcm:cap<=maxLen)(hp:∀j,j<s.size->w.cell? ⟨b,off+j,none⟩=some (.int .u8 (s.get! j).toNat)):
 Calls prog 50 #[.slice (some ⟨b,off,none⟩) s.size cap] w λe w'=>∃v,e=.returned v/\w'.ownsRow w.heap.size 3 1 v (bad s).length (places (bad s))/\Below w.heap.size w w':=by
 obtain⟨i0,hi,hz0,hz1,hz2⟩:=FI EA;have hm2:s.size<=9223372036854775807:=by omega
 simp only[maxLen]at hcm
 go_enter func50,ntmps50
 go_wp2
 go_loopg [3,4] s.size (λgf v at' wr=>∃(pos:Nat)(acc:List Nat),at'=.int .i64 pos/\wr.ownsRow w.heap.size 3 1 v acc.length (places acc)/\Below w.heap.size w wr/\acc++mH s gf pos=bad s/\s.size<=pos+gf/\acc.length<=pos/\pos<=s.size)
 case atStart=>exact⟨0,[],rfl,Cy _ _ _ _,fu _ w,by simp[bad],by omega,fC _,gG _⟩
 case round=>
  obtain⟨pos,acc,rfl,hown,hb,hc,hf,ha,hps⟩:=hrel;by_cases hlt:pos<s.size
  ·obtain⟨g',rfl⟩:∃g',gk=g'+1:=⟨gk-1,by omega⟩
   have hwd:=O8 s pos hlt;have hwn:=QJ s pos hlt;have hlo:=QI s pos;rw[FT s g' pos hlt]at hc;have ae:nx (s.extract pos s.size) 0=nx s pos:=by rw[Mh,sO]
   obtain⟨K,hK⟩:=eX ((nx s pos).2);obtain⟨X,hX⟩:=eX ((nx s pos).1);rw[hX]at hlo hc;rw[hK]at hwd hwn hc
   have hN:=Nu (s.extract pos s.size) (s.size-pos) b (off+pos) (cap-pos) wr (Lib.tail_size s pos) (by omega) (λj hj=>by
    have hc0:=hp (pos+j) (by omega);have hblt:b<w.heap.size:=lt_of_cell hc0
    rw[Lib.tail_get!,hb.cell (p:=⟨b,off+pos+j,none⟩) hblt,<-hc0,LQ])
   rw[ae,hK,hX]at hN;obtain⟨HN,HC⟩:=fD hN hc;have hpi:(pos:Int)<=(cap:Int):=by omega
   have hpi2:(pos:Int)<(s.size:Int):=by omega
   clear hK hX hc hN ae hp;by_cases hx:X<0
   ·go_wp2_with fail
    refine HN.out.mono ?_;rintro e W1 ⟨rfl,rfl⟩;go_wp2_with (at_builtin;go_must (refine Ie _ rfl (.tmp 20) (.tmp 22) 22 rfl w.heap.size 3 i0 (.int .i64 0) 1 8 underlying22 hi hz0 hz1 hz2 rfl (by decide) _ _ _ rfl (hown.alloc _) ⟨wr.heap.size,0,none⟩ 1 1 [.int .i64 (pos:Int)] rfl rfl (cell_one_new _ _ _) (by intro u hu;simp at hu;subst hu;rfl) (by unfold maxLen;omega) (by omega) (by have:=hb.size;simp;omega) ?_;intro v3 w3 aa hgrow hnil))
    go_roundg g'
    case measure=>omega
    case rel=>
     have hX:=hown.alloc (.cells #[.int .i64 (pos:Int)] 3);have hc:=HC.out;rw[eT hx,<-lT]at hc;refine⟨pos+K,acc++[pos],by go_num,?_,?_,hc,by omega,by simp;omega,hwn⟩
     ·rw[ig,vo];exact aa
     exact(hb.alloc hb.size _).grown hgrow (by have:=hb.size;simp;omega) (λj hj=>(hX.lt j hj).1)
   go_wp2_with fail
   refine HN.out.mono ?_;rintro e W1 ⟨rfl,rfl⟩;go_wp2
   go_roundg g'
   case measure=>omega
   case rel=>
    have hc:=HC.out;rw[eQ (by omega)]at hc;exact⟨pos+K,acc,by go_num,hown,hb,hc,by omega,by omega,hwn⟩
  have hge:¬((pos:Int)<(s.size:Int)):=by omega
  rw[AR s gk pos hlt,kH]at hc;subst hc;go_wp2;go_ret;exact⟨_,rfl,hown,hb⟩
theorem DV(w:World):
 Calls prog 50 #[.slice none 0 0] w λe w'=>∃v,e=.returned v/\w'.ownsRow w.heap.size 3 1 v 0 []/\Below w.heap.size w w':=by
 go_enter func50,ntmps50
 go_wp2;refine pz 1 ?_;rw[jI];go_wp2;go_ret;exact⟨_,rfl,Cy _ _ _ _,fu _ w⟩
theorem PU(s:ByteArray)(v:Value)(w:World)(h:ou w v s)(hm:s.size<=1000000):
 Calls prog 50 #[v] w λe w'=>∃v,e=.returned v/\w'.ownsRow w.heap.size 3 1 v (bad s).length (places (bad s))/\Below w.heap.size w w':=by
 rcases h with⟨rfl,h⟩|⟨b,off,cap,rfl,h2,h3,h4⟩
 ·have e:bad s=[]:=AR s _ _ (by omega);rw[e];exact DV w
 exact G7 s b off cap w hm h2 h3 h4
end
section
open Rw (Tk)
theorem rC:∀(f op at':Nat)(l:List Tk),(Rw.jf f op at' l).length<=f
 |0,_,_,_=>gG _
 |f+1,op,at',l=>by
  rw[Rw.jf];by_cases hl:l=[]
  ·rw[eT hl];exact gG _
  rw[eQ hl,gy];have:=rC f;exact Nat.succ_le_succ (this _ _ _)
theorem ze(l:List Tk):(Rw.fE l).length<=l.length:=rC _ _ _ _
end
namespace Wk
open Ar
theorem AM{l:List Nd}{n:Int}(h:Ck l n){i:Nat}{x:Nd}(hi:0<i)(hx:l[i]?=some x):
 ∃(j:Nat)(p:Nd),x.u=(j:Int)/\j<i/\l[j]?=some p/\(i:Int)∈p.ks/\p.f<=x.f/\x.f<=x.t/\x.t<=p.t:=by
 have hl:=(fT.1 hx).1;have hs:=h.seen i hi hl;have hm:(i:Int)∈l.flatMap (·.ks):=by
  have h0:0<(l.flatMap (·.ks)).countP (λz=>z==(i:Int)):=by omega
  obtain⟨z,hz,e⟩:=Qi.1 h0;have e:z=(i:Int):=by simpa using e
  rw[<-e];exact hz
 obtain⟨p,hp,hk⟩:=Oy.1 hm;obtain⟨j,hj⟩:=rT hp;obtain⟨i',y,e1,e2,e3,e4,e5,e6,e7⟩:=h.kid j p hj _ hk;obtain rfl:i=i':=by omega
 rw[hx]at e3;injection e3 with e3
 subst e3;have hu:=h.up i x hi hx;exact⟨j,p,e4,by omega,hj,hk,e5,e6,e7.elim id False.elim⟩
theorem all_in{l:List Nd}{n:Int}(h:Ck l n):∀(i:Nat)(x:Nd),l[i]?=some x->0<=x.f/\x.f<=x.t/\x.t<=n:=by
 intro i
 induction i using Nat.strongRecOn with
 |ind i ih=>
  intro x hx;rcases FD i with rfl|hi
  ·obtain⟨x',r,rfl,h1,h2,h3,h4,h5⟩:=h.first;obtain rfl:x'=x:=by simpa using hx
   exact⟨by omega,by omega,by omega⟩
  obtain⟨j,p,e1,e2,e3,e4,e5,e6,e7⟩:=AM h hi hx;have:=ih j e2 p e3;exact⟨by omega,e6,by omega⟩
def kI(x:Nd)(k:Int):Bool:=decide (x.f<=k)&&decide (k<x.t)
def jM(l:List Nd)(k:Int):Nat->Int
 |0=>-1
 |j+1=>match l[j]? with
  |some x=>if kI x k=true then(j:Int)else jM l k j
  |none=>jM l k j
theorem zf{l:List Nd}{k:Int}{j:Nat}{x:Nd}(h:l[j]?=some x):jM l k (j+1)=if kI x k=true then(j:Int)else jM l k j:=by
 rw[jM,h]
theorem Fg(l:List Nd)(k:Int):∀j,(jM l k j=-1/\∀(i:Nat)(x:Nd),i<j->l[i]?=some x->kI x k=false)\/
 ∃(m:Nat)(y:Nd),jM l k j=(m:Int)/\m<j/\l[m]?=some y/\kI y k=true/\∀(i:Nat)(x:Nd),m<i->i<j->l[i]?=some x->kI x k=false
 |0=>.inl ⟨rfl,λi x h=>absurd h (uY _)⟩
 |j+1=>by
  have ih:=Fg l k j;cases hx:l[j]? with
  |none=>
   have e:jM l k (j+1)=jM l k j:=by rw[jM,hx]
   rw[e];rcases ih with⟨h1,h2⟩|⟨m,y,h1,h2,h3,h4,h5⟩
   ·refine .inl ⟨h1,λi x hi hix=>?_⟩;by_cases e:i=j
    ·subst e;rw[hx]at hix;cases hix
    exact h2 i x (by omega) hix
   refine .inr ⟨m,y,h1,by omega,h3,h4,λi x hm hi hix=>?_⟩;by_cases e:i=j
   ·subst e;rw[hx]at hix;cases hix
   exact h5 i x hm (by omega) hix
  |some z=>
   rw[zf hx];by_cases hz:kI z k=true
   ·rw[eT hz];exact .inr ⟨j,z,rfl,by omega,hx,hz,λi x hm hi=>by omega⟩
   rw[eQ hz];have hz':kI z k=false:=by simpa using hz
   rcases ih with⟨h1,h2⟩|⟨m,y,h1,h2,h3,h4,h5⟩
   ·refine .inl ⟨h1,λi x hi hix=>?_⟩;by_cases e:i=j
    ·subst e;rw[hx]at hix;injection hix with hix;subst hix;exact hz'
    exact h2 i x (by omega) hix
   refine .inr ⟨m,y,h1,by omega,h3,h4,λi x hm hi hix=>?_⟩;by_cases e:i=j
   ·subst e;rw[hx]at hix;injection hix with hix;subst hix;exact hz'
   exact h5 i x hm (by omega) hix
def rY(l:List Nd):Nat->Int->List Int
 |0,_=>[]
 |f+1,k=>if k<0 then[]else match l[k.toNat]? with
  |none=>[]
  |some x=>k::rY l f x.u
theorem BH{l:List Nd}(hg:bu l):∀(f g:Nat)(k:Int),k<f->k<g->rY l f k=rY l g k
 |0,0,k=>λ_ _=>rfl
 |0,g+1,k=>λh1 _=>by rw[rY,rY,eT (by omega)]
 |f+1,0,k=>λ_ h2=>by rw[rY,rY,eT (by omega)]
 |f+1,g+1,k=>λh1 h2=>by
  rw[rY,rY];by_cases hk:k<0
  ·rw[eT hk,eT hk]
  rw[eQ hk,eQ hk];cases hx:l[k.toNat]? with
  |none=>rfl
  |some x=>
   have:=hg.up k.toNat x hx;dsimp only;rw[BH hg f g x.u (by omega) (by omega)]
def kW(l:List Nd)(k:Int):List Int:=rY l l.length k
theorem xh{l:List Nd}{k:Int}(h:k<0):kW l k=[]:=by
 unfold kW;cases l.length with
 |zero=>rfl
 |succ f=>rw[rY,eT h]
theorem BI{l:List Nd}(hg:bu l){k:Nat}{x:Nd}(h:l[k]?=some x):kW l k=(k:Int)::kW l x.u:=by
 have hl:=(fT.1 h).1;have hu:=hg.up k x h;unfold kW;obtain⟨f,hf⟩:∃f,l.length=f+1:=⟨l.length-1,by omega⟩
 rw[hf,rY,eQ (by omega),iE,h];dsimp only;rw[BH hg f (f+1) x.u (by omega) (by omega)]
def pre(l:List Nd):Nat->Int->List Int
 |0,_=>[]
 |f+1,k=>match l[k.toNat]? with
  |none=>[]
  |some x=>k::x.ks.flatMap (pre l f)
inductive It where
 |one (k:Int)
 |row (ks:List Int)
end Wk
namespace Wk
open Ar
theorem BJ{l:List Nd}(hK:∀(i:Nat)(x:Nd),l[i]?=some x->∀z∈x.ks,(i:Int)<z):∀(f g:Nat)(k:Int),0<=k->l.length<=k.toNat+f->l.length<=k.toNat+g->pre l f k=pre l g k
 |0,0,k=>λ_ _ _=>rfl
 |0,g+1,k=>λ_ h1 _=>by rw[pre,pre,uV (by omega)]
 |f+1,0,k=>λ_ _ h2=>by rw[pre,pre,uV (by omega)]
 |f+1,g+1,k=>λh0 h1 h2=>by
  rw[pre,pre];cases hx:l[k.toNat]? with
  |none=>rfl
  |some x=>
   dsimp only;congr 1;have key:∀ks:List Int,(∀z∈ks,(k.toNat:Int)<z)->ks.flatMap (pre l f)=ks.flatMap (pre l g):=by
    intro ks
    induction ks with
    |nil=>intro _;rfl
    |cons z r ih=>
     intro hz;have h3:=hz z Ox;rw[nN,nN,ih (λy hy=>hz y (Ow _ hy)),BJ hK f g z (by omega) (by omega) (by omega)]
   exact key x.ks (hK _ x hx)
def my(l:List Nd)(k:Int):List Int:=pre l l.length k
theorem Nv{l:List Nd}{n:Int}(h:Ck l n):∀(i:Nat)(x:Nd),l[i]?=some x->∀z∈x.ks,(i:Int)<z:=λi x hx z hz=>by
 obtain⟨j,y,e1,e2,e3,e4,_⟩:=h.kid i x hx z hz;have:=h.up j y e2 e3;omega
theorem pre_some{l:List Nd}{n:Int}(h:Ck l n){k:Nat}{x:Nd}(hx:l[k]?=some x):my l k=(k:Int)::x.ks.flatMap (my l):=by
 have hl:=(fT.1 hx).1;have hK:=Nv h;unfold my;obtain⟨f,hf⟩:∃f,l.length=f+1:=⟨l.length-1,by omega⟩
 rw[hf,pre,iE,hx];dsimp only;congr 1;have key:∀ks:List Int,(∀z∈ks,(k:Int)<z)->ks.flatMap (pre l f)=ks.flatMap (pre l (f+1)):=by
  intro ks
  induction ks with
  |nil=>intro _;rfl
  |cons z r ih=>
   intro hz;have h3:=hz z Ox;rw[nN,nN,ih (λy hy=>hz y (Ow _ hy)),BJ hK f (f+1) z (by omega) (by omega) (by omega)]
 exact key x.ks (hK k x hx)
def RI(l:List Nd):It->List Int
 | .one k=>my l k
 | .row ks=>ks.flatMap (my l)
def Qd:It->List Int
 | .one k=>[k]
 | .row ks=>ks
structure Ord(l:List Nd)(O:List Int)(st:List It):Prop where
 pre:O++st.flatMap (RI l)=my l 0
 cnt:∀(i:Nat)(y:Nd),l[i]?=some y->(O++st.flatMap Qd).count (i:Int)=if i=0\/y.u∈O then 1 else 0
 Oh:∀k∈O++st.flatMap Qd,∃i:Nat,k=(i:Int)/\i<l.length
 AF:∀A k B,O=A++k::B->k≠0->∀x,l[k.toNat]?=some x->x.u∈A
theorem Ord.start{l:List Nd}{n:Int}(h:Ck l n):Ord l [] [.one 0]:=by
 refine⟨by simp[RI],λi y hy=>?_,λk hk=>?_,λA k B e=>?_⟩
 ·show[(0:Int)].count (i:Int)=_;rw[Qk];by_cases h0:i=0
  ·subst h0;rfl
  have h1:(0:Int)≠(i:Int):=by omega
  simp[h0,h1]
 ·have hk:k∈[(0:Int)]:=hk;obtain rfl:=sN.1 hk;exact⟨0,rfl,h.pos⟩
 simp at e
theorem G8{l:List Nd}{n:Int}(h:Ck l n){i j:Nat}{x y:Nd}(hx:l[i]?=some x)(hy:l[j]?=some y):x.ks.count (j:Int)=if 0<j/\y.u=(i:Int)then 1 else 0:=by
 have hnd:x.ks.Nodup:=(h.ord i x hx).imp (fun{a b} hab e=>by have:=hab.1;omega);by_cases hm:(j:Int)∈x.ks
 ·obtain⟨j',y',e1,e2,e3,e4,_⟩:=h.kid i x hx _ hm;obtain rfl:j=j':=by omega
  rw[hy]at e3;injection e3 with e3
  subst e3;rw[eT ⟨e2,e4⟩];have h1:=OC.1 hnd (j:Int);have h2:=Fy.2 hm;omega
 rw[Hu.2 hm,eQ];rintro⟨h0,hu⟩;obtain⟨j',p,e1,e2,e3,e4,_⟩:=AM h h0 hy;obtain rfl:i=j':=by omega
 rw[hx]at e3;injection e3 with e3
 subst e3;exact hm e4
theorem Ord.fresh{l:List Nd}{O:List Int}{st:List It}{i:Nat}{x:Nd}(hx:l[i]?=some x)(hO:Ord l O (.one i::st)):(i:Int)∉O/\(i≠0->x.u∈O):=by
 have h1:=hO.cnt i x hx;rw[nN,Fw,Fw]at h1;have h2:(Qd (.one (i:Int))).count (i:Int)=1:=by show[(i:Int)].count (i:Int)=1;rw[Qk];simp
 rw[h2]at h1;refine⟨λhm=>?_,λh0=>?_⟩
 ·have:=Fy.2 hm;split at h1<;>omega
 by_cases hu:x.u∈O
 ·exact hu
 rw[eQ (λh=>h.elim h0 hu)]at h1;omega
theorem Ord.tell{l:List Nd}{n:Int}(h:Ck l n){O:List Int}{st:List It}{i:Nat}{x:Nd}(hx:l[i]?=some x)(hO:Ord l O (.one i::st)):Ord l (O++[(i:Int)]) (.row x.ks::st):=by
 obtain⟨f1,f2⟩:=hO.fresh hx;have hl:=(fT.1 hx).1;refine⟨?_,λj y hy=>?_,λk hk=>?_,λA k B e hk z hz=>?_⟩
 ·have:=hO.pre;rw[nN]at this⊢;rw[<-this];show _=O++(my l (i:Int)++_)
  rw[pre_some h hx];show O++[(i:Int)]++(x.ks.flatMap (my l)++_)=_;simp
 ·have h1:=hO.cnt j y hy;have h2:=G8 h hx hy;rw[nN,Fw,Fw]at h1⊢;rw[Fw];have h3:(Qd (.row x.ks)).count (j:Int)=x.ks.count (j:Int):=rfl;have h4:(Qd (.one (i:Int))).count (j:Int)=[(i:Int)].count (j:Int):=rfl;rw[h3];rw[h4]at h1;by_cases hj0:j=0
  ·rw[eQ (λh=>by omega)]at h2;rw[eT (.inl hj0)]at h1;rw[eT (.inl hj0)];omega
  by_cases hu:y.u=(i:Int)
  ·have hn:y.u∉O:=by rw[hu];exact f1
   rw[eT ⟨by omega,hu⟩]at h2;rw[eQ (λh=>h.elim hj0 hn)]at h1;rw[eT (.inr (by rw[hu];exact H7 _ (sN.2 rfl)))];omega
  rw[eQ (λh=>hu h.2)]at h2;have e:(j=0\/y.u∈O++[(i:Int)])↔(j=0\/y.u∈O):=by
   rw[kS,sN];constructor
   ·rintro(h|h|h)
    ·exact .inl h
    ·exact .inr h
    exact absurd h hu
   rintro(h|h)
   ·exact .inl h
   exact .inr (.inl h)
  by_cases hc:j=0\/y.u∈O
  ·rw[eT hc]at h1;rw[eT (e.2 hc)];omega
  rw[eQ hc]at h1;rw[eQ (λh=>hc (e.1 h))];omega
 ·rw[nN,kS,kS,kS]at hk;rcases hk with(hk|hk)|hk|hk
  ·exact hO.Oh k (H6 _ hk)
  ·obtain rfl:=sN.1 hk;exact⟨i,rfl,hl⟩
  ·obtain⟨j,y,e1,e2,e3,_⟩:=h.kid i x hx k hk;exact⟨j,e1,(fT.1 e3).1⟩
  exact hO.Oh k (H7 _ (by rw[nN];exact H7 _ hk))
 rcases Oo B with rfl|⟨B',b,rfl⟩
 ·have e2:O++[(i:Int)]=A++[k]:=e;obtain⟨e3,e4⟩:=Lx e2 rfl;injection e4 with e4
  subst e3 e4;rw[iE,hx]at hz;injection hz with hz
  subst hz;exact f2 (by omega)
 have e2:O++[(i:Int)]=(A++k::B')++[b]:=by rw[e];simp
 obtain⟨e3,e4⟩:=Lx e2 rfl;exact hO.AF A k B' e3 hk z hz
theorem Ord.drop{l:List Nd}{O:List Int}{st:List It}(hO:Ord l O (.row []::st)):Ord l O st:=⟨hO.pre,hO.cnt,hO.Oh,hO.AF⟩
theorem Ord.next{l:List Nd}{O ks:List Int}{st:List It}{z:Int}(hO:Ord l O (.row (z::ks)::st)):Ord l O (.one z::.row ks::st):=by
 refine⟨?_,hO.cnt,hO.Oh,hO.AF⟩;have:=hO.pre;rw[nN]at this⊢;rw[<-this,nN];show O++(my l z++(ks.flatMap (my l)++_))=O++((z::ks).flatMap (my l)++_)
 rw[nN,lT]
structure All(l:List Nd)(O:List Int):Prop where
 is:O=my l 0
 perm:O.Perm ((List.range l.length).map (fun(i:Nat)=>(i:Int)))
 AF:∀A k B,O=A++k::B->k≠0->∀x,l[k.toNat]?=some x->x.u∈A
theorem Ord.done{l:List Nd}{n:Int}(h:Ck l n){O:List Int}(hO:Ord l O []):All l O:=by
 have hm:∀(i:Nat)(y:Nd),l[i]?=some y->O.count (i:Int)=1:=by
  intro i
  induction i using Nat.strongRecOn with
  |ind i ih=>
   intro y hy;have h1:=hO.cnt i y hy;rw[Fz,kH]at h1;rw[h1,eT];rcases FD i with h0|h0
   ·exact .inl h0
   obtain⟨j,p,e1,e2,e3,_⟩:=AM h h0 hy;have:=ih j e2 p e3;exact .inr (by rw[e1];exact Fy.1 (by omega))
 refine⟨?_,?_,hO.AF⟩
 ·have:=hO.pre;rw[Fz,kH]at this;exact this
 rw[Qu];intro a;have hnd:((List.range l.length).map (fun(i:Nat)=>(i:Int))).Nodup:=by
  rw[Qs,List.pairwise_map];exact List.nodup_range.imp (fun{a b} hab e=>hab (by omega))
 by_cases ha:∃i:Nat,a=(i:Int)/\i<l.length
 ·obtain⟨i,rfl,hi⟩:=ha;have hx:l[i]?=some l[i]:=lU hi;rw[hm i _ hx];have h1:=OC.1 hnd (i:Int);have h2:0<((List.range l.length).map (fun(i:Nat)=>(i:Int))).count (i:Int):=Fy.2 (vP.2 ⟨i,OB.2 hi,rfl⟩)
  omega
 rw[Hu.2 (λhm=>ha (hO.Oh a (H6 _ hm))),Hu.2 (λhm=>ha (by
  obtain⟨i,hi,rfl⟩:=vP.1 hm
  exact⟨i,rfl,OB.1 hi⟩))]
def zX(l:List Nd)(k:Int):Nat:=match l[k.toNat]? with
 |some x=>x.ks.length
 |none=>0
def Lp(l:List Nd)(k:Int):Nat:=((my l k).map (λm=>2*zX l m+3)).sum
def RU(l:List Nd):It->Nat
 | .one k=>Lp l k+1
 | .row ks=>2*ks.length+1+(ks.map (Lp l)).sum
def stM(l:List Nd)(st:List It):Nat:=(st.map (RU l)).sum
theorem KJ{l:List Nd}{n:Int}(h:Ck l n){k:Nat}{x:Nd}(hx:l[k]?=some x):Lp l k=2*x.ks.length+3+(x.ks.map (Lp l)).sum:=by
 unfold Lp;rw[pre_some h hx,qi,zi];have e:zX l (k:Int)=x.ks.length:=by unfold zX;rw[iE,hx]
 rw[e];congr 1
 induction x.ks with
 |nil=>rfl
 |cons z r ih=>
  rw[nN,Cu,List.sum_append,ih,qi,zi]
theorem KM{l:List Nd}{n:Int}(h:Ck l n){k:Nat}{x:Nd}(hx:l[k]?=some x)(st:List It):stM l (.row x.ks::st)<stM l (.one k::st):=by
 unfold stM;rw[qi,qi,zi,zi];show 2*x.ks.length+1+(x.ks.map (Lp l)).sum+_<Lp l k+1+_
 rw[KJ h hx];omega
theorem KS(l:List Nd)(st:List It):stM l st<stM l (.row []::st):=by
 unfold stM;rw[qi,zi];show _<2*0+1+0+_
 omega
theorem KT(l:List Nd)(z:Int)(ks:List Int)(st:List It):stM l (.one z::.row ks::st)<stM l (.row (z::ks)::st):=by
 unfold stM;rw[qi,qi,qi,zi,zi,zi];show Lp l z+1+(2*ks.length+1+(ks.map (Lp l)).sum+_)<2*(z::ks).length+1+((z::ks).map (Lp l)).sum+_
 rw[gy,qi,zi];omega
end Wk
section
open Go.Shelf Go.RowKit
def vD:Go.Shelf.Ren:=⟨fun|16=>52|n=>n,fun|3=>3|4=>4|35=>82|38=>118|n=>n,λn=>n⟩
theorem Nw:SlLaysO.n16 prog vD:={
 mixed:=by kernel_rfl,
 f16:=RF func52 (by kernel_rfl),
 t3:=underlying3,
 a3:=isAgg3,
 z3:=sizeOf3,
 v3:=zeroValue3,
 t4:=underlying4,
 a4:=isAgg4,
 z4:=sizeOf4,
 v4:=zeroValue4,
 t35:=underlying82,
 a35:=isAgg82,
 z35:=sizeOf82,
 v35:=zeroValue82,
 t38:=underlying118,
 a38:=isAgg118,
 z38:=sizeOf118,
 v38:=zeroValue118}
end
section
open Go.Shelf Go.RowKit
def Cn:Go.Shelf.Ren:=⟨fun|112=>30|n=>n,fun|0=>0|3=>3|4=>4|28=>22|n=>n,λn=>n⟩
theorem Fh:Lays.n112 prog Cn:={
 mixed:=by kernel_rfl,
 f112:=RF func30 (by kernel_rfl),
 t0:=underlying0,
 a0:=isAgg0,
 z0:=sizeOf0,
 v0:=zeroValue0,
 t3:=underlying3,
 a3:=isAgg3,
 z3:=sizeOf3,
 v3:=zeroValue3,
 t4:=underlying4,
 a4:=isAgg4,
 z4:=sizeOf4,
 v4:=zeroValue4,
 t28:=underlying22,
 a28:=isAgg22,
 z28:=sizeOf22,
 v28:=zeroValue22}
theorem BK(zs:List Int):encI.all zs=zs.map (Value.int .i64):=by
 induction zs with
 |nil=>rfl
 |cons z r ih=>
  show Value.int .i64 z::encI.all r=_;rw[ih];rfl
theorem Cq(w:World)(v:Value)(zs:List Int)(B:Nat)(h:w.ownsRow B 3 1 v zs.length (encI.all zs)):
 Calls prog 30 #[v] w λe w'=>e=.returned (.tuple #[])/\w'.ownsRow B 3 1 v zs.length (encI.all zs.reverse)/\w.grownBy w' v.ownBlock:=by
 rcases h.2 with⟨h1,h2⟩|⟨g,cap,cur,hv,hg,hh,hn,hcp,hcs,ht⟩
 ·have hz:zs=[]:=Qp.1 h2;subst hz h1;refine(Any.slices_Reverse_int_empty Fh none 0 w).mono ?_;rintro e w' ⟨rfl,rfl⟩;exact⟨rfl,h,rfl,rfl,rfl,fC _,λ_ _ _=>rfl⟩
 subst hv;have hl:zs.length<=9223372036854775807:=by simp only[Go.maxLen]at hcp;omega
 rw[OJ,BK]at ht;refine(Any.slices_Reverse_int Fh g 0 cap zs w (holds_of_blockI hh ht) hl).mono ?_;rintro e w' ⟨rfl,n,rfl⟩;have e0:∀W:World,Go.Sort.grow W #[]=W:=λW=>by simp[Go.Sort.grow]
 have h5:=ownsRow_sortedI (w:=w) (n:=n) (os:=#[]) (ss:=zs) (ts:=zs.reverse) (by simp) hg hh hn hcp hcs;have h6:=grownBy_sortedI (w:=w) (g:=g) (n:=n) (os:=#[]) zs.reverse.toArray;rw[e0]at h5 h6;refine⟨rfl,?_,h6⟩;rw[BK];exact h5
end
section
open Go.RowKit
open Sq
open Ar
def qX:jV Bool:=⟨λx=>[.bool x],1,by decide,λ_=>rfl,λx u hu=>by
 cases hu with
 |head=>rfl
 |tail _ hu=>cases hu⟩
end
namespace Ar
def marks(N:Nat)(U:List Int):List Bool:=(List.range N).map (λz:Nat=>decide ((z:Int)∈U))
theorem mZ(N:Nat)(U:List Int):(marks N U).length=N:=by simp[marks]
theorem rM{N:Nat}(U:List Int){z:Nat}(h:z<N):(marks N U)[z]?=some (decide ((z:Int)∈U)):=by simp[marks,h]
theorem G9{N:Nat}(U:List Int)(z:Nat):(marks N U).set z true=marks N (U++[(z:Int)]):=by
 refine xV (λj=>?_);rw[Ct];by_cases hj:j<N
 ·rw[rM _ hj,rM _ hj];by_cases e:z=j
  ·subst e;rw[eT rfl,mZ,eT hj];simp
  rw[eQ e];congr 1;have:¬((j:Int)=(z:Int)):=by omega
  simp[this]
 rw[uV (by rw[mZ];omega),uV (by rw[mZ];omega)];split
 ·rw[eQ (by rw[mZ];omega)]
 rfl
theorem Ha(N:Nat):marks N []=List.replicate N false:=by
 unfold marks;apply xV;intro j;by_cases h:j<N
 ·simp[h]
 simp[h]
end Ar
section
open Go.RowKit
open Sq
open Ar
theorem DW(n:Nat):(madeCells #[.bool false] (n*1)).toList=qX.all (marks n []):=by
 have e:qX.all (marks n [])=List.replicate n (.bool false):=by
  rw[Ha]
  induction n with
  |zero=>rfl
  |succ n ih=>
   show(qX.cells false++qX.all (List.replicate n false))=_;rw[ih];rfl
 rw[e];apply xV;intro j;rw[OJ];simp only[madeCells,Qe];by_cases h:j<n
 ·simp[h,Nat.mod_one]
 simp[h]
theorem DX(n B:Nat)(w:World)(hn:n<=1000000)(hB:B<=w.heap.size):∃w',(∀m:Int,m=(n:Int)->(Instr.makeSlice 94 (.int .i64 m) (.int .i64 m)).run prog w=.ok (.slice (some ⟨w.heap.size,0,none⟩) n n) w')/\w'.ownsRow B 4 qX.k (.slice (some ⟨w.heap.size,0,none⟩) n n) (marks n []).length (qX.all (marks n []))/\w.grownBy w' none:=by
 obtain⟨i0,hi,hz0,hz1,hz2⟩:=FI (show(prog.info? 4).map (λi=>(i.zero,i.size,i.bytes))=some (some (.bool false),1,1)by kernel_rfl);obtain⟨w',h1,h2,h3⟩:=run_make_full (P:=prog) w B 94 4 i0 (.bool false) 1 underlying94 hi hz0 hz1 .i64 .i64 n (by rw[hz2];omega) (by simp only[maxLen];omega) hB;refine⟨w',λm hm=>by rw[hm];exact h1,?_,h3⟩;have e:(madeCells (Value.bool false).cells (n*1)).toList=qX.all (marks n []):=DW n;rw[e]at h2;rw[mZ];exact h2
end
section
open Go.RowKit
open Sg
open Sq
def C8:List (List UInt8):=[[97],[98,58,32],[45,32],[10],[10],[10,32,32],[10,32,32,32,32],[107,101,121,58,32],[91],[93],[123],[125],[44,32],[58,32],[39,105,116,39,39,115,39],[34,120,92,110,34],[35,32,110,111,116,101,10],[38,110,32],[42,110],[33,33,105,110,116,32],[124,10],[62,45,10],[45,45,45],[46,46,46],[9],[13,10],[32],[49],[126],[39,111,112,101,110],[34,92,113,34],[45],[58],[116,101,120,116,32,111,102,32,119,111,114,100,115],[10,45,32],[10,107,58,32],[32,32],[35,32,111,102,102],[44],[124,43],[10,10]]
abbrev wG:List Value:=[Value.string ⟨#[97]⟩,Value.string ⟨#[98,58,32]⟩,Value.string ⟨#[45,32]⟩,Value.string ⟨#[10]⟩,Value.string ⟨#[10]⟩,Value.string ⟨#[10,32,32]⟩,Value.string ⟨#[10,32,32,32,32]⟩,Value.string ⟨#[107,101,121,58,32]⟩,Value.string ⟨#[91]⟩,Value.string ⟨#[93]⟩,Value.string ⟨#[123]⟩,Value.string ⟨#[125]⟩,Value.string ⟨#[44,32]⟩,Value.string ⟨#[58,32]⟩,Value.string ⟨#[39,105,116,39,39,115,39]⟩,Value.string ⟨#[34,120,92,110,34]⟩,Value.string ⟨#[35,32,110,111,116,101,10]⟩,Value.string ⟨#[38,110,32]⟩,Value.string ⟨#[42,110]⟩,Value.string ⟨#[33,33,105,110,116,32]⟩,Value.string ⟨#[124,10]⟩,Value.string ⟨#[62,45,10]⟩,Value.string ⟨#[45,45,45]⟩,Value.string ⟨#[46,46,46]⟩,Value.string ⟨#[9]⟩,Value.string ⟨#[13,10]⟩,Value.string ⟨#[32]⟩,Value.string ⟨#[49]⟩,Value.string ⟨#[126]⟩,Value.string ⟨#[39,111,112,101,110]⟩,Value.string ⟨#[34,92,113,34]⟩,Value.string ⟨#[45]⟩,Value.string ⟨#[58]⟩,Value.string ⟨#[116,101,120,116,32,111,102,32,119,111,114,100,115]⟩,Value.string ⟨#[10,45,32]⟩,Value.string ⟨#[10,107,58,32]⟩,Value.string ⟨#[32,32]⟩,Value.string ⟨#[35,32,111,102,102]⟩,Value.string ⟨#[44]⟩,Value.string ⟨#[124,43]⟩,Value.string ⟨#[10,10]⟩]
theorem Hd:wG=C8.map λp=>Value.string ⟨p.toArray⟩:=rfl
theorem DY:∀k:Fin 41,((C8[k.val]?).map λp=>decide (p.length<=13))=some true:=by decide+kernel
theorem KU(k:Nat)(hk:k<41):∃X:ByteArray,X.size<=13/\wG[k]?=some (.string X):=by
 have h:=DY ⟨k,hk⟩;simp only at h;cases hp:C8[k]? with
 |none=>rw[hp]at h;cases h
 |some p=>
  rw[hp,FF]at h;injection h with h
  refine⟨⟨p.toArray⟩,by show p.toArray.size<=13;simpa using h,?_⟩;rw[Hd,nO,hp];rfl
def Ny(w:World)(e:Ending)(w':World):Prop:=∃X:ByteArray,e=.returned (.string X)/\X.size<=13/\Below w.heap.size w w'
theorem He(x:Int)(w:World):
 Calls prog 21 #[.int .i64 x] w (Ny w):=by
 obtain⟨m,hm,aa⟩:=Cb x 41 (by decide) (by decide);obtain⟨X,hX,h5⟩:=KU m hm;obtain⟨tc,htc⟩:∃tc,tc=w.heap.size:=⟨_,rfl⟩
 obtain⟨V,hV⟩:∃V,V=w.alloc (.cells wG.toArray 9):=⟨_,rfl⟩
 have ae:=hV▸eZ w (.cells wG.toArray 9);have af:=eu ae;have c0:V.cell? ⟨tc,m,none⟩=some (.string X):=by
  rw[hV,htc,OO];show(wG.toArray)[m]?=_;rw[Hy];exact h5
 obtain⟨HV,ag,HW⟩:=gW hV htc (aa V);have hm0:(m:Int)<41:=by omega
 have hm1:(0:Int)<=(m:Int):=by omega
 have HX:=eu hX;clear h5 aa hV htc ae hX
 go_enter func21,ntmps21
 go_wp2_with fail
 rw[<-HV.out,<-ag.out];refine HW.out.mono ?_;rintro e w2 ⟨rfl,rfl⟩;go_wp2_with fail
 go_ret;exact⟨X,rfl,HX.out,af.out⟩
end
section
open Go.RowKit
open Sg
open Sq
def Jj(w:World)(e:Ending)(w':World):Prop:=∃v,∃t:ByteArray,e=.returned v/\ou w' v t/\t.size<=400/\Below w.heap.size w w'
theorem zg(a b:ByteArray):cellsOf (a++b)=cellsOf a++cellsOf b:=by simp[cellsOf]
theorem KV(v0:Value)(l0:List Int)(v1:Value)(s:ByteArray)(w:World)(h0:rX .i64 w v0 l0)(h1:ou w v1 s):
 Calls prog 5 #[v0,v1] w (Jj w):=by
 have hs:=h1.size_le;simp only[maxLen]at hs;obtain⟨a0,cap0,rfl⟩:=h0.shape;obtain⟨a1,ay,rfl⟩:=h1.shape;have hl:=h0.len;obtain⟨m,hm⟩:∃m,m=min s.size 30:=⟨_,rfl⟩
 have hmin:min (s.size:Int) 30=(m:Int):=by omega
 obtain⟨vc,hsl,aa⟩:=IY (hi:=m) h1 (by omega);have hmz:(s.extract 0 m).size=m:=by rw[ext_size s 0 m (by omega)];omega
 obtain⟨c,hc⟩:=eX (s.extract 0 m);rw[hc]at aa hmz;have az:m<=30:=by omega
 obtain⟨H0,HV,ag⟩:=gW h0 aa hmz;clear h0 h1 hm aa hc hmz hs
 go_enter func5,ntmps5
 go_wp2_with fail
 go_loopw [5,6] (λbv i wr=>∃(k:Nat)(t:ByteArray),i=.int .i64 k/\k<=60/\wr.ownsRow w.heap.size 5 1 bv t.size (cellsOf t)/\t.size<=50*k/\Below w.heap.size w wr) (λ_ i _=>60-(intOf i).toNat)
 case atStart=>exact⟨0,⟨#[]⟩,rfl,by omega,Cy _ _ _ _,gG _,fu _ w⟩
 case round=>
  obtain⟨k,t,rfl,hk,hown,ht,hb⟩:=hrel;obtain⟨HO,HB⟩:=fD hown hb;clear hown hb;by_cases hlt:k<l0.length/\k<60
  ·obtain⟨hlt1,hlt2⟩:=hlt;have hi1:(k:Int)<(l0.length:Int):=by omega
   have hi2:(k:Int)<60:=by omega
   go_upto_region 5 with fail
   go_cut [21] (λq wx=>(∃b:Bool,q=.bool b)/\wr=wx)
   case first=>
    go_wp2_with fail
    go_meet
    exact⟨⟨_,rfl⟩,rfl⟩
   case rest=>
   obtain⟨⟨q,rfl⟩,rfl⟩:=hcut
   go_upto_if 21 with fail
   go_cut [5] (λbv wx=>∃t2:ByteArray,wx.ownsRow w.heap.size 5 1 bv t2.size (cellsOf t2)/\t2.size<=50*k+30/\Below w.heap.size w wx)
   case first=>
    cases q with
    |true=>
     go_wp2_with (at_builtin;go_must (refine ui rfl (.tmp 22) (.tmp 27) rfl w.heap.size _ _ _ rfl HO.out vc c rfl (HV.out.below HB.out) (by have:=ag.out;omega) HB.out.size ?_;intro v3 w3 hown3 hg3))
     go_meet
     have hsz:(t++c).size=t.size+c.size:=kJ t c;exact⟨t++c,by rw[hsz,zg];exact hown3,by have:=ag.out;omega,HB.out.grown hg3 (by have:=HB.out.size;omega) (λj hj=>(HO.out.lt j hj).1)⟩
    |false=>
     go_wp2_with fail
     go_meet
     exact⟨t,HO.out,by omega,HB.out⟩
   case rest=>
   obtain⟨t2,hown2,ht2,hb2⟩:=hcut;obtain⟨aj,HB2⟩:=fD hown2 hb2;obtain⟨b1,aA,rfl,q2,q3,hc1⟩:=(H0.out.below hb2).at_ hlt1;simp only[maxLen]at q3;obtain⟨y,hy⟩:=eX (l0.getD k 0);rw[hy]at hc1;have HP:=eu (He y wc);clear hown2 hb2 hy HO;go_wp2_with fail
   refine HP.out.mono ?_;rintro e w4 ⟨X,rfl,hX,hb4⟩;have ah:=eu (fI aj.out hb4);have ae:=eu (HB2.out.trans (hb4.mono HB2.out.size));obtain⟨i0,hi,hz0,hz1,hz2⟩:=FI infoByte;have HI:=eu hi;clear hb4 hi;go_wp2_with (at_builtin;go_must (refine Lib.wpList_append_own_string (P:=prog) _ rfl (.tmp 29) (.tmp 34) 23 9 rfl w.heap.size 5 i0 underlying23 underlying9 HI.out hz0 hz1 hz2 _ _ _ rfl ah.out X rfl (by simp only[maxLen];omega) (by omega) ae.out.size ?_;intro v5 w5 hown5 hg5 hnil))
   go_roundw
   case rel=>
    have hsz:(t2++X).size=t2.size+X.size:=kJ t2 X;exact⟨k+1,t2++X,by go_num,by omega,by rw[hsz,zg];exact hown5,by omega,ae.out.grown hg5 (by have:=ae.out.size;omega) (λj hj=>(ah.out.lt j hj).1)⟩
   case measure=>simp[intOf];omega
  have hown:=HO.out;have af:=ou.fJ hown;obtain⟨at',aB,rfl⟩:=af.shape;obtain⟨m4,ak⟩:∃m4,m4=min t.size 400:=⟨_,rfl⟩
  have av:min (t.size:Int) 400=(m4:Int):=by omega
  obtain⟨vt,aC,ai⟩:=IY (hi:=m4) af (by omega);have ax:(t.extract 0 m4).size=m4:=by rw[ext_size t 0 m4 (by omega)];omega
  have HD:=eu (show Jj w (.returned vt) wr from⟨vt,_,rfl,ai,by omega,HB.out⟩);clear hown af ak ai ax;by_cases hlt1:k<l0.length
  ·have hi1:(k:Int)<(l0.length:Int):=by omega
   have hi2:¬((k:Int)<60):=by omega
   clear hlt;go_wp2_with fail
   go_ret;exact HD.out
  have hi1:¬((k:Int)<(l0.length:Int)):=by omega
  clear hlt;go_wp2_with fail
  go_ret;exact HD.out
end
end Go.Proofs.YtfbiffdmhcjhbaaGreat

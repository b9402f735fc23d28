import Derived.Test.YtfbiffdmhcjhbaaGreatZa40
set_option linter.all false
set_option maxHeartbeats 16000000
set_option maxRecDepth 100000
set_option synthInstance.maxSize 4000
set_option synthInstance.maxHeartbeats 0
namespace Go.Proofs.YtfbiffdmhcjhbaaGreat
open Go.RowKit Tryz
def O3:=@Joins.ownsRow_le
section
open Go.RowKit
open Sq
open Ar
open Fl (Tk)
namespace Wk
theorem BP(p:Nat->Bool):∀n,(∀a b,a<=b->b<n->p a=true->p b=true)->∃i,i<=n/\(∀j,j<i->p j=false)/\(∀j,i<=j->j<n->p j=true)/\(List.range n).countP (λi=>!p i)=i
 |0,_=>⟨0,fC _,λj h=>absurd h (uY _),λj _ h=>absurd h (uY _),rfl⟩
 |n+1,hm=>by
  obtain⟨i,h1,h2,h3,h4⟩:=BP p n (λa b hab hb=>hm a b hab (by omega));rw[OD,xR,h4,Qj];cases hp:p n with
  |true=>exact⟨i,by omega,h2,λj hj hjn=>by
   by_cases e:j=n
   ·subst e;exact hp
   exact h3 j hj (by omega),by simp⟩
  |false=>
   have hi:i=n:=by
    rcases lu i n with h|h
    ·have:=hm i n (by omega) (by omega) (h3 i (fC _) h);rw[hp]at this;cases this
    omega
   subst hi
   exact⟨i+1,by omega,λj hj=>by
    by_cases e:j=i
    ·subst e;exact hp
    exact h2 j (by omega),λj h5 h6=>by omega,by simp⟩
def qY(l:List Tk)(a:Int):Nat:=(List.range l.length).countP (λi=>!decide (a<(Fl.too l i:Nat)))
def vY(l:List Tk)(a:Int):Int:=if qY l a=l.length then -1 else if a<(Fl.pF l (qY l a):Nat)then -1 else(qY l a:Nat)
def Ak(l:List Tk)(t:List Nd)(a:Int):Int:=if vY l a=-1 then -1 else jM t (vY l a) t.length
end Wk
theorem BQ{l:List Tk}{q:Nat}(ht:Rw.jl q l):∀a b,a<=b->b<l.length->Fl.too l a<=Fl.too l b:=by
 intro a b hab hb;by_cases e:a=b
 ·subst e;exact fC _
 obtain⟨x,hx⟩:=iT l a (by omega);obtain⟨y,hy⟩:=iT l b hb;rw[oC hx,oC hy];have h2:=(ht.le b y hy).2;have h3:=ht.lt a b x y (by omega) hx hy;omega
theorem Fq{l:List Tk}{q:Nat}(ht:Rw.jl q l)(a:Int):Wk.qY l a<=l.length/\(∀j,j<Wk.qY l a->(Fl.too l j:Int)<=a)/\(∀j,Wk.qY l a<=j->j<l.length->a<(Fl.too l j:Nat)):=by
 obtain⟨i,h1,h2,h3,h4⟩:=Wk.BP (λi=>decide (a<(Fl.too l i:Nat))) l.length (λx y hxy hy h=>by
  have h5:=zq h;have h6:=BQ ht x y hxy hy
  exact iO (by omega))
 have e:Wk.qY l a=i:=h4;rw[e];exact⟨h1,λj hj=>by have:=OL (h2 j hj);omega,λj hj hl=>zq (h3 j hj hl)⟩
theorem Rh(w:World)(pa pl:Addr)(tv:Value)(l:List Tk)(a:Int)(i:Nat)(ha:w.cell? pa=some (.int .i64 a))(hp:w.cell? pl=some tv)(hR:Reads iZ w tv l)(hi:i<l.length)(hl:l.length<=100000):
 Calls prog 53 #[.int .i64 i,.pointer (some pa),.pointer (some pl)] w λe w'=>e=.returned (.bool (decide (a<(Fl.too l i:Nat))))/\∃q,w'=w.drewN q:=by
 obtain⟨ta,tc,rfl⟩:=hR.shape;obtain⟨x,hx⟩:=iT l i hi;obtain⟨b,o,rfl,c0,c1,c2⟩:=iG hR i x hx;rw[oC hx];obtain⟨NL,aa⟩:=eX (l.length);rw[aa]at hp hi;have gi:(i:Int)<(NL:Int):=by omega
 obtain⟨T,hT⟩:=eX (x.2.2);rw[hT]at c2⊢;clear hx hT hR c0 c1
 go_enter func53,ntmps53
 go_wp2_with fail
 go_big_quiet (fail)
 go_wp2_with fail
 go_ret;exact⟨rfl,nq,rfl⟩
theorem La(w:World)(tv:Value)(l:List Tk)(q:Nat)(a:Int)(hR:Reads iZ w tv l)(ht:Rw.jl q l)(hl:l.length<=100000):
 Calls prog 29 #[tv,.int .i64 a] w λe w'=>e=.returned (.int .i64 (Wk.vY l a))/\Below w.heap.size w w':=by
 obtain⟨w1,hw1⟩:=eX (w.alloc (.cells #[tv] 28));obtain⟨w2,hw2⟩:=eX (w1.alloc (.cells #[.int .i64 a] 3));have hb1:Below w.heap.size w w1:=hw1▸eZ w _;have hb2:Below w1.heap.size w1 w2:=hw2▸eZ w1 _;have hb:Below w.heap.size w w2:=eU hb1 hb2;have hs1:w1.heap.size=w.heap.size+1:=by rw[<-hw1];simp
 obtain⟨bl,hbl⟩:=eX (w.heap.size);obtain⟨ba,ag⟩:=eX (w1.heap.size);have xl:w2.cell? ⟨bl,0,none⟩=some tv:=by rw[<-hw2];refine gX ?_;rw[<-hw1,<-hbl];exact at_new rfl
 have xa:w2.cell? ⟨ba,0,none⟩=some (.int .i64 a):=by rw[<-hw2,<-ag];exact at_new rfl
 have hrd:=hR.below hb;have hmono:∀i j,i<=j->j<l.length->decide (a<(Fl.too l i:Nat))=true->decide (a<(Fl.too l j:Nat))=true:=λx y hxy hy h=>by
  have h5:=zq h;have h6:=BQ ht x y hxy hy;exact iO (by omega)
 have hse:=Any.sort_Search (P:=prog) (ρ:=vD) Nw 53 #[.pointer (some ⟨ba,0,none⟩),.pointer (some ⟨bl,0,none⟩)] l.length (λi=>decide (a<(Fl.too l i:Nat))) w2 (enters_of func53 (by kernel_rfl) rfl) (by omega)
  (λm os i hi=>by
   have hbw:=below_grown_sl w2.heap.size w2 m os (fC _);refine(Rh (Go.Sort.grow (w2.drewN m) os) ⟨ba,0,none⟩ ⟨bl,0,none⟩ tv l a i (fe hbw xa) (fe hbw xl) (hrd.below hbw) hi hl).mono ?_;rintro e w' ⟨rfl,q,rfl⟩;have e0:∀W:World,Go.Sort.grow W #[]=W:=λW=>by simp[Go.Sort.grow]
   exact⟨rfl,q,#[],by rw[e0]⟩) hmono
 obtain⟨s1,s2,s3⟩:=Fq ht a;have hV:Wk.vY l a=if Wk.qY l a=l.length then(-1:Int)else if a<(Fl.pF l (Wk.qY l a):Nat)then(-1:Int)else((Wk.qY l a:Nat):Int):=rfl
 obtain⟨V,aj⟩:=eX (Wk.vY l a);rw[aj]at hV⊢;obtain⟨I,hI⟩:=eX (Wk.qY l a);have ae:Calls prog 52 #[.int .i64 (l.length:Nat),.func (.func 53) #[] #[.pointer (some ⟨ba,0,none⟩),.pointer (some ⟨bl,0,none⟩)]] w2 λe w'=>e=.returned (.int .i64 (I:Nat))/\Below w2.heap.size w2 w':=by
  refine Calls.mono hse ?_;rintro e w' ⟨rfl,q,os,rfl⟩;exact⟨by rw[<-hI];rfl,below_grown_sl w2.heap.size w2 q os (fC _)⟩
 rw[hI]at hV s1;obtain⟨ta,tc,rfl⟩:=hR.shape;have HX:=eu (λW (hW:Below w2.heap.size w2 W) j x hj=>iG (hrd.below hW) j x hj);obtain⟨NL,af⟩:=eX (l.length);have av:=eu af;rw[af]at ae hV s1 xl hl⊢;obtain⟨HS,HB,HW1,HW2,ax,az⟩:=j6 ae hb hw1 hw2 hbl ag;have ak:=eu (show bl+1=ba by omega);obtain⟨ah,ai⟩:=fD xl xa;rw[af]at HW1;clear hse ae hb1 hb2 hb hs1 hw1 hw2 hbl ag xl xa hrd hmono s2 s3 aj hI af ht hR
 go_enter func29,ntmps29
 go_upto_region 1 with fail
 rw[HW1.out,ax.out,ak.out,HW2.out];clear HW1 HW2;have xl:=ah.out;have xa:=ai.out;go_wp2_with fail
 refine HS.out.mono ?_;rintro e w3 ⟨rfl,hb3⟩;obtain⟨HB3,aa⟩:=fD hb3 (eU HB.out hb3);have yl:=fe hb3 xl;have ya:=fe hb3 xa;clear hb3 xl xa HS;by_cases h1:I=NL
 ·rw[eT h1]at hV;have g1:((I:Int)==(NL:Int))=true:=by simp;omega
  have ay:(I==NL)=true:=by simp[h1]
  subst hV;clear h1 ah ai HX;go_wp2_with fail
  go_big_quiet (fail)
  have HD:=eu ((aa.out.trans ((gB (fu _ w3) nq).mono aa.out.size)));go_wp2_with fail
  first|exact⟨rfl,HD.out⟩|(go_ret;exact⟨rfl,HD.out⟩)
 rw[eQ h1]at hV;have g1:((I:Int)==(NL:Int))=false:=by simp;omega
 have ay:(I==NL)=false:=by simp[h1]
 obtain⟨x,hx⟩:=iT l I (by rw[av.out];omega);obtain⟨b,o,rfl,c0,c1,c2⟩:=HX.out w3 HB3.out I x hx;rw[sD hx]at hV;have gi:(I:Int)<(NL:Int):=by omega
 obtain⟨F,hF⟩:=eX (x.2.1);rw[hF]at hV c1;clear h1 ah ai HX hx hF c0 c2;by_cases h2:a<(F:Int)
 ·rw[eT h2]at hV;subst hV;have g2:decide (a<(F:Int))=true:=iO h2;go_wp2_with fail
  go_big_quiet (fail)
  have HD:=eu ((aa.out.trans ((gB (fu _ w3) nq).mono aa.out.size)));go_wp2_with fail
  first|exact⟨rfl,HD.out⟩|(go_ret;exact⟨rfl,HD.out⟩)
 rw[eQ h2]at hV;subst hV;have g2:decide (a<(F:Int))=false:=iF h2;go_wp2_with fail
 go_big_quiet (fail)
 have HD:=eu ((aa.out.trans ((gB (fu _ w3) nq).mono aa.out.size)));go_wp2_with fail
 first|exact⟨rfl,HD.out⟩|(go_ret;exact⟨rfl,HD.out⟩)
theorem RO(w:World)(tv nv:Value)(l:List Tk)(q:Nat)(t:List Nd)(a:Int)(hR:Reads iZ w tv l)(ht:Rw.jl q l)(hl:l.length<=100000)(hN:iR w nv t)(htl:t.length<=1000000):
 Calls prog 10 #[tv,.agg #[nv],.int .i64 a] w λe w'=>e=.returned (.int .i64 (Wk.Ak l t a))/\Below w.heap.size w w':=by
 obtain⟨na,nc,rfl⟩:=hN.shape;have HX:=eu (λW (hW:Below w.heap.size w W) j x hj=>(hN.below hW).at_ j x hj);obtain⟨w1,hw1⟩:=eX (w.alloc (.cells #[.slice na t.length nc] 36));have hb1:Below w.heap.size w w1:=hw1▸eZ w _;obtain⟨bx,hbx⟩:=eX (w.heap.size);have hx1:w1.cell? ⟨bx,0,none⟩=some (.slice na t.length nc):=by rw[<-hw1,<-hbx];exact at_new rfl
 have ae:=eu (La w1 tv l q a (hR.below hb1) ht hl);have hV:Wk.Ak l t a=if Wk.vY l a=-1 then(-1:Int)else Wk.jM t (Wk.vY l a) t.length:=rfl
 obtain⟨K,hK⟩:=eX (Wk.vY l a);rw[hK]at hV ae;obtain⟨V,aj⟩:=eX (Wk.Ak l t a);rw[aj]at hV⊢;obtain⟨NN,af⟩:=eX (t.length);have ax:=eu af;rw[af]at htl hV hx1 hw1⊢;have HV:=eu hV;obtain⟨Q,ag⟩:=eX ((λe (w':World)=>e=Ending.returned (.int .i64 V)/\Below w.heap.size w w'));have HQ:=eu (λw' (h:Below w.heap.size w w')=>show Q (.returned (.int .i64 V)) w' from by rw[<-ag];exact⟨rfl,h⟩);rw[ag];obtain⟨HW1,ay,HB1⟩:=gW hw1 hbx hb1;have hxs:bx<w1.heap.size:=by rw[<-hw1,<-hbx];simp
 obtain⟨aA,ak⟩:=fD hxs hx1;clear hxs hV aj hK af ag hw1 hbx hb1 hN hR ht hl
 go_enter func10,ntmps10
 go_upto_region 1 with fail
 rw[HW1.out,ay.out];clear HW1 hx1;go_wp2_with fail
 refine ae.out.mono ?_;rintro e w2 ⟨rfl,hb2⟩;have HB2:=eu (eU HB1.out hb2);have hx2:=fe hb2 ak.out;clear hb2 ae ak;by_cases hk:K=-1
 ·have hv:=HV.out;rw[eT hk]at hv;subst hv hk;have HD:=eu (HQ.out w2 HB2.out);clear HV HQ;go_wp2_with fail
  first|exact HD.out|(go_ret;exact HD.out)
 have hv:=HV.out;rw[eQ hk]at hv;have az:=eu hv;have gk:(K==-1)=false:=by simp[hk]
 clear hv hk HV;go_wp2_with fail
 clear hx2 gk
 go_loopw [8,19] (λev iv wr=>∃(i:Nat),iv=.int .i64 i/\i<=NN/\Hid (ev=.int .i64 (Wk.jM t K i))/\Hid (Below w.heap.size w wr)) (λ_ iv _=>NN-(intOf iv).toNat)
 case atStart=>exact⟨0,rfl,gG _,eu rfl,HB2⟩
 case round=>
  obtain⟨i,rfl,hi,HC,HB⟩:=hrel;obtain⟨c,hc⟩:=eX (Wk.jM t K i);have hcv:=HC.out;rw[hc]at hcv;subst hcv;clear HC;by_cases hlt:i<NN
  ·obtain⟨x,hx⟩:=iT t i (by rw[ax.out];omega);obtain⟨nb,no,ka,kc,rfl,c0,c1,c2,c3,c4,c5,-⟩:=HX.out wr HB.out i x hx;have gi:(i:Int)<(NN:Int):=by omega
   have hst:=Wk.zf (k:=K) hx;rw[hc]at hst;obtain⟨w4,hw4⟩:=eX (wr.alloc (.cells #[.int .i64 x.k,.int .i64 x.f,.int .i64 x.t,.int .i64 x.u,.slice ka x.ks.length kc,.bool x.y] 47));have ah:=eu (HB.out.trans ((hw4▸eZ wr _:Below wr.heap.size wr w4).mono HB.out.size));obtain⟨bn,hbn⟩:=eX (wr.heap.size);have d1:w4.cell? ⟨bn,1,none⟩=some (.int .i64 x.f):=by rw[<-hw4,<-hbn];exact at_new rfl
   have d2:w4.cell? ⟨bn,2,none⟩=some (.int .i64 x.t):=by rw[<-hw4,<-hbn];exact at_new rfl
   obtain⟨aa,ai⟩:=fD hw4 hbn;by_cases h1:x.f<=K
   ·by_cases h2:K<x.t
    ·rw[eT (by unfold Wk.kI;rw[iO h1,iO h2];rfl)]at hst;have HS:=eu (show Value.int .i64 (i:Int)=.int .i64 (Wk.jM t K (i+1))by rw[hst]);clear hst hx hw4 hbn hc;go_upto_region 8 with fail
     rw[ai.out,aa.out];clear aa c0 c1 c2 c3 c4 c5;go_wp2_with fail
     go_roundw
     case rel=>exact⟨i+1,by go_num,by omega,HS,ah⟩
     case measure=>simp[intOf];omega
    rw[eQ (by unfold Wk.kI;rw[iO h1,iF h2];simp)]at hst;have HS:=eu (show Value.int .i64 c=.int .i64 (Wk.jM t K (i+1))by rw[hst]);clear hst hx hw4 hbn hc;go_upto_region 8 with fail
    rw[ai.out,aa.out];clear aa c0 c1 c2 c3 c4 c5;go_wp2_with fail
    go_roundw
    case rel=>exact⟨i+1,by go_num,by omega,HS,ah⟩
    case measure=>simp[intOf];omega
   rw[eQ (by unfold Wk.kI;rw[iF h1];simp)]at hst;have HS:=eu (show Value.int .i64 c=.int .i64 (Wk.jM t K (i+1))by rw[hst]);clear hst hx hw4 hbn hc;go_upto_region 8 with fail
   rw[ai.out,aa.out];clear aa c0 c1 c2 c3 c4 c5;go_wp2_with fail
   go_roundw
   case rel=>exact⟨i+1,by go_num,by omega,HS,ah⟩
   case measure=>simp[intOf];omega
  obtain rfl:i=NN:=by omega
  have av:c=V:=by rw[<-hc,az.out]
  have HD:=eu (HQ.out wr HB.out);rw[<-av]at HD;clear hlt HQ hc av;go_wp2_with fail
  first|exact HD.out|(go_ret;exact HD.out)
end
section
open Go.RowKit
open Sq
open Ar
open Fl (Tk)
namespace Wk
theorem iX{l:List Nd}{O:List Int}(h:All l O):O.length=l.length:=by
 rw[h.perm.length_eq,nP,LK]
end Wk
end
section
open Go.RowKit
open Sq
open Ar
open Fl (Tk)
namespace Wk
theorem oh{x:Nd}{k:Int}:kI x k=true↔x.f<=k/\k<x.t:=by
 unfold kI;rw[qQ,Ic,Ic]
theorem N9{l:List Nd}{n:Int}(h:Ck l n){k:Int}(p:Nat):∀(z:Nat)(xz:Nd),l[z]?=some xz->kI xz k=true->p<z->
 ∃(a q:Nat)(xa xq:Nd),l[a]?=some xa/\kI xa k=true/\p<a/\a<=z/\xa.u=(q:Int)/\q<=p/\l[q]?=some xq/\kI xq k=true/\(a:Int)∈xq.ks:=by
 intro z
 induction z using Nat.strongRecOn with
 |ind z ih=>
  intro xz hz hk hp;obtain⟨q,xq,e1,e2,e3,e4,e5,e6,e7⟩:=AM h (show 0<z by omega) hz;have ae:=oh.1 hk;have hqk:kI xq k=true:=oh.2 ⟨by omega,by omega⟩;by_cases hq:q<=p
  ·exact⟨z,q,xz,xq,hz,hk,hp,fC _,e1,hq,e3,hqk,e4⟩
  obtain⟨a,q',xa,aa,f1,f2,f3,f4,f5⟩:=ih q e2 xq e3 hqk (by omega);exact⟨a,q',xa,aa,f1,f2,f3,by omega,f5⟩
theorem DZ{l:List Nd}{n:Int}(h:Ck l n){k:Int}{p a c:Nat}{xp xa xc:Nd}(hp:l[p]?=some xp)(ha:l[a]?=some xa)(hc:l[c]?=some xc)(ma:(a:Int)∈xp.ks)(mc:(c:Int)∈xp.ks)(hka:kI xa k=true)(hkc:kI xc k=true):a=c:=by
 have ho:=Qt.1 (h.ord p xp hp);obtain⟨i,hi,ei⟩:=Qm ma;obtain⟨j,hj,ej⟩:=Qm mc;have h1:=oh.1 hka;have h2:=oh.1 hkc;rcases FE i j with hij|hij|hij
 ·have:=(ho i j hi hj hij).2 xa xc (by rw[ei,iE];exact ha) (by rw[ej,iE];exact hc);omega
 ·subst hij;rw[ei]at ej;omega
 have:=(ho j i hj hi hij).2 xc xa (by rw[ej,iE];exact hc) (by rw[ei,iE];exact ha);omega
theorem Lb{l:List Nd}{n:Int}(h:Ck l n){k:Int}:∀(p z c:Nat)(xp xz xc:Nd),l[p]?=some xp->l[z]?=some xz->l[c]?=some xc->(c:Int)∈xp.ks->p<z->z<c->kI xp k=true->kI xz k=true->kI xc k=true->False:=by
 intro p
 induction p using Nat.strongRecOn with
 |ind p ih=>
  intro z c xp xz xc hp hz hc mc hpz hzc kp kz kc;obtain⟨a,q,xa,xq,f1,f2,f3,f4,f5,f6,f7,f8,f9⟩:=N9 h p z xz hz kz hpz;rcases lu q p with hq|hq
  ·exact ih q hq p a xq xp xa f7 hp f1 f9 hq f3 f8 kp f2
  obtain rfl:q=p:=by omega
  rw[hp]at f7;injection f7 with f7
  subst f7;have:=DZ h hp f1 hc f9 mc f2 kc;omega
theorem Hg{l:List Nd}{n:Int}(h:Ck l n){k:Int}{z:Nat}{xz:Nd}(hz:l[z]?=some xz)(hk:kI xz k=true)(hno:∀c∈xz.ks,∀xc,l[c.toNat]?=some xc->kI xc k=false):jM l k l.length=(z:Int):=by
 have hzl:=(fT.1 hz).1;rcases Fg l k l.length with⟨h1,h2⟩|⟨m,y,h1,h2,h3,h4,h5⟩
 ·have:=h2 z xz hzl hz;rw[hk]at this;cases this
 rw[h1];rcases FE z m with aa|aa|aa
 ·obtain⟨a,q,xa,xq,f1,f2,f3,f4,f5,f6,f7,f8,f9⟩:=N9 h z m y h3 h4 aa;rcases lu q z with hq|hq
  ·exact(Lb h q z a xq xz xa f7 hz f1 f9 hq f3 f8 hk f2).elim
  obtain rfl:q=z:=by omega
  rw[hz]at f7;injection f7 with f7
  subst f7;have:=hno _ f9 xa (by rw[iE];exact f1);rw[f2]at this;cases this
 ·subst aa;rfl
 have:=h5 z xz aa hzl hz;rw[hk]at this;cases this
def FR(l:List Nd)(k:Int)(ks:List Int):Nat->Int
 |0=>-1
 |j+1=>match ks[j]? with
  |none=>FR l k ks j
  |some z=>match l[z.toNat]? with
   |none=>FR l k ks j
   |some x=>if kI x k=true then z else FR l k ks j
theorem Lc{l:List Nd}{k z:Int}{ks:List Int}{j:Nat}{x:Nd}(hz:ks[j]?=some z)(hx:l[z.toNat]?=some x):FR l k ks (j+1)=if kI x k=true then z else FR l k ks j:=by
 rw[FR,hz];dsimp only;rw[hx]
theorem Jm(l:List Nd)(k:Int)(ks:List Int):∀j,(FR l k ks j=-1/\∀(i:Nat)(z:Int)(x:Nd),i<j->ks[i]?=some z->l[z.toNat]?=some x->kI x k=false)\/
 ∃(z:Int)(x:Nd),FR l k ks j=z/\z∈ks/\l[z.toNat]?=some x/\kI x k=true
 |0=>.inl ⟨rfl,λi z x h=>absurd h (uY i)⟩
 |j+1=>by
  have ih:=Jm l k ks j;rw[FR];cases hz:ks[j]? with
  |none=>
   dsimp only;rcases ih with⟨h1,h2⟩|h
   ·refine .inl ⟨h1,λi z x hi hiz hx=>?_⟩;rcases lu i j with h|h
    ·exact h2 i z x h hiz hx
    obtain rfl:i=j:=by omega
    rw[hz]at hiz;cases hiz
   exact .inr h
  |some z=>
   dsimp only;cases hx:l[z.toNat]? with
   |none=>
    dsimp only;rcases ih with⟨h1,h2⟩|h
    ·refine .inl ⟨h1,λi z' x' hi hiz hx'=>?_⟩;rcases lu i j with h|h
     ·exact h2 i z' x' h hiz hx'
     obtain rfl:i=j:=by omega
     rw[hz]at hiz;injection hiz with hiz;subst hiz
     rw[hx]at hx';cases hx'
    exact .inr h
   |some x=>
    dsimp only;by_cases hk:kI x k=true
    ·rw[eT hk];exact .inr ⟨z,x,rfl,nQ hz,hx,hk⟩
    rw[eQ hk];rcases ih with⟨h1,h2⟩|h
    ·refine .inl ⟨h1,λi z' x' hi hiz hx'=>?_⟩;rcases lu i j with h|h
     ·exact h2 i z' x' h hiz hx'
     obtain rfl:i=j:=by omega
     rw[hz]at hiz;injection hiz with hiz;subst hiz
     rw[hx]at hx';injection hx' with hx';subst hx'
     exact Al.2 hk
    exact .inr h
def kP(l:List Tk)(a:Int):Nat->Int
 |0=>-1
 |j+1=>match l[j]? with
  |none=>kP l a j
  |some x=>if(x.2.1:Int)<=a/\a<(x.2.2:Nat)then(j:Int)else kP l a j
theorem BR{l:List Tk}{a:Int}{j:Nat}{x:Tk}(h:l[j]?=some x):kP l a (j+1)=if(x.2.1:Int)<=a/\a<(x.2.2:Nat)then(j:Int)else kP l a j:=by rw[kP,h]
theorem Dc(l:List Tk)(a:Int):∀j,j<=l.length->(kP l a j=-1/\∀(i:Nat)(x:Tk),i<j->l[i]?=some x->¬((x.2.1:Int)<=a/\a<(x.2.2:Nat)))\/
 ∃(m:Nat)(x:Tk),kP l a j=(m:Int)/\m<j/\l[m]?=some x/\(x.2.1:Int)<=a/\a<(x.2.2:Nat)
 |0,_=>.inl ⟨rfl,λi x h=>absurd h (uY i)⟩
 |j+1,hj=>by
  obtain⟨x,hx⟩:=iT l j (by omega);rw[BR hx];by_cases hc:(x.2.1:Int)<=a/\a<(x.2.2:Nat)
  ·rw[eT hc];exact .inr ⟨j,x,rfl,by omega,hx,hc.1,hc.2⟩
  rw[eQ hc];rcases Dc l a j (by omega)with⟨h1,h2⟩|⟨m,y,h1,h2,h3⟩
  ·refine .inl ⟨h1,λi y hi hy=>?_⟩;rcases lu i j with h|h
   ·exact h2 i y h hy
   obtain rfl:i=j:=by omega
   rw[hx]at hy;injection hy with hy;subst hy;exact hc
  exact .inr ⟨m,y,h1,by omega,h3⟩
theorem NI{l:List Tk}{q:Nat}(ht:Rw.jl q l)(a:Int):kP l a l.length=vY l a:=by
 obtain⟨s1,s2,s3⟩:=Fq ht a;unfold vY;rcases Dc l a l.length (fC _)with⟨h1,h2⟩|⟨m,x,h1,h2,h3,h4,h5⟩
 ·rw[h1];by_cases e:qY l a=l.length
  ·rw[eT e]
  rw[eQ e];obtain⟨x,hx⟩:=iT l (qY l a) (by omega);have h3:=s3 _ (fC _) (by omega);rw[oC hx]at h3;have h4:=h2 _ x (by omega) hx;rw[sD hx,eT (by omega)]
 rw[h1];have hm:qY l a=m:=by
  rcases FE (qY l a) m with h|h|h
  ·obtain⟨y,hy⟩:=iT l (qY l a) (by omega);have h6:=s3 _ (fC _) (by omega);rw[oC hy]at h6;have:=ht.lt _ _ y x h hy h3;omega
  ·exact h
  have:=s2 m h;rw[oC h3]at this;omega
 rw[hm,eQ (by omega),sD h3,eQ (by omega)]
theorem Ri{l:List Tk}{t:List Nd}{a k:Int}(h:vY l a=k)(hk:k≠-1):Ak l t a=jM t k t.length:=by
 unfold Ak;rw[h,eQ hk]
end Wk
end
section
open Go.RowKit
open Sq
open Ar
open Fl (Tk)
namespace Wk
theorem Hl{l:List Nd}{n:Int}(h:Ck l n):∀(k:Nat),k<l.length->my l (k:Int)<:+:my l 0:=by
 intro k
 induction k using Nat.strongRecOn with
 |ind k ih=>
  intro hk;rcases FD k with rfl|h0
  ·exact List.infix_refl _
  obtain⟨x,hx⟩:=iT l k hk;obtain⟨j,p,e1,e2,e3,e4,-⟩:=AM h h0 hx;refine List.IsInfix.trans ?_ (ih j e2 (fT.1 e3).1);rw[pre_some h e3];obtain⟨s,t,est⟩:=List.append_of_mem e4;rw[est,LF,nN];exact⟨(j:Int)::s.flatMap (my l),t.flatMap (my l),by simp⟩
theorem NJ{l:List Nd}{n:Int}(h:Ck l n){O:List Int}(hA:All l O){k:Nat}(hk:k<l.length):(my l (k:Int)).length<=l.length:=by
 have h1:=(Hl h k hk).length_le;rw[<-hA.is,hA.perm.length_eq,nP,LK]at h1;exact h1
theorem Ld(f:Int->List Int)(ks:List Int)(j:Nat):((ks.take j).flatMap f).length<=(ks.flatMap f).length:=by
 conv=>rhs;rw[<-Qw j ks,LF,ig]
 omega
theorem Hm(f:Int->List Int){ks:List Int}{j:Nat}{z:Int}(hz:ks[j]?=some z):(ks.take (j+1)).flatMap f=(ks.take j).flatMap f++f z:=by
 rw[LM,hz];simp
end Wk
theorem RA(na:Option Addr)(nc:Nat)(l:List Nd)(n:Int)(hc:Ck l n)(O:List Int)(hA:Wk.All l O)(hl:l.length<=1000000):∀(m i:Nat),l.length-i<=m->i<l.length->∀(w:World),iR w (.slice na l.length nc) l->
 Calls prog 34 #[.agg #[.slice na l.length nc],.int .i64 i] w λe w'=>∃v,e=.returned v/\w'.ownsRow w.heap.size 3 1 v (Wk.my l i).length (encI.all (Wk.my l i))/\Below w.heap.size w w':=by
 intro m
 induction m with
 |zero=>intro i h1 h2;omega
 |succ m ih=>
 intro i hm hi w hN;obtain⟨x,hx⟩:=iT l i hi;have hpre:=Wk.pre_some hc hx;have ae:=Wk.NJ hc hA hi
 have IH:=eu (show∀(z:Int),z∈x.ks->∀W,Below w.heap.size w W->Calls prog 34 #[.agg #[.slice na l.length nc],.int .i64 z] W (λe w'=>∃v,e=.returned v/\w'.ownsRow W.heap.size 3 1 v (Wk.my l z).length (encI.all (Wk.my l z))/\Below W.heap.size W w')from λz hz W hW=>by
  obtain⟨j,y,e1,e2,e3,e4,-⟩:=hc.kid i x hx z hz;have hj:=(fT.1 e3).1;have hij:=hc.up j y e2 e3;rw[e1]
  exact ih j (by omega) hj W (hN.below hW))
 have HX:=eu (λW (hW:Below w.heap.size w W)=>(hN.below hW).at_ i x hx);obtain⟨R,hR⟩:=eX (Wk.my l i);rw[hR]at hpre ae⊢;obtain⟨F,hF⟩:=eX (Wk.my l);rw[hF]at hpre IH;obtain⟨Q,hQ⟩:=eX ((λe (w':World)=>∃v,e=Ending.returned v/\w'.ownsRow w.heap.size 3 1 v R.length (encI.all R)/\Below w.heap.size w w'));have HQ:=eu (λv w' (h:w'.ownsRow w.heap.size 3 encI.k v R.length (encI.all R))(hb:Below w.heap.size w w')=>show Q (.returned v) w' from by rw[<-hQ];exact⟨v,rfl,h,hb⟩);rw[hQ];obtain⟨NN,ai⟩:=eX (l.length);rw[ai]at hl hi ae IH⊢;have hfl:∀j,((x.ks.take j).flatMap F).length+1<=NN:=λj=>by
  have h1:=Wk.Ld F x.ks j;rw[hpre,gy]at ae;omega
 obtain⟨aF,aj⟩:=fD hfl hpre;obtain⟨KN,ak⟩:=eX (x.ks.length);have af:=eu ak;have hkl:KN<=maxLen:=by
  have h:=(HX.out w (fu _ _))
  obtain⟨_,_,_,_,_,_,_,_,_,_,_,hr⟩:=h;have:=hr.size_le;omega
 simp only[maxLen]at hkl;obtain⟨w1,hw1⟩:=eX (w.alloc (.cells #[.slice na NN nc] 31));have hb1:Below w.heap.size w w1:=hw1▸eZ w _;obtain⟨bx,hbx⟩:=eX (w.heap.size);have x1:w1.cell? ⟨bx,0,none⟩=some (.slice na NN nc):=by rw[<-hw1,<-hbx];exact at_new rfl
 obtain⟨w2,hw2⟩:=eX (w1.alloc (.cells #[.int .i64 (i:Nat)] 3));have hb2:Below w1.heap.size w1 w2:=hw2▸eZ w1 _;obtain⟨bl,hbl⟩:=eX (w1.heap.size);have hown:w2.ownsRow w1.heap.size 3 encI.k (.slice (some ⟨bl,0,none⟩) 1 1) [(i:Int)].length (encI.all [(i:Int)]):=by
  rw[<-hw2,<-hbl];exact World.ownsRow_lit w1 #[.int .i64 (i:Nat)] 1 (fC _) (by decide) rfl
 obtain⟨aG,HB1,HB2⟩:=gW hown hb1 hb2;have ag:=eu (λW (hW:Below w1.heap.size w1 W)=>fe hW x1);obtain⟨HW1,HW2,aH,aI⟩:=jk hw1 hw2 hbx hbl;have gi:(i:Int)<(NN:Int):=by omega
 have aJ:=eu (show w.heap.size<=w1.heap.size from hb1.size);clear hpre ae hfl hQ hR hF ai hw1 hw2 hb1 hb2 hbx hbl x1 hown hN hc hA hx ih hm ak
 go_enter func34,ntmps34
 go_upto_region 1 with fail
 rw[HW1.out,aH.out];clear HW1;go_upto_region 2 with fail
 rw[HW2.out,aI.out];clear HW2;go_wp2_with fail
 go_loopw [5,6] (λlv iv wr=>∃(j:Nat)(L:List Int),iv=.int .i64 j/\j<=KN/\Hid (L=(i:Int)::(x.ks.take j).flatMap F)/\Hid (wr.ownsRow w1.heap.size 3 encI.k lv L.length (encI.all L))/\Hid (Below w1.heap.size w1 wr)) (λ_ iv _=>KN-(intOf iv).toNat)
 case atStart=>exact⟨0,[(i:Int)],rfl,gG _,eu rfl,aG,HB2⟩
 case round=>
  obtain⟨j,L,rfl,hj,HL,HO,HB⟩:=hrel;obtain⟨nb,no,ka,kc,rfl,-,-,-,-,d4,-,hks⟩:=HX.out w1 HB1.out;rw[af.out]at d4;have c1:=ag.out wr HB.out;have c4:=fe HB.out d4;by_cases hlt:j<KN
  ·obtain⟨z,hz⟩:=iT x.ks j (by rw[af.out];exact hlt);obtain⟨kb,ko,rfl,dz⟩:=qZ hks j z hz;have cz:=fe HB.out dz;have HI:=eu (IH.out z (nQ hz) wr.drew (eU HB1.out HB.out).drew);have hst:=Wk.Hm F hz;have hfj:=aF.out (j+1);have HL2:=eu (show L++F z=(i:Int)::(x.ks.take (j+1)).flatMap F by rw[hst,HL.out];rfl);have hln:L.length+(F z).length<=NN:=by
    have h9:=congrArg List.length HL2.out;rw[ig,gy]at h9;omega
   have aK:=eu (show L.length+(F z).length<=maxLen by simp only[maxLen];omega);have aL:=eu (show(L.length+(F z).length)*8<=140737488355328 by omega);obtain⟨HD1,av⟩:=fD d4 dz;have gj:(j:Int)<(KN:Int):=by omega
   clear hz hst hfj hln hks d4 dz;go_upto_region 5 with fail
   refine fB (λwx=>wx.cell? ⟨bx,0,none⟩=some (.slice (some ⟨nb,no,none⟩) NN nc)/\wx.cell? ⟨nb,no+i*6+4,none⟩=some (.slice (some ⟨kb,ko,none⟩) KN kc)/\wx.cell? ⟨kb,ko+j,none⟩=some (.int .i64 z)) 13 (by kernel_rfl) ?_;have hH:(λwx:World=>wx.cell? ⟨bx,0,none⟩=some (.slice (some ⟨nb,no,none⟩) NN nc)/\wx.cell? ⟨nb,no+i*6+4,none⟩=some (.slice (some ⟨kb,ko,none⟩) KN kc)/\wx.cell? ⟨kb,ko+j,none⟩=some (.int .i64 z)) wr.drew:=⟨c1,c4,cz⟩
   refine fw 0 u5 rfl (by kernel_rfl) rfl eY (λW hW=>by go_simp) hH ?_;refine fw 1 (.agg #[.slice (some ⟨nb,no,none⟩) NN nc]) rfl (by kernel_rfl) rfl eY (λW hW=>?_) hH ?_
   ·obtain⟨z0,z1,z2⟩:=hW;go_simp
   refine fw 2 (.pointer (some ⟨bx,0,none⟩)) rfl (by kernel_rfl) rfl eY (λW hW=>by go_simp) hH ?_;refine fw 3 (.slice (some ⟨nb,no,none⟩) NN nc) rfl (by kernel_rfl) rfl eY (λW hW=>?_) hH ?_
   ·obtain⟨z0,z1,z2⟩:=hW;go_simp
   refine fw 4 (.int .i64 (i:Int)) rfl (by kernel_rfl) rfl eY (λW hW=>by go_simp) hH ?_;refine fw 5 (.pointer (some ⟨nb,no+i*6,none⟩)) rfl (by kernel_rfl) rfl eY (λW hW=>by go_simp) hH ?_;refine fw 6 (.pointer (some ⟨nb,no+i*6+4,none⟩)) rfl (by kernel_rfl) rfl eY (λW hW=>by go_simp) hH ?_;refine fw 7 (.slice (some ⟨kb,ko,none⟩) KN kc) rfl (by kernel_rfl) rfl eY (λW hW=>?_) hH ?_
   ·obtain⟨z0,z1,z2⟩:=hW;go_simp
   refine fw 8 (.int .i64 (j:Int)) rfl (by kernel_rfl) rfl eY (λW hW=>by go_simp) hH ?_;refine fw 9 (.pointer (some ⟨kb,ko+j,none⟩)) rfl (by kernel_rfl) rfl eY (λW hW=>by go_simp) hH ?_;refine fw 10 (.int .i64 z) rfl (by kernel_rfl) rfl eY (λW hW=>?_) hH ?_
   ·obtain⟨z0,z1,z2⟩:=hW;go_simp
   refine iD 11 (by kernel_rfl) rfl λK hK=>?_
   go_simp;refine HI.out.mono ?_;rintro e5 w5 ⟨v5,rfl,ax,hb5⟩;have aa:Below w1.heap.size w1 w5:=eU HB.out.drew hb5;have c15:=ag.out w5 aa;have ay:=fe aa HD1.out;have az:=fe aa av.out;have ah:=eu (show w5.ownsRow w1.heap.size 3 encI.k u5 L.length (encI.all L)from fI (show wr.drew.ownsRow w1.heap.size 3 encI.k u5 L.length (encI.all L)from HO.out) hb5);have aA:=eu (Reads.fJ (E:=encI) ax);have hws:w1.heap.size<=w5.heap.size:=aa.size;have aB:=eu aa;clear ax hb5 aa c1 c4 cz HI;refine hK.out _ _ (λ_=>⟨c15,ay,az⟩) (λhH2=>?_);clear hK K;replace hH:=hH2 (by kernel_rfl);clear hH2;try simp only[Act.put,fF,fH,fG]
   refine iD 12 (by kernel_rfl) rfl λK hK=>?_
   refine qp Od rfl (.tmp 20) (.tmp 31) rfl w1.heap.size u5 L rfl ah.out v5 (F z) rfl aA.out aK.out aL.out hws ?_;intro v6 w6 hown6 aC;have hb6:Below w1.heap.size w1 w6:=aB.out.grown aC hws (λq hq=>(ah.out.lt q hq).1);have c16:=ag.out w6 hb6;have c46:=fe hb6 HD1.out;have aM:=fe hb6 av.out;obtain⟨aN,aO⟩:=fD hown6 hb6;clear hown6 aC hb6 c15 ay az ah aA hws aB;refine hK.out _ _ (λ_=>⟨c16,c46,aM⟩) (λhH2=>?_);clear hK K;replace hH:=hH2 (by kernel_rfl);clear hH2;try simp only[Act.put,fF,fH,fG]
   refine iD 13 (by kernel_rfl) rfl λK hK=>?_
   go_simp;refine hK.out _ _ (jg (by kernel_rfl)) (λ_=>?_);clear hK K;try simp only[Act.put,fF,fH,fG]
   refine fA (by kernel_rfl) ?_ _;go_wp2_with fail
   go_roundw
   case rel=>exact⟨j+1,_,by go_num,by omega,HL2,aN,aO⟩
   case measure=>simp[intOf];omega
  obtain rfl:j=KN:=by omega
  have aD:L=R:=by rw[HL.out,zk (by rw[af.out];exact fC _),aj.out]
  have hO:=HO.out;rw[aD]at hO;have HD:=eu (HQ.out u5 wr (O3 hO aJ.out) (eU HB1.out HB.out));clear hlt aD hO hks d4;go_wp2_with fail
  first|exact HD.out|(go_ret;exact HD.out)
theorem P9(w:World)(nv:Value)(l:List Nd)(n:Int)(hN:iR w nv l)(hc:Ck l n)(O:List Int)(hA:Wk.All l O)(hl:l.length<=1000000):
 Calls prog 18 #[.agg #[nv]] w λe w'=>∃v,e=.returned v/\w'.ownsRow w.heap.size 3 1 v O.length (encI.all O)/\Below w.heap.size w w':=by
 obtain⟨na,nc,rfl⟩:=hN.shape;have hpos:=hc.pos;have hpre:Wk.my l ((0:Nat):Int)=O:=hA.is.symm;obtain⟨w1,hw1⟩:=eX (w.alloc (.cells #[.slice na l.length nc] 31));have hb1:Below w.heap.size w w1:=hw1▸eZ w _;obtain⟨bx,hbx⟩:=eX (w.heap.size);have x1:w1.cell? ⟨bx,0,none⟩=some (.slice na l.length nc):=by rw[<-hw1,<-hbx];exact at_new rfl
 have h:=RA na nc l n hc O hA hl l.length 0 (by omega) hpos w1 (hN.below hb1);rw[hpre]at h;obtain⟨Q,hQ⟩:=eX ((λe (w':World)=>∃v,e=Ending.returned v/\w'.ownsRow w.heap.size 3 1 v O.length (encI.all O)/\Below w.heap.size w w'));have HQ:=eu (λv w' (h:w'.ownsRow w.heap.size 3 1 v O.length (encI.all O))(hb:Below w.heap.size w w')=>show Q (.returned v) w' from by rw[<-hQ];exact⟨v,rfl,h,hb⟩);rw[hQ];have HO:=eu h;obtain⟨NN,aa⟩:=eX (l.length);rw[aa]at hw1 hpos HO x1⊢;have n1:(NN==0)=false:=by simp;omega
 have n2:((NN:Int)==0)=false:=by simp;omega
 obtain⟨HW1,ae,HB1⟩:=gW hw1 hbx hb1;clear hQ hw1 hbx hb1 h hpre hN hc hA aa
 go_enter func18,ntmps18
 go_upto_region 1 with fail
 rw[HW1.out,ae.out];clear HW1;go_wp2_with fail
 refine HO.out.mono ?_;rintro e w2 ⟨v,rfl,ho,hb2⟩;have HD:=eu (HQ.out v w2 (O3 ho HB1.out.size) (eU HB1.out hb2));clear ho hb2;go_wp2_with fail
 first|exact HD.out|(go_ret;exact HD.out)
end
section
open Go.RowKit
open Sq
open Ar
open Fl (Tk)
theorem RX(w:World)(tv nv:Value)(l:List Tk)(q:Nat)(t:List Nd)(a:Int)(hR:Reads iZ w tv l)(ht:Rw.jl q l)(hl:l.length<=100000)(hN:iR w nv t)(hc:Ck t l.length)(htl:t.length<=1000000):
 Calls prog 11 #[tv,.agg #[nv],.int .i64 a] w λe w'=>e=.returned (.int .i64 (Wk.Ak l t a))/\Below w.heap.size w w':=by
 obtain⟨ta,tc,rfl⟩:=hR.shape;obtain⟨na,nc,rfl⟩:=hN.shape;have HT:=eu (λW (hW:Below w.heap.size w W) j x hj=>iG (hR.below hW) j x hj);have HX:=eu (λW (hW:Below w.heap.size w W) j x hj=>(hN.below hW).at_ j x hj);have hall:=Wk.NI ht a;obtain⟨ay,HC⟩:=fD hall hc;have hpos:=hc.pos;obtain⟨x0,hx0,az,-,aG⟩:=hc.zero;have HX0:=eu hx0;obtain⟨NL,ai⟩:=eX (l.length);obtain⟨NN,aC⟩:=eX (t.length);obtain⟨aD,aH⟩:=fD ai aC;have aA:=eu (fun(K:Nat)(hK:K<NL)=>show Wk.kI x0 K=true from Wk.oh.2 ⟨by omega,by rw[az,ai];omega⟩);obtain⟨Q,hQ⟩:=eX ((λe (w':World)=>e=Ending.returned (.int .i64 (Wk.Ak l t a))/\Below w.heap.size w w'));have HQ:=eu (λv w' (hv:v=Wk.Ak l t a)(hb:Below w.heap.size w w')=>show Q (.returned (.int .i64 v)) w' from by rw[<-hQ,hv];exact⟨rfl,hb⟩);rw[hQ];rw[ai]at hl⊢;rw[aC]at htl hpos⊢;obtain⟨w1,hw1⟩:=eX (w.alloc (.cells #[.slice na NN nc] 31));have hb1:Below w.heap.size w w1:=hw1▸eZ w _;obtain⟨bx,hbx⟩:=eX (w.heap.size);have x1:w1.cell? ⟨bx,0,none⟩=some (.slice na NN nc):=by rw[<-hw1,<-hbx];exact at_new rfl
 have aI:=eu (λW (hW:Below w1.heap.size w1 W)=>fe hW x1);obtain⟨HW1,aK,HB1⟩:=gW hw1 hbx hb1;clear hQ ai aC hw1 hbx hb1 hR hN ht hall hc hx0 az aG x1
 go_enter func11,ntmps11
 go_upto_region 1 with fail
 rw[HW1.out,aK.out];clear HW1;go_wp2_with fail
 go_loopw [7,8] (λkv iv wr=>∃(i:Nat)(k:Int),iv=.int .i64 i/\i<=NL/\kv=.int .i64 k/\Hid (k=Wk.kP l a i)/\Hid (Below w1.heap.size w1 wr)) (λ_ iv _=>NL-(intOf iv).toNat)
 case atStart=>exact⟨0,-1,rfl,gG _,rfl,eu rfl,eu (fu _ _)⟩
 case round=>
  obtain⟨i,k,rfl,hi,rfl,HK,HB⟩:=hrel;by_cases hlt:i<NL
  ·obtain⟨x,hx⟩:=iT l i (by rw[aD.out];exact hlt);obtain⟨b,o,rfl,-,c1,c2⟩:=HT.out wr (eU HB1.out HB.out) i x hx;have hst:=Wk.BR (a:=a) hx;have gi:(i:Int)<(NL:Int):=by omega
   by_cases hf:(x.2.1:Int)<=a
   ·have gf:decide ((x.2.1:Int)<=a)=true:=iO hf;by_cases hto:a<(x.2.2:Nat)
    ·rw[eT ⟨hf,hto⟩]at hst;have HS:=eu (show(i:Int)=Wk.kP l a (i+1)from hst.symm);clear hst hx;go_wp2_with fail
     go_roundw
     case rel=>exact⟨i+1,i,by go_num,by omega,rfl,HS,HB⟩
     case measure=>simp[intOf];omega
    rw[eQ (λh=>hto h.2)]at hst;have HS:=eu (show k=Wk.kP l a (i+1)by rw[hst];exact HK.out);clear hst hx;go_wp2_with fail
    go_roundw
    case rel=>exact⟨i+1,k,by go_num,by omega,rfl,HS,HB⟩
    case measure=>simp[intOf];omega
   have gf:decide ((x.2.1:Int)<=a)=false:=iF hf;rw[eQ (λh=>hf h.1)]at hst;have HS:=eu (show k=Wk.kP l a (i+1)by rw[hst];exact HK.out);clear hst hx;go_wp2_with fail
   go_roundw
   case rel=>exact⟨i+1,k,by go_num,by omega,rfl,HS,HB⟩
   case measure=>simp[intOf];omega
  obtain rfl:i=NL:=by omega
  have hk:=HK.out;rw[<-aD.out,ay.out]at hk;have hmx:=Wk.Dc l a l.length (fC _);rw[ay.out,<-hk,aD.out]at hmx;clear hlt;by_cases hk0:k<0
  ·have aj:k=-1:=by
    rcases hmx with h|⟨m,x,e,-⟩
    ·exact h.1
    omega
   have HD:=eu (HQ.out (-1) wr (by unfold Wk.Ak;rw[<-hk,eT aj]) (eU HB1.out HB.out));clear hmx hk aj;go_wp2_with fail
   first|exact HD.out|(go_ret;exact HD.out)
  obtain⟨K,aL⟩:∃K:Nat,k=(K:Int):=⟨k.toNat,by omega⟩
  have aM:K<i:=by
   rcases hmx with h|⟨m,x,e,h2,-⟩
   ·omega
   omega
  have aN:=eu (Wk.Ri (t:=t) hk.symm (by omega));have H0:=eu (aA.out K aM);subst aL;have gk:¬((K:Int)<0):=hk0;clear hmx hk hk0 aA;go_wp2_with fail
  go_loopw [9] (λnv wx=>∃(n:Nat)(x:Nd),nv=.int .i64 n/\n<NN/\Hid (t[n]?=some x)/\Hid (Wk.kI x K=true)/\Hid (Below wr.heap.size wr wx)) (λnv _=>NN-(intOf nv).toNat)
  case atStart=>exact⟨0,x0,rfl,hpos,HX0,H0,eu (fu _ _)⟩
  case round=>
   rename World=>wx
   obtain⟨n,x,rfl,hn,af,aO,aB⟩:=hrel;have ag:=eu (eU HB.out aB.out);have cx:=aI.out wx ag.out;obtain⟨nb,no,ka,kc,rfl,-,-,-,-,c4,-,hks⟩:=HX.out wx (eU HB1.out ag.out) n x af.out;obtain⟨KN,ak⟩:=eX (x.ks.length);have aJ:=eu ak;have aj:KN<=maxLen:=by rw[<-ak];exact hks.size_le
   have aP:=eu hks;rw[ak]at c4;have gn:(n:Int)<(NN:Int):=by omega
   simp only[maxLen]at aj;clear ak hks;go_wp2_with fail
   clear c4 cx
   go_loopw [10,12] (λrv jv wy=>∃(j:Nat)(r:Int),jv=.int .i64 j/\j<=KN/\rv=.int .i64 r/\Hid (r=Wk.FR t K x.ks j)/\Hid (Below wx.heap.size wx wy)) (λ_ jv _=>KN-(intOf jv).toNat)
   case atStart=>exact⟨0,-1,rfl,gG _,rfl,eu rfl,eu (fu _ _)⟩
   case round=>
    rename World=>wy
    obtain⟨j,r,rfl,hj,rfl,aF,aa⟩:=hrel;by_cases hlt:j<KN
    ·obtain⟨z,hz⟩:=iT x.ks j (by rw[aJ.out];exact hlt);obtain⟨kb,ko,rfl,cz⟩:=qZ (aP.out.below aa.out) j z hz;obtain⟨m,y,av,hm0,hy,-⟩:=HC.out.kid n x af.out z (nQ hz);have ax:=(fT.1 hy).1;rw[aH.out]at ax;subst av;have hst:=Wk.Lc (l:=t) (k:=(K:Int)) hz (by rw[iE];exact hy);have cx:=aI.out wy (eU ag.out aa.out);obtain⟨aV,aW,ja,jc,he,-,d1,d2,-,-,-,-⟩:=HX.out wy (eU HB1.out (eU ag.out aa.out)) m y hy;injection he with he
     injection he with e1 e2
     subst e1 e2;have gj:(j:Int)<(KN:Int):=by omega
     have gm:(m:Int)<(NN:Int):=by omega
     have ae:=eu (λq=>gB aa.out q);by_cases hf:y.f<=(K:Int)
     ·have gf:decide (y.f<=(K:Int))=true:=iO hf;by_cases hto:(K:Int)<y.t
      ·rw[eT (Wk.oh.2 ⟨hf,hto⟩)]at hst;have gt:decide ((K:Int)<y.t)=true:=iO hto;have HS:=eu hst.symm;clear hst hz hy hf hto;go_wp2_with fail
       go_big_quiet (fail)
       have ah:=eu (ae.out nq);have aX:(wy.drewN nq).cell? ⟨kb,ko+j,none⟩=some (.int .i64 (m:Int)):=cz;clear cz cx d1 d2 ae;go_wp2_with fail
       go_roundw
       case rel=>exact⟨j+1,m,by go_num,by omega,rfl,HS,ah⟩
       case measure=>simp[intOf];omega
      rw[eQ (λh=>hto (Wk.oh.1 h).2)]at hst;have gt:decide ((K:Int)<y.t)=false:=iF hto;have HS:=eu (show r=Wk.FR t K x.ks (j+1)by rw[hst];exact aF.out);clear hst hz hy hf hto;go_wp2_with fail
      go_big_quiet (fail)
      have ah:=eu (ae.out nq);clear cz cx d1 d2 ae;go_wp2_with fail
      go_roundw
      case rel=>exact⟨j+1,r,by go_num,by omega,rfl,HS,ah⟩
      case measure=>simp[intOf];omega
     have gf:decide (y.f<=(K:Int))=false:=iF hf;rw[eQ (λh=>hf (Wk.oh.1 h).1)]at hst;have HS:=eu (show r=Wk.FR t K x.ks (j+1)by rw[hst];exact aF.out);clear hst hz hy hf;go_wp2_with fail
     go_big_quiet (fail)
     have ah:=eu (ae.out nq);clear cz cx d1 d2 ae;go_wp2_with fail
     go_roundw
     case rel=>exact⟨j+1,r,by go_num,by omega,rfl,HS,ah⟩
     case measure=>simp[intOf];omega
    obtain rfl:j=KN:=by omega
    have hr:=aF.out;rw[<-aJ.out]at hr;have hin:=Wk.Jm t K x.ks x.ks.length;rw[<-hr]at hin;have aQ:=eu (eU ag.out aa.out);clear hlt;by_cases hr0:r<0
    ·have HD:=eu (HQ.out (n:Int) wy (by
      rw[aN.out];refine(Wk.Hg HC.out af.out aO.out ?_).symm;intro c hcm xc aR;rcases hin with⟨-,h⟩|⟨z,y,e,hz,-⟩
      ·obtain⟨jj,hjj⟩:=rT hcm;exact h jj c xc (fT.1 hjj).1 hjj aR
      obtain⟨m,_,av,-⟩:=HC.out.kid n x af.out z hz
      omega) (eU HB1.out aQ.out))
     clear hin hr;go_wp2_with fail
     first|exact HD.out|(go_ret;exact HD.out)
    obtain⟨m,y,hrm,hy,hym,aY⟩:∃(m:Nat)(y:Nd),r=(m:Int)/\t[m]?=some y/\Wk.kI y K=true/\n<m:=by
     rcases hin with⟨h,-⟩|⟨z,y,e,hz,hy,hh⟩
     ·omega
     obtain⟨m,y2,av,hm0,hy2,hu,-⟩:=HC.out.kid n x af.out z hz;have:=HC.out.up m y2 hm0 hy2;refine⟨m,y,by omega,?_,hh,by omega⟩;rw[av,iE]at hy;exact hy
    subst hrm;have ax:=(fT.1 hy).1;rw[aH.out]at ax;obtain⟨aS,aT⟩:=fD hy hym;have gr:¬((m:Int)<0):=hr0;have aU:=eu (eU aB.out aa.out);clear hin hr hr0 hy hym;go_wp2_with fail
    go_roundw
    case rel=>exact⟨m,y,rfl,ax,aS,aT,aU⟩
    case measure=>simp[intOf];omega
end
end Go.Proofs.YtfbiffdmhcjhbaaGreat

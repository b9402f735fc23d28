import Derived.Test.YtfbiffdmhcjhbaaZa31
import Derived.Test.YtfbiffdmhcjhbaaZa33
set_option linter.all false
set_option maxHeartbeats 16000000
set_option maxRecDepth 100000
set_option synthInstance.maxSize 4000
set_option synthInstance.maxHeartbeats 0
namespace Go.Proofs.Ytfbiffdmhcjhbaa
open Go.RowKit Try
namespace Wk
open Ar
theorem all_in{l:List Nd}{n:Int}(h:Ck l n):∀(i:Nat)(x:Nd),l[i]?=some x->0<=x.f/\x.f<=x.t/\x.t<=n:=by
 intro i
 induction i using Nat.strongRecOn with
 |ind i ih=>
  intro x hx;rcases DK i with rfl|hi
  ·obtain⟨x',r,rfl,h1,h2,h3,h4,h5⟩:=h.first;obtain rfl:x'=x:=by simpa using hx
   exact⟨by omega,by omega,by omega⟩
  obtain⟨j,p,e1,e2,e3,e4,e5,e6,e7⟩:=Ef h hi hx;have:=ih j e2 p e3;exact⟨by omega,e6,by omega⟩
theorem KT(l:List Nd)(k:Int):∀j,(qM l k j=-1/\∀(i:Nat)(x:Nd),i<j->l[i]?=some x->zX x k=false)\/
 ∃(m:Nat)(y:Nd),qM l k j=(m:Int)/\m<j/\l[m]?=some y/\zX y k=true/\∀(i:Nat)(x:Nd),m<i->i<j->l[i]?=some x->zX x k=false
 |0=>.inl ⟨rfl,λi x h=>absurd h (BM _)⟩
 |j+1=>by
  have ih:=KT l k j;cases hx:l[j]? with
  |none=>
   have e:qM l k (j+1)=qM l k j:=by rw[qM,hx]
   rw[e];rcases ih with⟨h1,h2⟩|⟨m,y,h1,h2,h3,h4,h5⟩
   ·refine .inl ⟨h1,λi x hi hix=>?_⟩;by_cases e:i=j
    ·subst e;rw[hx]at hix;cases hix
    exact h2 i x (by omega) hix
   refine .inr ⟨m,y,h1,by omega,h3,h4,λi x hm hi hix=>?_⟩;by_cases e:i=j
   ·subst e;rw[hx]at hix;cases hix
   exact h5 i x hm (by omega) hix
  |some z=>
   rw[ET hx];by_cases hz:zX z k=true
   ·rw[gu hz];exact .inr ⟨j,z,rfl,by omega,hx,hz,λi x hm hi=>by omega⟩
   rw[fu hz];have hz':zX z k=false:=by simpa using hz
   rcases ih with⟨h1,h2⟩|⟨m,y,h1,h2,h3,h4,h5⟩
   ·refine .inl ⟨h1,λi x hi hix=>?_⟩;by_cases e:i=j
    ·subst e;rw[hx]at hix;injection hix with hix;subst hix;exact hz'
    exact h2 i x (by omega) hix
   refine .inr ⟨m,y,h1,by omega,h3,h4,λi x hm hi hix=>?_⟩;by_cases e:i=j
   ·subst e;rw[hx]at hix;injection hix with hix;subst hix;exact hz'
   exact h5 i x hm (by omega) hix
theorem MW{l:List Nd}{n:Int}(h:Ck l n){k:Int}(h0:0<=k)(hk:k<n):
 ∃(m:Nat)(y:Nd),qM l k l.length=(m:Int)/\m<l.length/\l[m]?=some y/\y.f<=k/\k<y.t/\∀z∈y.ks,∃(j:Nat)(c:Nd),z=(j:Int)/\l[j]?=some c/\c.f<=c.t/\¬(c.f<=k/\k<c.t):=by
 rcases KT l k l.length with⟨h1,h2⟩|⟨m,y,h1,h2,h3,h4,h5⟩
 ·exfalso;obtain⟨x,hx,e1,e2,e3⟩:=h.zero;have:=h2 0 x h.pos hx;unfold zX at this;rw[oP (by omega:x.f<=k),oP (by omega:k<x.t)]at this;cases this
 unfold zX at h4;rw[vY,Nv,Nv]at h4;refine⟨m,y,h1,h2,h3,h4.1,h4.2,λz hz=>?_⟩;obtain⟨j,c,e1,e2,e3,e4,e5,e6,e7⟩:=h.kid m y h3 z hz;have hu:=h.up j c e2 e3;have hj:=(nC.1 e3).1;have:=h5 j c (by omega) hj e3;refine⟨j,c,e1,e3,e6,λhc=>?_⟩;unfold zX at this;rw[oP hc.1,oP hc.2]at this;cases this
def yL(l:List Nd):Nat->Int->List Int
 |0,_=>[]
 |f+1,k=>if k<0 then[]else match l[k.toNat]? with
  |none=>[]
  |some x=>k::yL l f x.u
theorem G9{l:List Nd}(hg:bu l):∀(f g:Nat)(k:Int),k<f->k<g->yL l f k=yL l g k
 |0,0,k=>λ_ _=>rfl
 |0,g+1,k=>λh1 _=>by rw[yL,yL,gu (by omega)]
 |f+1,0,k=>λ_ h2=>by rw[yL,yL,gu (by omega)]
 |f+1,g+1,k=>λh1 h2=>by
  rw[yL,yL];by_cases hk:k<0
  ·rw[gu hk,gu hk]
  rw[fu hk,fu hk];cases hx:l[k.toNat]? with
  |none=>rfl
  |some x=>
   have:=hg.up k.toNat x hx;dsimp only;rw[G9 hg f g x.u (by omega) (by omega)]
def rE(l:List Nd)(k:Int):List Int:=yL l l.length k
theorem Ha{l:List Nd}{k:Int}(h:k<0):rE l k=[]:=by
 unfold rE;cases l.length with
 |zero=>rfl
 |succ f=>rw[yL,gu h]
theorem Hd{l:List Nd}(hg:bu l){k:Nat}{x:Nd}(h:l[k]?=some x):rE l k=(k:Int)::rE l x.u:=by
 have hl:=(nC.1 h).1;have hu:=hg.up k x h;unfold rE;obtain⟨f,hf⟩:∃f,l.length=f+1:=⟨l.length-1,by omega⟩
 rw[hf,yL,fu (by omega),oN,h];dsimp only;rw[G9 hg f (f+1) x.u (by omega) (by omega)]
theorem QA{l:List Nd}{n:Int}(h:Ck l n):∀(k:Nat),k<l.length->(rE l k).head?=some (k:Int)/\(rE l k).getLast?=some 0/\(rE l k).length<=k+1:=by
 intro k
 induction k using Nat.strongRecOn with
 |ind k ih=>
  intro hk;have hx:l[k]?=some l[k]:=qQ hk;obtain⟨x,hx⟩:∃x,l[k]?=some x:=⟨_,hx⟩
  rw[Hd h.good hx];rcases DK k with rfl|hpos
  ·obtain⟨x',h1,_,h3,_⟩:=h.zero;rw[h1]at hx;injection hx with hx
   subst hx;rw[Ha (by omega)];exact⟨rfl,rfl,mJ _⟩
  obtain⟨j,p,e1,e2,e3,_⟩:=Ef h hpos hx;have hj:=(nC.1 e3).1;obtain⟨i1,i2,i3⟩:=ih j e2 hj;rw[e1];refine⟨rfl,?_,by rw[nI];omega⟩;cases ho:rE l (j:Int)with
  |nil=>rw[ho]at i2;cases i2
  |cons a r=>rw[ho]at i2;rw[Ra];exact i2
end Wk
section
open Go.RowKit
open Sq
open Ar
open Fl (Tk)
namespace Wk
def DY(l:List Tk)(f:Nat):Nat:=if f<l.length then Fl.wu l f else if 0<f then Fl.too l (f-1)else 0
def oF(l:List Tk)(f t:Nat):Nat×Nat:=if f<t then(Fl.wu l f,Fl.too l (t-1))else(DY l f,DY l f)
end Wk
theorem Vy(w:World)(tv:Value)(l:List Tk)(f:Nat)(hR:Reads qB w tv l)(hl:l.length<=100000)(hf:f<=l.length):
 Calls prog 30 #[tv,.int .i64 f] w λe w'=>e=.returned (.int .i64 (Wk.DY l f:Nat))/\w=w':=by
 obtain⟨ta,tc,rfl⟩:=hR.shape;have HX:=eu (λj x hj=>o8 hR j x hj);obtain⟨V,hV⟩:=my (Wk.DY l f);rw[hV];have HV:=eu hV;obtain⟨NL,ae⟩:=my (l.length);have aa:=eu ae;rw[ae]at hl hf⊢;clear hV ae hR;by_cases h1:f<NL
 ·obtain⟨x,hx⟩:=pG l f (by rw[aa.out];omega);obtain⟨b,o,rfl,c0,c1,c2⟩:=HX.out f x hx;have hv:x.2.1=V:=by rw[<-HV.out];unfold Wk.DY;rw[gu (by rw[aa.out];exact h1),yT hx]
  rw[hv]at c1;have g1:(f:Int)<(NL:Int):=by omega
  clear HX hx hv HV c0 c2
  go_enter func30,ntmps30
  go_wp2_with fail
  go_ret;exact⟨rfl,rfl⟩
 have g1:¬(f:Int)<(NL:Int):=by omega
 by_cases h2:0<f
 ·obtain⟨j,rfl⟩:∃j,f=j+1:=⟨f-1,by omega⟩
  obtain⟨x,hx⟩:=pG l j (by rw[aa.out];omega);obtain⟨b,o,rfl,c0,c1,c2⟩:=HX.out j x hx;have hv:x.2.2=V:=by rw[<-HV.out];unfold Wk.DY;rw[fu (by rw[aa.out];exact h1),gu h2,si,uI hx]
  rw[hv]at c2;have gj:(j:Int)<(NL:Int):=by omega
  have gw:IntKind.i64.wrap (((j+1:Nat):Int)-1)=(j:Int):=by
   rw[show((j+1:Nat):Int)-1=(j:Int)by omega];exact qA _ (by omega)
  clear HX hx hv HV c0 c1
  go_enter func30,ntmps30
  go_wp2_with fail
  go_ret;exact⟨rfl,rfl⟩
 obtain rfl:f=0:=by omega
 have hv:(0:Nat)=V:=by rw[<-HV.out];unfold Wk.DY;rw[fu (by rw[aa.out];exact h1),fu h2]
 subst hv;have hn:NL=0:=by omega
 subst hn;clear HX HV g1
 go_enter func30,ntmps30
 go_wp2_with fail
 go_ret;exact⟨rfl,rfl⟩
theorem OI(w:World)(tv kv:Value)(l:List Tk)(k u:Int)(f t:Nat)(y:Bool)(hR:Reads qB w tv l)(hl:l.length<=100000)(hft:f<=t)(htl:t<=l.length):
 Calls prog 15 #[tv,.agg #[.int .i64 k,.int .i64 f,.int .i64 t,.int .i64 u,kv,.bool y]] w λe w'=>e=.returned (.agg #[.int .i64 ((Wk.oF l f t).1:Nat),.int .i64 ((Wk.oF l f t).2:Nat)])/\Below w.heap.size w w':=by
 obtain⟨ta,tc,rfl⟩:=hR.shape;have HX:=eu (λW (hW:Below w.heap.size w W) j x hj=>o8 (hR.below hW) j x hj);obtain⟨NL,aa⟩:=my (l.length);have ae:=eu aa;rw[aa]at hl htl⊢;have ai:=λW (hW:Below w.heap.size w W)=>hR.below hW
 rw[aa]at ai;clear aa hR;have g1:¬((f:Int)<0):=by omega
 have g2:¬((f:Int)>(t:Int)):=by omega
 have g3:¬((t:Int)>(NL:Int)):=by omega
 have g22:¬(t<f):=by omega
 have ak:¬(NL<t):=by omega
 obtain⟨w1,hw1⟩:=my (w.alloc (.cells #[.int .i64 k,.int .i64 f,.int .i64 t,.int .i64 u,kv,.bool y] 37));obtain⟨w2,hw2⟩:=my (w1.alloc (.cells #[.int .i64 0,.int .i64 0] 43));have hb1:Below w.heap.size w w1:=hw1▸mr w _;have hb2:Below w1.heap.size w1 w2:=hw2▸mr w1 _;have hb:Below w.heap.size w w2:=lu hb1 hb2;have hs1:w1.heap.size=w.heap.size+1:=by rw[<-hw1];simp
 have x1:w2.cell? ⟨w.heap.size,1,none⟩=some (.int .i64 f):=by rw[<-hw2];refine oG ?_;rw[<-hw1];exact at_new rfl
 have x2:w2.cell? ⟨w.heap.size,2,none⟩=some (.int .i64 t):=by rw[<-hw2];refine oG ?_;rw[<-hw1];exact at_new rfl
 obtain⟨bs,hbs⟩:=my (w1.heap.size);have s0:w2.cell? ⟨bs,0,none⟩=some (.int .i64 0):=by rw[<-hw2,<-hbs];exact at_new rfl
 have s1:w2.cell? ⟨bs,1,none⟩=some (.int .i64 0):=by rw[<-hw2,<-hbs];exact at_new rfl
 have f0:w2.frozen? ⟨bs,0,none⟩=false:=by rw[<-hw2,<-hbs];exact(zl rfl).2
 have f1:w2.frozen? ⟨bs,1,none⟩=false:=by rw[<-hw2,<-hbs];exact(zl rfl).2
 have hblk:w2.heap[bs]?=some (.cells #[.int .i64 0,.int .i64 0] 43 (0,0)):=by rw[<-hw2,<-hbs];exact rA _ _
 have af:w.heap.size<=bs:=by omega
 have HS:=eu (fun(A B:Value)=>show((w2.setCell ⟨bs,0,none⟩ A).setCell ⟨bs,1,none⟩ B).cell? ⟨bs,0,none⟩=some A/\((w2.setCell ⟨bs,0,none⟩ A).setCell ⟨bs,1,none⟩ B).cell? ⟨bs,1,none⟩=some B/\Below w.heap.size w ((w2.setCell ⟨bs,0,none⟩ A).setCell ⟨bs,1,none⟩ B)from by
  have h0:(w2.setCell ⟨bs,0,none⟩ A).heap[bs]?=some (.cells ((#[.int .i64 0,.int .i64 0]:Array Value).setIfInBounds 0 A) 43 (0,0)):=uq hblk A;have h1:((w2.setCell ⟨bs,0,none⟩ A).setCell ⟨bs,1,none⟩ B).heap[bs]?=some (.cells (((#[.int .i64 0,.int .i64 0]:Array Value).setIfInBounds 0 A).setIfInBounds 1 B) 43 (0,0)):=uq h0 B
  exact⟨(nz h1 0).trans rfl,(nz h1 1).trans rfl,(hb.setCell (p:=⟨bs,0,none⟩) af A).setCell (p:=⟨bs,1,none⟩) af B⟩)
 obtain⟨HW1,HW2,av⟩:=nY hw1 hw2 hbs;clear hblk;have ag:=eu (show w.heap.size+1=bs by omega);have HB:=eu hb;clear hw1 hw2 hbs hb1 hb2 hs1;by_cases h1:f<t
 ·obtain⟨j,hj⟩:=my (t-1);obtain⟨x,hx⟩:=pG l f (by rw[ae.out];omega);obtain⟨z,hz⟩:=pG l j (by rw[ae.out];omega);obtain⟨b,o,rfl,-,c1,-⟩:=HX.out w2 hb f x hx;obtain⟨b',o',e',-,-,c2⟩:=HX.out w2 hb j z hz;injection e' with e'
  injection e' with e1 e2
  subst e1 e2;have gf:(f:Int)<(NL:Int):=by omega
  have gj:(j:Int)<(NL:Int):=by omega
  have aj:(f:Int)<(t:Int):=by omega
  have gw:IntKind.i64.wrap ((t:Int)-1)=(j:Int):=by
   rw[show(t:Int)-1=(j:Int)by omega];exact qA _ (by omega)
  have hsp:Wk.oF l f t=(x.2.1,z.2.2):=by unfold Wk.oF;rw[gu h1,yT hx,hj,uI hz]
  rw[hsp];clear hb hj hx hz hsp
  go_enter func15,ntmps15
  go_upto_region 1 with fail
  rw[HW1.out,ag.out,HW2.out];go_upto_region 4 with fail
  go_region
  obtain⟨r0,r1,rb⟩:=HS.out (.int .i64 x.2.1) (.int .i64 z.2.2);have ah:=eu rb;clear rb;go_wp2_with fail
  refine yJ (v:=.agg #[.int .i64 x.2.1,.int .i64 z.2.2]) ?_ rfl ⟨rfl,ah.out.drew⟩;simp[results,results15,go_sem,r0,r1]
 have aj:¬(f:Int)<(t:Int):=by omega
 have hsp:Wk.oF l f t=(Wk.DY l f,Wk.DY l f):=by unfold Wk.oF;rw[fu h1]
 rw[hsp];obtain⟨V,hV⟩:=my (Wk.DY l f);have hbg:=Vy w2 (.slice ta NL tc) l f (ai w2 hb) (by rw[ae.out];exact hl) (by rw[ae.out];omega);rw[hV]at hbg⊢;have HG:=eu hbg;clear hb hsp hbg hV
 go_enter func15,ntmps15
 go_upto_region 1 with fail
 rw[HW1.out,ag.out,HW2.out];go_wp2_with fail
 refine HG.out.mono ?_;rintro e w3 ⟨rfl,rfl⟩;obtain⟨r0,r1,rb⟩:=HS.out (.int .i64 (V:Nat)) (.int .i64 (V:Nat));have ah:=eu rb;clear rb HG;go_wp2_with fail
 refine yJ (v:=.agg #[.int .i64 (V:Nat),.int .i64 (V:Nat)]) ?_ rfl ⟨rfl,ah.out⟩;simp[results,results15,go_sem,r0,r1]
end
section
open Go.RowKit
open Sq
open Ar
open Fl (Tk)
theorem Dl{l:List Tk}{q:Nat}(ht:Rw.pI q l){x:Tk}(hx:l[0]?=some x):x.2.1=q:=by
 cases l with
 |nil=>simp at hx
 |cons y r=>
  obtain rfl:y=x:=by simpa using hx
  exact ht.1
theorem EV:∀{l:List Tk}{q:Nat},Rw.pI q l->∀(j:Nat)(x y:Tk),l[j]?=some x->l[j+1]?=some y->y.2.1=x.2.2
 |[],_,_,j,x,y,hx,_=>by simp at hx
 |z::r,q,ht,0,x,y,hx,hy=>by
  obtain rfl:z=x:=by simpa using hx
  exact Dl ht.2.2 (by simpa using hy)
 |z::r,q,ht,j+1,x,y,hx,hy=>EV ht.2.2 j x y (by simpa using hx) (by simpa using hy)
theorem Vz{l:List Tk}(ht:Rw.pI 0 l){a:Int}(h0:0<=a)(h1:∃z,l.getLast?=some z/\a<(z.2.2:Nat)):
 ∃(i:Nat)(x:Tk),Wk.DX l a=(i:Int)/\i<l.length/\l[i]?=some x/\(x.2.1:Int)<=a/\a<(x.2.2:Nat):=by
 obtain⟨s1,s2,s3⟩:=KM ht a;obtain⟨z,hz,hza⟩:=h1;have hne:0<l.length:=by
  cases l with
  |nil=>cases hz
  |cons y r=>simp
 have hlast:l[l.length-1]?=some z:=by rw[<-Rb];exact hz
 obtain⟨i,hi⟩:=my (Wk.A8 l a);rw[hi]at s1 s2 s3;have hil:i<l.length:=by
  rcases sJ i l.length with h|h
  ·exact h
  have:=s2 (l.length-1) (by omega);rw[uI hlast]at this;omega
 obtain⟨x,hx⟩:=pG l i hil;have h4:=s3 i (mJ _) hil;rw[uI hx]at h4;have h5:(x.2.1:Int)<=a:=by
  cases i with
  |zero=>have:=Dl ht hx;omega
  |succ j=>
   obtain⟨y,hy⟩:=pG l j (by omega);have h6:=EV ht j y x hy hx;have h7:=s2 j (by omega);rw[uI hy]at h7;omega
 refine⟨i,x,?_,hil,hx,h5,h4⟩;unfold Wk.DX;rw[hi,fu (by omega),yT hx,fu (by omega)]
end
section
open Go.RowKit
open Sq
open Ar
open Fl (Tk)
theorem He:∀(f:Nat)(s:Sc.St)(p:Nat)(l:List Nat),l.length<=f->l≠[]->∃z,(Sc.toks f s p l).getLast?=some z/\z.2.2=p+l.length
 |0,_,_,l=>λh hl=>absurd (uV (by omega)) hl
 |f+1,s,p,l=>λh hl=>by
  rw[Sc.toks,fu hl];have hp:=Sc.step_pos s l hl;have hd:(l.drop (Sc.step s l).2.1).length=l.length-(Sc.step s l).2.1:=oz;by_cases he:l.drop (Sc.step s l).2.1=[]
  ·rw[he];have hz:(l.drop (Sc.step s l).2.1).length=0:=by rw[he];rfl
   have e:∀q t,Sc.toks f q t []=[]:=by
    intro q t;cases f with
    |zero=>rfl
    |succ f=>rw[Sc.toks,gu rfl]
   rw[e];exact⟨_,rfl,by show p+(Sc.step s l).2.1=_;omega⟩
  obtain⟨z,h1,h2⟩:=He f (Sc.step s l).2.2 (p+(Sc.step s l).2.1) (l.drop (Sc.step s l).2.1) (by omega) he;refine⟨z,?_,by omega⟩;rw[List.getLast?_cons,h1];rfl
theorem Jw(l:List Nat)(h0:l≠[])(h:l.length<=16384):∃z,(Sc.tokens l).getLast?=some z/\z.2.2=l.length:=by
 unfold Sc.tokens;rw[fu (by omega)];obtain⟨z,h1,h2⟩:=He l.length (Sc.fresh 0 (-1)) 0 l (mJ _) h0;exact⟨z,h1,by omega⟩
theorem CW{l:List Tk}(ht:Rw.pI 0 l){k f t:Nat}{x:Tk}(hx:l[k]?=some x)(h1:f<=k)(h2:k<t)(h3:t<=l.length):(Wk.oF l f t).1<=x.2.1/\x.2.2<=(Wk.oF l f t).2:=by
 unfold Wk.oF;rw[gu (by omega)];obtain⟨a,ha⟩:=pG l f (by omega);obtain⟨b,hb⟩:=pG l (t-1) (by omega);rw[yT ha,uI hb];constructor
 ·rcases sJ f k with h|h
  ·have:=ht.lt f k a x h ha hx;have:=ht.le f a ha;show a.2.1<=_;omega
  obtain rfl:f=k:=by omega
  rw[ha]at hx;injection hx with hx;subst hx;exact mJ _
 rcases sJ k (t-1)with h|h
 ·have:=ht.lt k (t-1) x b h hx hb;have:=ht.le (t-1) b hb;show _<=b.2.2;omega
 obtain rfl:k=t-1:=by omega
 rw[hb]at hx;injection hx with hx;subst hx;exact mJ _
theorem QB{l:List Tk}(ht:Rw.pI 0 l){k f t:Nat}{x:Tk}(hx:l[k]?=some x)(h:¬(f<=k/\k<t))(hft:f<=t)(h3:t<=l.length){a:Nat}(ha1:x.2.1<=a)(ha2:a<x.2.2):¬((Wk.oF l f t).1<=a/\a<(Wk.oF l f t).2):=by
 unfold Wk.oF;by_cases hlt:f<t
 ·rw[gu hlt];obtain⟨p,hp⟩:=pG l f (by omega);obtain⟨b,hb⟩:=pG l (t-1) (by omega);rw[yT hp,uI hb];show¬(p.2.1<=a/\a<b.2.2);rcases sJ k f with h'|h'
  ·have:=ht.lt k f x p h' hx hp;omega
  have:=ht.lt (t-1) k b x (by omega) hb hx;omega
 rw[fu hlt];show¬(_<=a/\a<_);omega
end
end Go.Proofs.Ytfbiffdmhcjhbaa

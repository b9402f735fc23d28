import Derived.Test.YtmkkdjpebbdikaaGreatDoorZn12
import Derived.Test.YtmkkdjpebbdikaaGreatDoorZn13
import Derived.Test.YtmkkdjpebbdikaaGreatDoorZn14
set_option linter.all false
set_option maxHeartbeats 16000000
set_option maxRecDepth 100000
namespace Go.Proofs.YtmkkdjpebbdikaaGreatDoor
open Go.RowKit Go.Proofs.Tryz
section
open Go.RowKit
open Sq
open Fl (raw iQ nD qg cnt back)
theorem U2(k:Nat)(w:World):Calls prog 70 #[.int .i64 k] w λe w'=>e=.returned (.bool (!cnt k))/\w=w':=by
 go_enter func70,ntmps70
 go_wp2;all_goals (go_ret;refine⟨congrArg (λb=>Ending.returned (.bool b)) ?_,rfl⟩)
 all_goals (rw[nP];simp[cnt]at*;try omega)
theorem WG(k:Nat)(w:World):Calls prog 38 #[.int .i64 k] w λe w'=>e=.returned (.bool (k==20||k==21))/\w=w':=by
 go_enter func38,ntmps38
 go_wp2;all_goals (go_ret;refine⟨congrArg (λb=>Ending.returned (.bool b)) ?_,rfl⟩)
 all_goals (rw[nP];simp at*;try omega)
theorem xe(rb:Nat)(v:Value)(l:List Tk)(f p:Nat)(w:World)(hc:w.cell? ⟨rb,1,none⟩=some v)(h:Reads iU w v l)(hf:f<=p)(hp:p<=l.length)(hs:l.length<=100000):
 Calls prog 44 #[RP rb,.int .i64 f,.int .i64 p] w λe w'=>e=.returned (.int .i64 (Ps.lo l f p:Nat))/\w=w':=by
 obtain⟨a,cap,rfl⟩:=h.shape;obtain⟨P,hP⟩:∃P:Nat->Bool,(λj=>!cnt (raw l j))=P:=⟨_,rfl⟩
 have HX:=eZ (λi (x:Tk)(hi:l[i]?=some x)=>show(!cnt (x.1))=P i by rw[<-hP];show _=(!cnt (raw l i));rw[Fl.rM hi]);have H:=eZ (λj x (hj:l[j]?=some x)=>iZ h j x hj);have HC:=eZ (λk=>U2 k w);obtain⟨T,hT⟩:=fq (Ps.lo l f p);rw[hT];have HF:=eZ hf;unfold Ps.lo at hT;rw[hP]at hT;have HT:=eZ hT;obtain⟨N,hN⟩:=fq (l.length);have HN:=eZ hN;rw[hN]at hs hc hp;clear h hN hT hP hf
 go_enter func44,ntmps44
 go_wp2_with fail
 go_loopw [1] (λiv wr=>∃k:Nat,iv=.int .i64 k/\k<=p/\Hid (iQ P (p-k) k=T)/\w=wr) (λiv _=>p-(intOf iv).toNat)
 case atStart=>exact⟨f,rfl,HF.out,HT,rfl⟩
 case round=>
  obtain⟨k,rfl,hk,ae,rfl⟩:=hrel;by_cases hlt:k<p
  ·obtain⟨x,hx⟩:=jB l k (by rw[HN.out];omega);have aa:=HX.out k x hx;obtain⟨b,off,rfl,c0,-,-⟩:=H.out k x hx;have hst:=nD P p k hlt;obtain⟨K,hK⟩:=fq (x.1);rw[hK]at c0 aa;have hcl:=HC.out K;have gk:(k:Int)<(N:Int):=by omega
   have gp:(k:Int)<(p:Int):=by omega
   have gd:decide ((k:Int)<(p:Int))=true:=lI gp;cases q:P k with
   |true=>
    rw[q]at hst aa;rw[eY rfl]at hst;have ag:=eZ (show iQ P (p-(k+1)) (k+1)=T by rw[<-ae.out];exact hst.symm);have e:(!cnt K)=true:=aa;rw[e]at hcl;have af:=eZ hcl;clear hcl hst hx hK q e H HX HC ae HT aa HF;go_wp2_with fail
    refine af.out.mono ?_;rintro e w1 ⟨rfl,rfl⟩;go_wp2_with fail
    go_roundw
    case rel=>exact⟨k+1,by go_num,by omega,ag,trivial⟩
    case measure=>simp[intOf];omega
   |false=>
    rw[q]at hst aa;rw[eX (by decide)]at hst;obtain rfl:T=k:=by rw[<-ae.out];exact hst
    have e:(!cnt K)=false:=aa;rw[e]at hcl;have af:=eZ hcl;clear hcl hst hx hK q e H HX HC ae HT aa HF;go_wp2_with fail
    refine af.out.mono ?_;rintro e w1 ⟨rfl,rfl⟩;go_wp2_with fail
    go_ret;exact⟨rfl,rfl⟩
  obtain rfl:k=p:=by omega
  obtain rfl:T=k:=by rw[<-ae.out];exact qg P k
  have gp:¬(T:Int)<(T:Int):=by omega
  have gd:decide ((T:Int)<(T:Int))=false:=jE gp;clear H HX HC ae HT hlt HF;go_wp2_with fail
  go_ret;exact⟨rfl,rfl⟩
theorem Ox(rb:Nat)(v:Value)(l:List Tk)(f:Nat)(w:World)(hc:w.cell? ⟨rb,1,none⟩=some v)(h:Reads iU w v l)(hf:f<=l.length)(hs:l.length<=100000):
 Calls prog 21 #[RP rb,.int .i64 f] w λe w'=>e=.returned (.int .i64 (Ps.limit l f:Nat))/\w=w':=by
 obtain⟨a,cap,rfl⟩:=h.shape;obtain⟨P,hP⟩:∃P:Nat->Bool,(λj=>raw l j !=20&&raw l j !=21)=P:=⟨_,rfl⟩
 have HX:=eZ (λi (x:Tk)(hi:l[i]?=some x)=>show(x.1 !=20&&x.1 !=21)=P i by rw[<-hP];show _=(raw l i !=20&&raw l i !=21);rw[Fl.rM hi]);have H:=eZ (λj x (hj:l[j]?=some x)=>iZ h j x hj);have HC:=eZ (λk=>WG k w);obtain⟨T,hT⟩:=fq (Ps.limit l f);rw[hT];unfold Ps.limit at hT;rw[hP]at hT;obtain⟨p,hN⟩:=fq (l.length);have HN:=eZ hN;rw[hN]at hs hc hT hf;obtain⟨HF,HT⟩:=fT hf hT;clear h hN hT hP hf
 go_enter func21,ntmps21
 go_wp2_with fail
 go_loopw [1] (λiv wr=>∃k:Nat,iv=.int .i64 k/\k<=p/\Hid (iQ P (p-k) k=T)/\w=wr) (λiv _=>p-(intOf iv).toNat)
 case atStart=>exact⟨f,rfl,HF.out,HT,rfl⟩
 case round=>
  obtain⟨k,rfl,hk,ae,rfl⟩:=hrel;by_cases hlt:k<p
  ·obtain⟨x,hx⟩:=jB l k (by rw[HN.out];omega);have aa:=HX.out k x hx;obtain⟨b,off,rfl,c0,-,-⟩:=H.out k x hx;have hst:=nD P p k hlt;obtain⟨K,hK⟩:=fq (x.1);rw[hK]at c0 aa;have hcl:=HC.out K;have gp:(k:Int)<(p:Int):=by omega
   have gd:decide ((k:Int)<(p:Int))=true:=lI gp;cases q:P k with
   |true=>
    rw[q]at hst aa;rw[eY rfl]at hst;have ag:=eZ (show iQ P (p-(k+1)) (k+1)=T by rw[<-ae.out];exact hst.symm);have e:(K==20||K==21)=false:=by simp at aa⊢;exact aa
    rw[e]at hcl;have af:=eZ hcl;clear hcl hst hx hK q e H HX HC ae HT aa HF;go_wp2_with fail
    refine af.out.mono ?_;rintro e w1 ⟨rfl,rfl⟩;go_wp2_with fail
    go_roundw
    case rel=>exact⟨k+1,by go_num,by omega,ag,trivial⟩
    case measure=>simp[intOf];omega
   |false=>
    rw[q]at hst aa;rw[eX (by decide)]at hst;obtain rfl:T=k:=by rw[<-ae.out];exact hst
    have e:(K==20||K==21)=true:=by simp at aa⊢;omega
    rw[e]at hcl;have af:=eZ hcl;clear hcl hst hx hK q e H HX HC ae HT aa HF;go_wp2_with fail
    refine af.out.mono ?_;rintro e w1 ⟨rfl,rfl⟩;go_wp2_with fail
    go_ret;exact⟨rfl,rfl⟩
  obtain rfl:k=p:=by omega
  obtain rfl:T=k:=by rw[<-ae.out];exact qg P k
  have gp:¬(T:Int)<(T:Int):=by omega
  have gd:decide ((T:Int)<(T:Int))=false:=jE gp;clear H HX HC ae HT hlt HF;go_wp2_with fail
  go_ret;exact⟨rfl,rfl⟩
theorem F5(rb:Nat)(v:Value)(l:List Tk)(p m:Nat)(w:World)(hc:w.cell? ⟨rb,1,none⟩=some v)(h:Reads iU w v l)(hp:p<=l.length)(hs:l.length<=100000)(hm0:0<m)(hmp:m<=p)(hm:∃z,m<=z/\z<=p/\cnt (raw l (z-1))=true):
 Calls prog 96 #[RP rb,.int .i64 p] w λe w'=>e=.returned (.int .i64 (back l p m:Nat))/\w=w':=by
 obtain⟨a,cap,rfl⟩:=h.shape;obtain⟨z,hz1,hz2,hz3⟩:=hm;have H:=eZ (λj x (hj:l[j]?=some x)=>iZ h j x hj);have HC:=eZ (λk=>U2 k w)
 have HB:=eZ (λi (h1:z<=i)(h2:0<i)=>show back l i m=if cnt (raw l (i-1))=true then i else back l (i-1) m by
  obtain⟨i,rfl⟩:∃k,i=k+1:=⟨i-1,by omega⟩
  rw[back,jH];by_cases e:cnt (raw l i)=true
  ·rw[eX (λh=>by rw[e]at h;exact absurd h.2 (by decide)),eY e]
  rw[eX e];have hne:z≠i+1:=λh=>by rw[h,jH]at hz3;exact e hz3
  rw[eY ⟨by omega,by simpa using e⟩])
 obtain⟨T,hT⟩:=fq (back l p m);rw[hT];obtain⟨HT,HZ⟩:=fT hT hz3;obtain⟨N,hN⟩:=fq (l.length);have HN:=eZ hN;rw[hN]at hp hs hc;have hz0:0<z:=by omega
 clear h hN hT hz3 hmp
 go_enter func96,ntmps96
 go_wp2_with fail
 go_loopw [1] (λiv wr=>∃k:Nat,iv=.int .i64 k/\k<=N/\z<=k/\Hid (back l k m=T)/\w=wr) (λiv _=>(intOf iv).toNat)
 case atStart=>exact⟨p,rfl,hp,hz2,HT,rfl⟩
 case round=>
  obtain⟨k,rfl,hk,ae,aa,rfl⟩:=hrel;have hst:=HB.out k ae (by omega);obtain⟨i,rfl⟩:∃i,k=i+1:=⟨k-1,by omega⟩
  rw[jH]at hst;obtain⟨x,hx⟩:=jB l i (by rw[HN.out];omega);obtain⟨b,off,rfl,c0,-,-⟩:=H.out i x hx;have hr:=Fl.rM hx;obtain⟨K,hK⟩:=fq (x.1);rw[hK]at c0 hr;rw[hr]at hst;have hcl:=HC.out K
  have HZ2:=eZ (fun(e:cnt K=false)=>show z<=i by
   have h1:=HZ.out;by_cases h2:z=i+1
   ·rw[h2,jH,hr,e]at h1;cases h1
   omega)
  have gw:IntKind.i64.wrap (((i+1:Nat):Int)-1)=(i:Int):=by
   rw[show((i+1:Nat):Int)-1=(i:Int)by omega];exact qL _ (by omega)
  have gi:(i:Int)<(N:Int):=by omega
  cases q:cnt K with
  |true=>
   rw[q]at hst hcl;rw[eY rfl]at hst;obtain rfl:T=i+1:=by rw[<-aa.out];exact hst
   have af:=eZ hcl;clear hcl hst hx hK hr HZ2 H HC HB aa HT HN HZ q hm0 ae hz1 hz2 hz0 gw;go_wp2_with fail
   refine af.out.mono ?_;rintro e w1 ⟨rfl,rfl⟩;go_wp2_with fail
   go_ret;exact⟨rfl,rfl⟩
  |false=>
   rw[q]at hst hcl;rw[eX (by decide)]at hst;have ag:=eZ (show back l i m=T by rw[<-aa.out];exact hst.symm);have hzi:=HZ2.out q;have af:=eZ hcl;clear hcl hst hx hK hr HZ2 H HC HB aa HT HN HZ q hm0 ae hz1 hz2 gw;go_wp2_with fail
   refine af.out.mono ?_;rintro e w1 ⟨rfl,rfl⟩;go_wp2_with fail
   go_roundw
   case rel=>exact⟨i,by go_num,by omega,hzi,ag,trivial⟩
   case measure=>simp[intOf]
end
namespace Pr
open Ar Fl
open Rw (R E)
open Ps (lo PS kindOf OK sW Bs jQ lJ xG holder outer oI nR Inv)
theorem L6{ts:List Tk}{n:Nat}(h:Rw.nY ts=some n):∃x,ts[0]?=some x/\Sc.counts x.1=true:=by
 cases ts with
 |nil=>simp[Rw.nY,Rw.jO]at h
 |cons x r=>
  refine⟨x,rfl,?_⟩;by_cases hp:Rw.isProp x.1=true
  ·unfold Rw.isProp at hp;simp at hp;rcases hp with hp|hp<;>rw[hp]<;>rfl
  have h0:Rw.mZ (x::r).length (x::r)=0:=by
   rw[jh,Rw.mZ];exact eX hp
  by_cases hs:Rw.ig x.1=true
  ·unfold Rw.ig at hs;simp at hs;rcases hs with((hs|hs)|hs)|hs<;>rw[hs]<;>rfl
  have h1:Rw.wE (x::r)=0:=eX hs;unfold Rw.nY Rw.qy at h;rw[h0,lQ,h1,lQ]at h;by_cases h6:Rw.jO (x::r)=6
  ·have h6:x.1=6:=h6;rw[h6];rfl
  rw[eX h6]at h;cases h
theorem Kb:∀(es:List E)(p:Nat)(c:Int),Rw.Ord p c es->∀e∈es,c<e.fG
 |[],_,_,_,e,he=>by cases he
 |x::r,p,c,⟨h1,h2,h3,h4,h5⟩,e,he=>by
  rcases l5.1 he with rfl|he
  ·exact h3
  have:=Kb r _ _ h5 e he;omega
structure XP(l:List Tk)(T:Nat)(e:E):Prop where
 last:raw l (e.bu-1)=5\/raw l (e.bu-1)=6
 fG:0<=e.fG
 cnt:cnt (raw l e.from')=true
 lt:e.from'<T
theorem CG{l:List Tk}{r:R}(ht:Rw.kK 0 l)(h:oI l r)(h5:r.kind=5):∀e∈(Rw.iP l r).1,XP l r.bu e:=by
 have hlt:=h.lt;have hle:=h.le;obtain⟨ts,hts⟩:=fq ((l.drop r.from').take (r.bu-r.from'));have ae:Rw.iP l r=(Rw.l9 r.from' ts,Rw.pX r.from' ts):=by unfold Rw.iP;rw[eY h5,hts]
 have hget:∀i x,ts[i]?=some x->l[r.from'+i]?=some x/\i<r.bu-r.from':=by
  intro i x hx;have hi:=(gD.1 hx).1;rw[<-hts]at hi;rw[kD,iT]at hi;rw[<-hts,rD (by omega),sJ]at hx;exact⟨hx,by omega⟩
 obtain⟨q,hq⟩:=Rw.kK.drop ht r.from';have af:Rw.kK q ts:=by rw[<-hts];exact Rw.ym _ _ hq
 rw[ae];intro e he;have ag:=Kb _ _ _ (Rw.Fx af r.from') e he;obtain⟨c1,x,c2,c3⟩:=Ps.FE r.from' ts e he;obtain⟨g1,g2⟩:=hget _ x c2;have hlast:raw l (e.bu-1)=x.1:=by rw[show e.bu-1=r.from'+(e.bu-1-r.from')by omega];exact Ps.lM g1
 have aa:∃(i:Nat)(y:Tk),ts[i]?=some y/\Sc.counts y.1=true/\e.from'=r.from'+i:=by
  have he:e∈Rw.l9 r.from' ts:=he;rw[Rw.nT]at he;rcases mU.1 he with he|he
  ·obtain⟨i,hi,rfl⟩:=xJ.1 he;obtain⟨y,h1,h2⟩:=Ps.D4 ts _ _ i hi;exact⟨_,y,h1,by rw[h2];rfl,rfl⟩
  unfold Rw.Dc at he;cases hk:Rw.nY (ts.drop (Rw.r9 ts))with
  |none=>rw[hk]at he;cases he
  |some n=>
   rw[hk]at he;obtain rfl:=vF.1 he;obtain⟨y,h1,h2⟩:=L6 hk;rw[sJ,qI]at h1;exact⟨_,y,h1,h2,rfl⟩
 obtain⟨i,y,h1,h2,h3⟩:=aa;obtain⟨g3,g4⟩:=hget _ y h1;exact⟨by rw[hlast];exact c3,by omega,by rw[h3,Ps.lM g3];exact h2,by omega⟩
theorem yu(l:List Tk):∀(j m m' i:Nat),m<=i->m'<=i->i<j->cnt (raw l i)=true->back l j m=back l j m'
 |0,m,m',i=>λ_ _ h _=>absurd h (qJ _)
 |j+1,m,m',i=>λh1 h2 h3 h4=>by
  rw[back,back];by_cases e:i=j
  ·subst e;rw[eX (by rw[h4];simp),eX (by rw[h4];simp)]
  by_cases hc:cnt (raw l j)=false
  ·rw[eY ⟨by omega,hc⟩,eY ⟨by omega,hc⟩];exact yu l j m m' i h1 h2 (by omega) h4
  rw[eX (λh=>hc h.2),eX (λh=>hc h.2)]
theorem Put.rel{q k:QS}{p':PS}(h:Put q k p')(i:Nat):Rel i k p':=⟨h.st,h.doc,by rw[h.s],.inl (by rw[h.s]),h.wf⟩
theorem CJ{l:List Tk}{B:Bs}{depth b T:Nat}(hT:T<=l.length)(aa:b<=T):∀(es:List E)(i:Nat)(q:QS)(p:PS)(up:Int),Rel i q p->xG l B i p->up=holder p->nR l b i es->(∀e∈es,XP l T e/\back l T e.from'=b)->B.1<=i->
 (places l depth T q es).1=(Ps.places l depth b p up es).1/\(es≠[]->Put q (places l depth T q es).2 (Ps.places l depth b p up es).2)
 |[],i,q,p,up=>λh _ _ _ _ _=>⟨rfl,λh=>absurd rfl h⟩
 |en::es,i,q,p,up=>λh ho hup hes hf hB=>by
  obtain⟨h1,h2,h3,h4⟩:=hes;obtain⟨f1,f2⟩:=hf en (by simp);obtain⟨g1,g2,g3⟩:=PY (depth:=depth) h ho h1 h2 (by omega) (by rcases f1.last with e|e<;>rw[e]<;>decide) f1.fG;have hok:=Ps.pO (depth:=depth) ho (by omega) h1 h2 (by omega);rw[places,Ps.places];by_cases hz:(Ps.place l depth p en).1=0
  ·rw[eY (g1.trans hz),eY hz];have hp:=g2 hz;rcases hok with⟨_,k1,k2,t,k,k3,k4⟩|⟨hne,_⟩
   ·obtain⟨P,hP⟩:=fq ((Ps.place l depth p en).2);obtain⟨K,hK⟩:=fq ((place l depth q en).2);rw[hP]at hp k1 k2 k3⊢;rw[hK]at hp⊢;obtain⟨m1,m2⟩:=CJ hT aa es en.bu K P (Ps.Il P.st) (hp.rel _) k1 (by rw[Ps.pz,k3];show t.cur=if t.has=true then t.node else t.cur;rw[eX (by rw[k4];simp)]) h4 (λe he=>hf e (by simp[he])) (by omega);refine⟨m1,λ_=>?_⟩;cases es with
    |nil=>exact hp
    |cons y ys=>
     have m3:=m2 (by simp);exact⟨m3.s,m3.st,m3.row.trans hp.row,m3.en.trans hp.en,m3.wf,m3.doc⟩
   exact absurd hz hne
  rw[eX (λe=>hz (g1.symm.trans e)),eX hz];refine⟨rfl,λ_=>⟨?_,?_,rfl,rfl,h.wf,h.doc⟩⟩
  ·dsimp only;have hlo:=wQ f1.cnt (nX f1.lt);have:=Ai (a:=en.from') (b:=en.from') (c:=T) (code:=(Ps.place l depth p en).1) h ho (by rw[hlo];exact h1) (by rw[hlo];exact f1.lt) hT hlo;rw[g1,this,hup,f2]
  exact h.st
structure Fin(l:List Tk)(q q':QS)(p':PS):Prop where
 s:q'.s=p'.s
 st:q'.st=BK p'
 wf:Wf p'
 row:q.row<=q'.row/\∃r',(Rw.fA l)[q'.row]?=some r'/\r'.bu=p'.read
 lim:Ps.limit l p'.read=q'.en
theorem F6{l:List Tk}{B:Bs}{e i:Nat}{q:QS}{p:PS}(hst:q.st=BK p)(hs:q.s=p.s)(hw:Wf p)(hI:Inv l B e p)(aa:e<=i)(hi:i<=l.length):Rel i (fM q i) (Ps.jW p i)/\(fM q i).row=q.row/\(fM q i).en=q.en:=by
 unfold Ps.jW fM;by_cases hd:p.doc<0
 ·have hnil:q.st=[]:=by rw[hst];unfold BK;rw[eY hd]
  rw[hnil,eY hd];dsimp only;have h0:=hI.root;obtain⟨f1,f2⟩:=rV (kind:=2) (f:=i) (t:=i) h0 (by omega) (fB _) (by omega) (by omega) (by omega) (by omega);have f1:Fl.add p.s 0 2 i i=(⟨add p.s.t 0 2 i i,p.s.d⟩,(p.s.t.length:Int)):=f1;rw[f1];refine⟨⟨?_,?_,?_,?_,⟨trivial,λh=>absurd rfl h⟩⟩,rfl,rfl⟩
  ·dsimp only;refine KH ?_ (jG (by show(0:Int)<=((p.s.t.length:Nat):Int);omega)).symm;rw[hs];rfl
  ·show(0:Int)<=((p.s.t.length:Nat):Int);omega
  ·dsimp only;rw[hs]
  right;refine⟨rfl,rfl,?_⟩;dsimp only;rw[hs,jk];unfold add;rw[LA p.s.t ((i+1:Nat):Int) i];have:=Wh (t:=hold p.s.t 0 (i:Int)) (by rw[lY];exact h0.ck.pos) i;rw[lY]at this;exact this
 have hne:∃a b,q.st=a::b:=by
  rw[hst,jG (by omega)];cases hp:p.st with
  |nil=>exact⟨_,_,rfl⟩
  |cons o r=>exact⟨_,_,rfl⟩
 obtain⟨a,b,hab⟩:=hne;rw[hab,eX hd];exact⟨⟨hst,by omega,by rw[hs],.inl (by rw[hs]),hw⟩,rfl,rfl⟩
end Pr
namespace Pr
open Ar Fl
open Rw (R E)
open Ps (lo PS kindOf OK sW Bs jQ lJ xG holder outer oI nR Inv)
theorem mJ(l:List Tk)(b:Nat):back l b b=b:=by
 cases b with
 |zero=>rfl
 |succ b=>rw[back,eX (by omega)]
theorem qj{l:List Tk}{a b:Nat}(hab:a<=b):(lo l a b<back l b (lo l a b))↔lo l a b<b:=by
 constructor
 ·intro h;have:=iV l b (lo l a b);omega
 intro h;exact Ps.oV l b _ _ (fB _) h (Ps.qD l h)
theorem Qe{l:List Tk}{rs:List R}{depth:Nat}{p:PS}{r:R}{a b:Nat}(hd:0<=p.doc)(hw:Wf p)(hc:0<=r.fG)(ht:takes r.fG (BK p)=false):Ps.bare l rs depth p r a b={p with s:=err l p.s (holder p) a b 7}:=by
 rw[jG hd]at ht
 have hr:Ps.bare l rs depth p r a b=(match p.st.dropWhile (λo=>decide (r.fG<=o.fG))with
  |[]=>if p.root=true then{p with s:=err l p.s (holder p) a b 7}
   else
    let v:=Ps.value l rs depth {p with st:=[]} p.doc a
    {v.1 with root:=v.2}
  |o::q=>if o.has=true then{p with s:=err l p.s (holder p) a b 7}
   else
    let v:=Ps.value l rs depth {p with st:=o::q} o.cur a
    {v.1 with st:={o with has:=v.2}::q}):=rfl
 rw[hr];cases hs:p.st with
 |nil=>
  rw[hs]at ht;have ht:(!p.root&&decide (-1<r.fG))=false:=ht;have hrt:p.root=true:=by
   rw[show decide (-1<r.fG)=true from lI (by omega)]at ht
   simpa using ht
  rw[List.dropWhile_nil];exact eY hrt
 |cons o k=>
  have hrt:p.root=true:=hw.2 (by rw[hs];simp);rw[hs]at ht;have ht:(!o.has&&decide (o.fG<r.fG))=false:=ht;cases hdw:(o::k).dropWhile (λo=>decide (r.fG<=o.fG))with
  |nil=>exact eY hrt
  |cons o2 k2=>
   dsimp only;by_cases hh:o2.has=true
   ·rw[eY hh]
   exfalso;have hw1:=hw.1;rw[hs]at hw1;have he:=BL.has _ hw1 hdw (by simpa using hh);obtain⟨rfl,rfl⟩:=List.cons.inj he;have:=Xy (λo:Ps.Op=>decide (r.fG<=o.fG)) (o::k);rw[hdw]at this;simp at this;have hh:o.has=false:=by simpa using hh
   rw[hh,show decide (o.fG<r.fG)=true from lI (by omega)]at ht;cases ht
theorem Qf{l:List Tk}{rs:List R}{depth:Nat}{p:PS}{r:R}{a b:Nat}(hd:0<=p.doc)(hw:Wf p)(ht:takes r.fG (BK p)=true):
 (p.st=[]/\p.root=false/\Ps.bare l rs depth p r a b={(Ps.value l rs depth p p.doc a).1 with root:=(Ps.value l rs depth p p.doc a).2})\/
 (∃o k,p.st=o::k/\o.has=false/\Ps.bare l rs depth p r a b={(Ps.value l rs depth p o.cur a).1 with st:={o with has:=(Ps.value l rs depth p o.cur a).2}::k}):=by
 rw[jG hd]at ht;obtain⟨ps,pd,pr,aa,ae⟩:=p;dsimp only at hw ht⊢;cases aa with
 |nil=>
  have ht:(!pr&&decide (-1<r.fG))=true:=ht;have hrt:pr=false:=by
   rw[qH]at ht
   simpa using ht.1
  subst hrt;exact .inl ⟨rfl,rfl,rfl⟩
 |cons o k=>
  have ht:(!o.has&&decide (o.fG<r.fG))=true:=ht;rw[qH]at ht;have h1:o.has=false:=by simpa using ht.1
  have h2:o.fG<r.fG:=by simpa using ht.2
  refine .inr ⟨o,k,rfl,h1,?_⟩;unfold Ps.bare;dsimp only;rw[EK,eX (by simp;omega)];dsimp only;rw[eX (by rw[h1];simp)]
theorem wR{l:List Tk}{b:Nat}:∀(es:List E)(p:Nat),nR l b p es->∀e∈es,p<=e.from'/\e.from'<e.bu
 |[],_,_,e,he=>by cases he
 |x::r,p,⟨h1,h2,h3,h4⟩,e,he=>by
  rcases l5.1 he with rfl|he
  ·exact⟨h1,h2⟩
  have:=wR r _ h4 e he;omega
theorem Oy{l:List Tk}{q q1 q':QS}{p1 pv:PS}{o:Ps.Op}{k:List Ps.Op}{full:Bool}{m:Nat}(hV:Read l q1 q' pv full (jK o) (k.map jK++[jA p1]))(hd:pv.doc=p1.doc)(h0:0<=p1.doc)(hw:BL (o::k)/\(o::k≠[]->p1.root=true))(hm:o.cur=(m:Int))(hrow:q.row<=q'.row)(hr:pv.root=p1.root):
 Fin l q q' {pv with st:=⟨o.node,o.kind,o.fG,(m:Int),full⟩::k}:=by
 refine⟨hV.s,?_,⟨⟨hw.1.1,hw.1.2⟩,λ_=>hr.trans (hw.2 (by simp))⟩,⟨hrow,hV.row.2⟩,?_⟩
 ·refine hV.st.trans (KH ?_ (jG (by show 0<=pv.doc;rw[hd];exact h0)).symm);show _=jK ⟨o.node,o.kind,o.fG,(m:Int),full⟩::(k.map jK++[jA {pv with st:=⟨o.node,o.kind,o.fG,(m:Int),full⟩::k}])
  have e:jA {pv with st:=⟨o.node,o.kind,o.fG,(m:Int),full⟩::k}=jA p1:=by unfold jA;dsimp only;rw[hd,hr]
  rw[e];unfold jK;rw[hm]
 show Ps.limit l pv.read=_;rw[hV.lim,hV.en]
theorem TS{l:List Tk}{B:Bs}{depth e:Nat}{q:QS}{p:PS}{r:R}(ht:Rw.kK 0 l)(hS:Q6 l)(hl:l.length<=32768)(hrow:(Rw.fA l)[q.row]?=some r)(h5:r.kind=5)(hst:q.st=BK p)(hs:q.s=p.s)(hw:Wf p)(hI:Inv l B e p)(he:e<=r.from')(hB:B.1<=r.from')(hen:q.en=Ps.limit l r.from')(hrd:p.read=r.bu)(ak:0<=r.fG):
 Fin l q (body l (Rw.fA l) depth q r) (Ps.body l (Rw.fA l) depth p r):=by
 have hmem:=iK hrow;have hro:=Ps.rows_ok l r hmem;have hlt:=hro.lt;have hle:=hro.le;have hlo:=hro.body h5;have hge:=Ps.kQ l r.from' r.bu;have hcn:=Ps.qD l hlo;obtain⟨n1,n2,n3,n4⟩:=Ps.wN ht hro h5;have hef:=CG ht hro h5;have hmk:∀j,r.from'<=j->j<r.bu->raw l j≠20/\raw l j≠21:=λj g1 g2=>by
  rcases kS r.from' j with g|g
  ·exact hS.mark r hmem j g g2
  obtain rfl:j=r.from':=by omega
  have:=hS.first r hmem;refine⟨λh=>?_,λh=>?_⟩
  ·have:=this.2 (.inl h);omega
  have:=this.2 (.inr h);omega
 have hlim:∀j,r.from'<=j->j<=r.bu->Ps.limit l j=q.en:=λj g1 g2=>by
  rw[hen];exact(uO g1 (by omega) (λm k1 k2=>hmk m k1 (by omega))).symm
 unfold body Ps.body;dsimp only;obtain⟨a,ha⟩:=fq (lo l r.from' r.bu);rw[ha]at hlo hge hcn n1 n3⊢;obtain⟨o1,o2⟩:=Ps.uh hI (i:=a) (by omega) (by omega);obtain⟨R1,R2,R3⟩:=F6 hst hs hw hI (i:=a) (by omega) (by omega);obtain⟨p1,hp1⟩:=fq (Ps.jW p a);obtain⟨q1,hq1⟩:=fq (fM q a);rw[hp1]at o1 o2 R1⊢;rw[hq1]at R1 R2 R3⊢;have ah:p1.read=r.bu:=by rw[o2,hrd]
 obtain⟨b,hb⟩:=fq (back l r.bu a);have hbl:=iV l r.bu a;rw[hb]at n1 hbl⊢;obtain⟨es,hes⟩:=fq (Rw.iP l r);rw[hes]at n1 n2 n3 n4 hef⊢;have aa:∀(q':QS)(p':PS),q'.s=p'.s->q'.st=BK p'->Wf p'->q'.row=q.row->q'.en=q.en->p'.read=r.bu->Fin l q q' p':=λq' p' g1 g2 g3 g4 g5 g6=>
  ⟨g1,g2,g3,⟨by rw[g4];exact fB _,r,by rw[g4];exact hrow,g6.symm⟩,by rw[g5,g6];exact hlim r.bu (by omega) (fB _)⟩
 have af:(Rw.fA l)[q1.row]?=some r:=by rw[R2];exact hrow
 by_cases hne:es.1=[]
 ·rw[eY hne,hne];have hpl:places l depth r.bu q1 []=(true,q1):=rfl;rw[hpl];dsimp only;rw[eY rfl];have av:es.2=a:=n3 hne;rw[av];have hself:=wQ hcn (nX hlo);by_cases htk:takes r.fG q1.st=true
  ·rw[eX (by rw[htk];simp)];obtain⟨d,d1,d2,d3⟩:=o1;rcases Qf (l:=l) (rs:=Rw.fA l) (depth:=depth) (r:=r) (a:=a) (b:=b) R1.doc R1.wf (by rw[<-R1.st];exact htk)with⟨e1,e2,e3⟩|⟨o,k,e1,e2,e3⟩
   ·rw[e3];rw[e1]at d3;obtain⟨m,g1,g2⟩:=d3;have ae:q1.st=jA p1::[]:=by rw[R1.st,jG R1.doc,e1];rfl
    have hV:=sD (depth:=depth) hS af hl ae (show(jA p1).cur=m by show p1.doc.toNat=m;omega) e2 (by rw[e1];rfl) R1.d (R1.hs m (λ_ _=>by omega)) g2 (by omega) (by rw[R3];exact(hlim a (by omega) (by omega)).symm) hge hself hlo (fB _) (λj k1 k2=>by omega) (λj k1 k2=>hmk j (by omega) k2);have aA:p1.doc=(m:Int):=by omega
    rw[aA];obtain⟨v1,v2,v3,v4,v5⟩:=Ps.lX (depth:=depth) (p:=p1) (i:=a) g2 (by omega) (fB _) (by omega);refine⟨hV.s,?_,⟨?_,?_⟩,⟨by have:=hV.row.1;omega,hV.row.2⟩,?_⟩
    ·refine hV.st.trans (KH ?_ (jG (by show 0<=(Ps.value l (Rw.fA l) depth p1 (m:Int) a).1.doc;rw[v1];exact R1.doc)).symm);show _=(Ps.value l (Rw.fA l) depth p1 (m:Int) a).1.st.map jK++[jA {(Ps.value l (Rw.fA l) depth p1 (m:Int) a).1 with root:=(Ps.value l (Rw.fA l) depth p1 (m:Int) a).2}]
     rw[v2,e1];unfold jA;dsimp only;rw[v1];rfl
    ·show BL (Ps.value l (Rw.fA l) depth p1 (m:Int) a).1.st;rw[v2,e1];trivial
    ·show(Ps.value l (Rw.fA l) depth p1 (m:Int) a).1.st≠[]->_;rw[v2,e1];exact λh=>absurd rfl h
    show Ps.limit l (Ps.value l (Rw.fA l) depth p1 (m:Int) a).1.read=_;rw[hV.lim,hV.en]
   rw[e3];rw[e1]at d2 d3;obtain⟨m,g1,g2⟩:=d3.2 e2;have ae:q1.st=jK o::(k.map jK++[jA p1]):=by rw[R1.st,jG R1.doc,e1];rfl
   have hV:=sD (depth:=depth) hS af hl ae (show(jK o).cur=m by show o.cur.toNat=m;omega) e2 (by rw[e1];simp) R1.d (R1.hs m (λh _=>by rw[e1]at h;cases h)) g2 (by omega) (by rw[R3];exact(hlim a (by omega) (by omega)).symm) hge hself hlo (fB _) (λj k1 k2=>by omega) (λj k1 k2=>hmk j (by omega) k2);rw[g1];obtain⟨v1,v2,v3,v4,v5⟩:=Ps.lX (depth:=depth) (p:=p1) (i:=a) g2 (by omega) (fB _) (by omega);have hwf:=R1.wf;unfold Wf at hwf;rw[e1]at hwf;exact Oy hV v1 R1.doc hwf g1 (by have:=hV.row.1;omega) rfl
  have htk:takes r.fG q1.st=false:=by simpa using htk
  rw[eY ⟨rfl,htk⟩];rw[Qe R1.doc R1.wf ak (by rw[<-R1.st];exact htk)];refine aa _ _ ?_ R1.st R1.wf R2 R3 ah;dsimp only;rw[Ai (a:=a) (b:=a) (c:=r.bu) (code:=7) R1 o1 (by rw[hself];exact fB _) (by rw[hself];exact hlo) hle hself,hb]
 rw[eX hne];have hlast:∃z,es.1.getLast?=some z:=by
  cases hz:es.1.getLast? with
  |none=>rw[Vo]at hz;exact absurd hz hne
  |some z=>exact⟨z,rfl⟩
 obtain⟨z,hz⟩:=hlast;have ax:=KM hz;have hz1:=wR _ _ n1 z ax;have hz2:=n2 z hz
 obtain⟨m1,m2⟩:=CJ (depth:=depth) hle hbl es.1 a q1 p1 (holder p1) R1 o1 rfl n1 (λe he=>⟨hef e he,by
  have h1:=(wR _ _ n1 e he).1
  rw[yu l r.bu e.from' a e.from' (fB _) h1 (hef e he).lt (hef e he).cnt];exact hb⟩) (by omega)
 have m2:=m2 hne
 obtain⟨e',k1,k2,k3,k4,k5⟩:=Ps.yt (depth:=depth) (b:=b) (by omega) es.1 a p1 (holder p1) o1 (by omega) rfl n1 (by
  have:=Ps.oV l r.bu a a (fB _) hlo hcn;omega)
 obtain⟨P,hP⟩:=fq (Ps.places l depth b p1 (holder p1) es.1);obtain⟨K,hK⟩:=fq (places l depth r.bu q1 es.1);rw[hP]at m1 m2 k3 k4 k5⊢;rw[hK]at m1 m2⊢;have hKr:K.2.row=q.row:=m2.row.trans R2;have ag:K.2.en=q.en:=m2.en.trans R3;have ay:P.2.read=r.bu:=k4.trans ah;by_cases hall:P.1=true
 ·rw[eY (m1.trans hall),eX (λh=>hne h.1),eY hall];obtain⟨_,j1,j2⟩:=k5 hall;obtain⟨t,k,j3,j4⟩:=j2 hne;have hrest:es.2=e':=by rw[hz2,j1 z hz]
  have hfr:r.from'<es.2:=by omega
  have ai:K.2.st=jK t::(k.map jK++[jA P.2]):=by rw[m2.st,jG m2.doc,j3];rfl
  have hwf:=m2.wf;unfold Wf at hwf;rw[j3]at hwf;by_cases hx:lo l es.2 r.bu<r.bu
  ·rw[eY ((qj n4).2 hx),j3];dsimp only;obtain⟨d,d1,d2,d3⟩:=k3;rw[j3]at d3;obtain⟨m,g1,g2⟩:=d3.2 j4;have hxg:=Ps.kQ l es.2 r.bu;obtain⟨x,az⟩:=fq (lo l es.2 r.bu);have hidle:=hS.idle r hmem es.2 hfr hx;rw[az]at hx hxg hidle⊢;have aj:=m2.rel e';have hV:=sD (depth:=depth) (a:=es.2) hS (by rw[hKr];exact hrow) hl ai (show(jK t).cur=m by show t.cur.toNat=m;omega) j4 (by rw[j3];simp) aj.d (aj.hs m (λh _=>by rw[j3]at h;cases h)) g2 (by omega) (by rw[ag];exact(hlim x (by omega) (by omega)).symm) (by omega) az hx (by omega) hidle (λj k1 k2=>hmk j (by omega) k2);rw[g1];obtain⟨v1,v2,v3,v4,v5⟩:=Ps.lX (depth:=depth) (p:=P.2) (i:=x) g2 (by omega) (by omega) (by omega);exact Oy hV v1 m2.doc hwf g1 (by have:=hV.row.1;omega) rfl
  have hxe:lo l es.2 r.bu=r.bu:=by have:=Ps.lo_le l n4;omega
  rw[eX (λh=>hx ((qj n4).1 h))];have hzl:=(hef z ax).last
  rw[Bd hS (by rw[hKr];exact hrow) ai (by rw[ag];exact(hlim es.2 (by omega) n4).symm) n4 hxe (by
   rcases kS es.2 r.bu with g|g
   ·exact .inl g
   right;by_cases e:r.bu=l.length
   ·exact e
   have h1:=hS.tail r hmem (by omega);rw[<-hz2]at hzl;rw[show r.bu=es.2 by omega]at h1
   omega)]
  exact aa _ _ m2.s m2.st m2.wf hKr ag ay
 rw[eX (λh=>hall (m1.symm.trans h)),eX hall];exact aa _ _ m2.s m2.st m2.wf hKr ag ay
end Pr
section
open Go.RowKit
theorem L8(op:Nat)(dash blank first:Bool)(r:List Nat):(Sc.next op dash blank first r).1≠0:=by
 unfold Sc.next;split
 ·rename_i h;show Sc.mark r≠0;omega
 split
 ·simp
 split
 ·simp
 split
 ·simp
 unfold Sc.word;split
 ·rename_i h;show Sc.sign op dash r≠0;omega
 split
 ·rename_i h;omega
 split
 ·rename_i h;omega
 split
 ·simp
 split<;>simp
theorem Ma(s:Sc.St)(l:List Nat):(Sc.step s l).1≠0:=by
 unfold Sc.step Sc.mid
 repeat' split
 all_goals first|exact L8 _ _ _ _ _|simp
theorem CK:∀(f:Nat)(s:Sc.St)(p:Nat)(l:List Nat),∀x∈Sc.toks f s p l,x.1≠0
 |0,_,_,_=>λx h=>by cases h
 |f+1,s,p,l=>λx h=>by
  rw[Sc.toks]at h;by_cases hl:l=[]
  ·rw[eY hl]at h;cases h
  rw[eX hl]at h;rcases l5.1 h with rfl|h
  ·exact Ma s l
  exact CK f _ _ _ x h
theorem TT{l:List Tk}{i:Nat}(h:i<l.length):∃x∈l,Fl.raw l i=x.1:=by
 refine⟨l[i],List.getElem_mem h,?_⟩;unfold Fl.raw;rw[mR h]
end
section
open Go.RowKit
theorem TU(op:Nat)(dash:Bool)(r:List Nat):Sc.sign op dash r≠2/\Sc.sign op dash r≠19:=by
 unfold Sc.sign;split
 ·simp
 repeat' split
 all_goals decide
theorem Ee(op:Nat)(dash:Bool)(r:List Nat):(Sc.word op dash r).1≠2/\(Sc.word op dash r).1≠19:=by
 unfold Sc.word;split
 ·exact TU op dash r
 split
 ·unfold Sc.named
  repeat' split
  all_goals first|decide|simp
 split
 ·unfold Sc.quoted
  repeat' split
  all_goals first|decide|simp
 split
 ·simp
 split<;>simp
theorem TW(op:Nat)(dash blank:Bool)(r:List Nat):(Sc.next op dash blank false r).1≠2/\(Sc.next op dash blank false r).1≠19:=by
 unfold Sc.next;rw[eX (by simp),eX (by simp)];split
 ·simp
 split
 ·simp
 exact Ee op dash r
theorem TY(s:Sc.St)(l:List Nat)(h:s.fG≠0):(Sc.step s l).1≠2/\(Sc.step s l).1≠19:=by
 unfold Sc.step;rw[eX h];unfold Sc.mid;split
 ·simp
 have:(s.fG==0)=false:=by simpa using h
 rw[this];exact TW _ _ _ _
theorem F7(s:Sc.St)(l:List Nat)(hl:l≠[])(h1:(Sc.step s l).1≠1)(h19:(Sc.step s l).1≠19):(Sc.step s l).2.2.fG≠0:=by
 have key:∀s:Sc.St,(Sc.mid s l).1≠1->(Sc.mid s l).2.2.fG≠0:=by
  intro s h;unfold Sc.mid at h⊢;split
  ·rename_i h0;rw[eY h0]at h;exact absurd rfl h
  rename_i h0;show s.fG+(Sc.next s.op s.dash s.blank (s.fG==0) (Sc.jJ l)).2≠0;have hlen:=Sc.uf l;cases hr:Sc.jJ l with
  |nil=>rw[hr]at hlen;exact absurd hlen.symm h0
  |cons c r=>
   have:=(Sc.DU s.op s.dash s.blank (s.fG==0) c r).1;omega
 unfold Sc.step at h1 h19⊢;split
 ·split
  ·rename_i hc ht;rw[eY hc,eY ht]at h19;exact absurd rfl h19
  rename_i hc ht;rw[eY hc,eX ht]at h1;exact key _ h1
 rename_i hc;rw[eX hc]at h1;exact key _ h1
theorem Am:∀(f:Nat)(s:Sc.St)(p:Nat)(l:List Nat),(∀x,(Sc.toks f s p l)[0]?=some x->s.fG≠0->x.1≠2/\x.1≠19)/\
 ∀(i:Nat)(x y:Nat×Nat×Nat),(Sc.toks f s p l)[i]?=some x->(Sc.toks f s p l)[i+1]?=some y->x.1≠1->x.1≠19->y.1≠2/\y.1≠19
 |0,_,_,_=>⟨λx h=>by simp[Sc.toks]at h,λi x y h=>by simp[Sc.toks]at h⟩
 |f+1,s,p,l=>by
  rw[Sc.toks];by_cases hl:l=[]
  ·rw[eY hl];exact⟨λx h=>by simp at h,λi x y h=>by simp at h⟩
  rw[eX hl];obtain⟨g1,g2⟩:=Am f (Sc.step s l).2.2 (p+(Sc.step s l).2.1) (l.drop (Sc.step s l).2.1);refine⟨λx h hc=>?_,λi x y hx hy h1 h19=>?_⟩
  ·have h:((Sc.step s l).1,p,p+(Sc.step s l).2.1)=x:=by simpa using h
   subst h;exact TY s l hc
  cases i with
  |zero=>
   have hx:((Sc.step s l).1,p,p+(Sc.step s l).2.1)=x:=by simpa using hx
   subst hx;exact g1 y (by simpa using hy) (F7 s l hl h1 h19)
  |succ i=>exact g2 i x y (by simpa using hx) (by simpa using hy) h1 h19
theorem TZ{l:List Tk}(h:∀(i:Nat)(x y:Tk),l[i]?=some x->l[i+1]?=some y->x.1≠1->x.1≠19->y.1≠2/\y.1≠19):Fl.zP l:=by
 intro i j hi hij hm;by_cases hj:j<l.length
 ·obtain⟨k,rfl⟩:∃k,j=k+1:=⟨j-1,by omega⟩
  have hk:l[k]?=some l[k]:=mR (by omega);have hk1:l[k+1]?=some l[k+1]:=mR hj;have hr:Fl.raw l k=l[k].1:=by unfold Fl.raw;rw[hk]
  have hr1:Fl.raw l (k+1)=l[k+1].1:=by unfold Fl.raw;rw[hk1]
  rw[hr1];have hq:l[k].1=18\/l[k].1=3\/l[k].1=4:=by
   rw[<-hr];by_cases e:k=i
   ·subst e;exact .inl hi
   exact .inr (hm k (by omega) (by omega))
  exact h k _ _ hk hk1 (by omega) (by omega)
 unfold Fl.raw;rw[rC (by omega)];decide
theorem Qg(L:List Nat):nO (Sc.tokens L):=by
 refine⟨λi hi=>?_,?_⟩
 ·obtain⟨x,hx,e⟩:=TT hi;rw[e];unfold Sc.tokens at hx;split at hx
  ·cases hx
  exact CK _ _ _ _ x hx
 unfold Sc.tokens;split
 ·intro i j hi;unfold Fl.raw at hi;simp at hi
 exact TZ (Am _ _ _ _).2
theorem nO.take{l:List Tk}(h:nO l)(n:Nat):nO (l.take n):=by
 have hr:∀i,Fl.raw (l.take n) i=if i<n then Fl.raw l i else 0:=by
  intro i;unfold Fl.raw;split
  ·rename_i x hx;have hi:=(gD.1 hx).1;rw[kD]at hi;rw[rD (by omega)]at hx;rw[eY (by omega),hx]
  rename_i hx;split
  ·rename_i hi;rw[rD hi]at hx;rw[hx]
  rfl
 refine⟨λi hi=>?_,λi j hi hij hm=>?_⟩
 ·rw[kD]at hi;rw[hr,eY (by omega)];exact h.pos i (by omega)
 rw[hr]at hi⊢;split at hi
 ·split
  ·rename_i h1 h2;exact h.head i j hi hij (λm h3 h4=>by have:=hm m h3 h4;rw[hr,eY (by omega)]at this;exact this)
  decide
 simp at hi
end
namespace Pr
open Ar Fl
open Rw (R E)
open Ps (lo PS kindOf OK sW Bs jQ lJ xG holder outer oI nR Inv)
theorem Kc(op:Nat)(dash:Bool)(r:List Nat):(Sc.word op dash r).1≠3/\(Sc.word op dash r).1≠20/\(Sc.word op dash r).1≠21/\(Sc.word op dash r).1≠4/\(Sc.word op dash r).1≠1:=by
 unfold Sc.word;split
 ·show Sc.sign op dash r≠3/\Sc.sign op dash r≠20/\Sc.sign op dash r≠21/\Sc.sign op dash r≠4/\Sc.sign op dash r≠1;unfold Sc.sign;split
  ·simp
  repeat' split
  all_goals decide
 split
 ·unfold Sc.named
  repeat' split
  all_goals first|decide|simp
 split
 ·unfold Sc.quoted
  repeat' split
  all_goals first|decide|simp
 split
 ·simp
 split<;>simp
theorem Qh{p:Nat->Bool}{c:Nat}{r:List Nat}(h:0<Sc.run p (c::r)):p c=true:=by
 rw[Sc.run]at h;by_cases e:p c=true
 ·exact e
 rw[eX e]at h;omega
theorem Ao(p:Nat->Bool):∀l:List Nat,Sc.run p (l.drop (Sc.run p l))=0
 |[]=>rfl
 |c::r=>by
  rw[Sc.run];by_cases e:p c=true
  ·rw[eY e,wh];exact Ao p r
  rw[eX e,lQ,Sc.run,eX e]
structure VL(s:Sc.St)(l:List Nat)(k:Nat):Prop where
 mark:s.fG≠0->k≠20/\k≠21
 brk:Sc.jI l=0->s.fG≠0->k=1
 blank:s.fG≠0->Sc.run Sc.blk (Sc.jJ l)=0->k≠3
 tab:(s.fG=0\/Sc.run Sc.xX (Sc.jJ l)=0)->k=3->l[0]?=some 9
 one:k=1->Sc.jI l=0
theorem Mb{l:List Nat}{c:Nat}{r:List Nat}(h:Sc.jJ l=c::r):l[0]?=some c:=by
 unfold Sc.jJ at h;cases l with
 |nil=>rw[Vv]at h;cases h
 |cons x y=>
  cases hn:Sc.jI (x::y)with
  |zero=>rw[hn,vG]at h;cases h
  |succ n=>
   rw[hn,uA]at h;rw[(List.cons.inj h).1];rfl
theorem VM(s:Sc.St)(l:List Nat):VL s l (Sc.mid s l).1:=by
 unfold Sc.mid;by_cases h0:Sc.jI l=0
 ·rw[eY h0];exact⟨λ_=>⟨by show(1:Nat)≠20;decide,by show(1:Nat)≠21;decide⟩,λ_ _=>rfl,λ_ _=>(by show(1:Nat)≠3;decide),λ_ h=>(by cases h),λ_=>h0⟩
 rw[eX h0];have hlen:=Sc.uf l;obtain⟨c,r,hr⟩:∃c r,Sc.jJ l=c::r:=by
  cases hr:Sc.jJ l with
  |nil=>rw[hr]at hlen;exact absurd hlen.symm h0
  |cons c r=>exact⟨c,r,rfl⟩
 have hhd:=Mb hr;rw[hr];dsimp only;obtain⟨k,hk⟩:=fq ((Sc.next s.op s.dash s.blank (s.fG==0) (c::r)).1);rw[hk];have hw:=Kc s.op s.dash (c::r);unfold Sc.next at hk;refine⟨λhc=>?_,λh=>absurd h h0,λhc hb=>?_,λhs h3=>?_,λh1=>?_⟩
 ·rw[show(s.fG==0)=false by simpa using hc,eX (by simp),eX (by simp)]at hk;split at hk
  ·have hk:3=k:=hk;omega
  split at hk
  ·have hk:4=k:=hk;omega
  rw[hk]at hw;exact⟨hw.2.1,hw.2.2.1⟩
 ·rw[show(s.fG==0)=false by simpa using hc,eX (by simp),eX (by simp)]at hk;rw[hr]at hb;rw[eX (by omega)]at hk;split at hk
  ·have hk:4=k:=hk;omega
  rw[hk]at hw;exact hw.1
 ·have aa:Sc.run Sc.xX (c::r)=0:=by
   rcases hs with hc|hs
   ·rw[show(s.fG==0)=true by simpa using hc]at hk;split at hk
    ·rename_i hm;rw[h3]at hk;have hm:=hm.2;unfold Sc.mark at hk
     repeat' split at hk
     all_goals first|(exact absurd hk (by decide))|omega
    split at hk
    ·rw[h3]at hk;cases hk
    rename_i hs2;rcases uB (Sc.run Sc.xX (c::r))with e|e
    ·exact e
    exact absurd ⟨rfl,e⟩ hs2
   rw[hr]at hs;exact hs
  split at hk
  ·rename_i hm;rw[h3]at hk;have hm:=hm.2;unfold Sc.mark at hk
   repeat' split at hk
   all_goals first|(exact absurd hk (by decide))|omega
  split at hk
  ·rw[h3]at hk;cases hk
  split at hk
  ·rename_i hb;have h1:=Qh hb;have h2:Sc.xX c=false:=by
    have:=Sc.Fu Sc.xX c r (by omega);exact this
   have h9:c=9:=by
    unfold Sc.blk at h1;unfold Sc.xX at h2;simp at h1 h2;omega
   rw[hhd,h9]
  split at hk
  ·rw[h3]at hk;cases hk
  rw[hk,h3]at hw;exact absurd rfl hw.1
 exfalso;split at hk
 ·rename_i hm;rw[h1]at hk;have hm:=hm.2;unfold Sc.mark at hk
  repeat' split at hk
  all_goals first|(exact absurd hk (by decide))|omega
 split at hk
 ·rw[h1]at hk;cases hk
 split at hk
 ·rw[h1]at hk;cases hk
 split at hk
 ·rw[h1]at hk;cases hk
 rw[hk,h1]at hw;exact absurd rfl hw.2.2.2.2
theorem step1(s:Sc.St)(l:List Nat):VL s l (Sc.step s l).1:=by
 unfold Sc.step;split
 ·rename_i hc;split
  ·exact⟨λh=>absurd hc h,λ_ h=>absurd hc h,λh=>absurd hc h,λ_ h=>(by cases h),λh=>(by cases h)⟩
  have:=VM {s with least:=-1} l;exact⟨this.mark,this.brk,this.blank,this.tab,this.one⟩
 exact VM s l
end Pr
namespace Pr
open Ar Fl
open Rw (R E)
open Ps (lo PS oI)
theorem CL(l:List Nat)(j:Nat)(h:j<=Sc.jI l):Sc.jJ (l.drop j)=(Sc.jJ l).drop j:=by
 unfold Sc.jJ;rw[Sc.yh l j h,List.drop_take]
structure Y9(l:List Nat)(k n:Nat):Prop where
 four:k=4->Sc.jI (l.drop n)=0
 three:k=3->Sc.run Sc.blk (Sc.jJ (l.drop n))=0
 two:k=2->Sc.run Sc.xX (Sc.jJ (l.drop n))=0
theorem Ke(r:List Nat):Sc.mark r=0\/Sc.mark r=20\/Sc.mark r=21:=by
 unfold Sc.mark
 repeat' split
 all_goals simp
theorem Oz(s:Sc.St)(l:List Nat):Y9 l (Sc.mid s l).1 (Sc.mid s l).2.1:=by
 unfold Sc.mid;by_cases h0:Sc.jI l=0
 ·rw[eY h0];exact⟨λh=>(by cases h),λh=>(by cases h),λh=>(by cases h)⟩
 rw[eX h0];dsimp only;obtain⟨N,hN⟩:=fq (Sc.next s.op s.dash s.blank (s.fG==0) (Sc.jJ l));rw[hN];have hlen:=Sc.uf l;have hw:=Kc s.op s.dash (Sc.jJ l);have hw2:=Ee s.op s.dash (Sc.jJ l);have hm:=Ke (Sc.jJ l);unfold Sc.next at hN;split at hN
 ·subst hN;dsimp only;exact⟨λh=>by omega,λh=>by omega,λh=>by omega⟩
 split at hN
 ·subst hN;refine⟨λh=>(by cases h),λh=>(by cases h),λ_=>?_⟩;have:=Sc.ni Sc.xX (Sc.jJ l);dsimp only;rw[CL _ _ (by omega)];exact Ao _ _
 split at hN
 ·subst hN;refine⟨λh=>(by cases h),λ_=>?_,λh=>(by cases h)⟩;have:=Sc.ni Sc.blk (Sc.jJ l);dsimp only;rw[CL _ _ (by omega)];exact Ao _ _
 split at hN
 ·subst hN;refine⟨λ_=>?_,λh=>(by cases h),λh=>(by cases h)⟩;dsimp only;rw[Sc.yh _ _ (by omega)];omega
 rw[hN]at hw hw2;exact⟨λh=>absurd h hw.2.2.2.1,λh=>absurd h hw.1,λh=>absurd h hw2.1⟩
theorem T3(s:Sc.St)(l:List Nat):Y9 l (Sc.step s l).1 (Sc.step s l).2.1:=by
 unfold Sc.step;split
 ·split
  ·exact⟨λh=>(by cases h),λh=>(by cases h),λh=>(by cases h)⟩
  exact Oz _ l
 exact Oz s l
theorem step_end(s:Sc.St)(l:List Nat)(h:(Sc.step s l).1=1\/(Sc.step s l).1=19):(Sc.step s l).2.2.fG=0:=by
 have key:∀s:Sc.St,(Sc.mid s l).1=1\/(Sc.mid s l).1=19->(Sc.mid s l).2.2.fG=0:=by
  intro s h;have h1:=(VM s l).one;unfold Sc.mid at h h1⊢;by_cases h0:Sc.jI l=0
  ·rw[eY h0];rfl
  rw[eX h0]at h h1;rcases h with h|h
  ·exact absurd (h1 h) h0
  exfalso;dsimp only at h;have hm:=Ke (Sc.jJ l);have hw2:=Ee s.op s.dash (Sc.jJ l);unfold Sc.next at h;split at h
  ·dsimp only at h;omega
  split at h
  ·cases h
  split at h
  ·cases h
  split at h
  ·cases h
  exact hw2.2 h
 unfold Sc.step at h⊢;split
 ·split
  ·rfl
  rename_i h1 h2;rw[eY h1,eX h2]at h;exact key _ h
 rename_i h1;rw[eX h1]at h;exact key _ h
structure Za(b:List Nat)(x y:Tk):Prop where
 mark:x.1≠1->x.1≠19->y.1≠20/\y.1≠21
 four:x.1=4->y.1=1
 three:x.1=3->y.1≠3
 tab:x.1=2\/x.1=1\/x.1=19->y.1=3->b[y.2.1]?=some 9
theorem F8(b:List Nat):∀(f:Nat)(s:Sc.St)(p:Nat)(l:List Nat),l=b.drop p->(∀y,(Sc.toks f s p l)[0]?=some y->VL s l y.1/\y.2.1=p)/\
 ∀(i:Nat)(x y:Tk),(Sc.toks f s p l)[i]?=some x->(Sc.toks f s p l)[i+1]?=some y->Za b x y
 |0,_,_,_=>λ_=>⟨λx h=>by simp[Sc.toks]at h,λi x y h=>by simp[Sc.toks]at h⟩
 |f+1,s,p,l=>λhl=>by
  rw[Sc.toks];by_cases hn:l=[]
  ·rw[eY hn];exact⟨λx h=>by simp at h,λi x y h=>by simp at h⟩
  rw[eX hn];have hd:l.drop (Sc.step s l).2.1=b.drop (p+(Sc.step s l).2.1):=by rw[hl,mQ,<-hl]
  obtain⟨g1,g2⟩:=F8 b f (Sc.step s l).2.2 (p+(Sc.step s l).2.1) (l.drop (Sc.step s l).2.1) hd;refine⟨λy h=>?_,λi x y hx hy=>?_⟩
  ·have h:((Sc.step s l).1,p,p+(Sc.step s l).2.1)=y:=by simpa using h
   subst h;exact⟨step1 s l,rfl⟩
  cases i with
  |zero=>
   have hx:((Sc.step s l).1,p,p+(Sc.step s l).2.1)=x:=by simpa using hx
   subst hx;obtain⟨h1,h2⟩:=g1 y (by simpa using hy);have hc:=F7 s l hn;have hv:=T3 s l;have he:=step_end s l;refine⟨λa b=>h1.mark (hc a b),λa=>h1.brk (hv.four a) (hc (by dsimp only at a;omega) (by dsimp only at a;omega)),λa=>h1.blank (hc (by dsimp only at a;omega) (by dsimp only at a;omega)) (hv.three a),λa h3=>?_⟩
   have:=h1.tab (by
    rcases a with a|a
    ·exact .inr (hv.two a)
    exact .inl (he a)) h3
   rw[hd,sJ,qI]at this;rw[h2];exact this
  |succ i=>exact g2 i x y (by simpa using hx) (by simpa using hy)
theorem Bh(b:List Nat):(∀y,(Sc.tokens b)[0]?=some y->y.1=3->b[y.2.1]?=some 9)/\∀(i:Nat)(x y:Tk),(Sc.tokens b)[i]?=some x->(Sc.tokens b)[i+1]?=some y->Za b x y:=by
 unfold Sc.tokens;split
 ·exact⟨λy h=>by simp at h,λi x y h=>by simp at h⟩
 obtain⟨h1,h2⟩:=F8 b b.length (Sc.fresh 0 (-1)) 0 b (by rw[lQ]);refine⟨λy h h3=>?_,h2⟩;obtain⟨g1,g2⟩:=h1 y h;rw[g2];exact g1.tab (.inl rfl) h3
theorem Mc(b:List Nat):∀(i:Nat)(x y:Tk),(Sc.tokens b)[i]?=some x->(Sc.tokens b)[i+1]?=some y->x.1≠1->x.1≠19->y.1≠2/\y.1≠19:=by
 unfold Sc.tokens;split
 ·exact λi x y h=>by simp at h
 exact(Am b.length (Sc.fresh 0 (-1)) 0 b).2
structure Ng(l:List Tk)(r:R):Prop where
 form:∃begun,r.kind=Rw.kindOf begun ((l.drop r.from').take (r.bu-r.from'))/\r.fG=Rw.sH ((l.drop r.from').take (r.bu-r.from'))
 len:r.bu=r.from'+Rw.jy (l.drop r.from')
 lt:r.from'<l.length
 pre:r.from'=0\/∃x,l[r.from'-1]?=some x/\Rw.ends x=true
theorem CO(l:List Tk):∀(n op fr:Nat),l.length-fr<=n->(fr=0\/∃x,l[fr-1]?=some x/\Rw.ends x=true)->∀r∈Rw.lF op fr (l.drop fr),Ng l r
 |0,op,fr=>λh _ r hr=>by
  rw[mI (by omega)]at hr;cases hr
 |n+1,op,fr=>λh hp r hr=>by
  by_cases hfr:fr<l.length
  ·have hne:l.drop fr≠[]:=λe=>by
    have:=congrArg List.length e;rw[iT,EL]at this;omega
   rw[Rw.qo _ _ _ hne]at hr;have hpos:=Rw.ow _ hne;have hle:=Rw.wJ (l.drop fr);have hend:=Rw.Fv (l.drop fr) hne;rw[iT]at hle hend;rcases l5.1 hr with rfl|hr
   ·exact⟨⟨_,by show _=Rw.kindOf _ ((l.drop fr).take (fr+_-fr));rw[BB],by show _=Rw.sH ((l.drop fr).take (fr+_-fr));rw[BB]⟩,rfl,hfr,hp⟩
   rw[mQ]at hr;by_cases hlast:fr+Rw.jy (l.drop fr)=l.length
   ·rw[mI (show l.length<=fr+Rw.jy (l.drop fr)by omega)]at hr;cases hr
   refine CO l n _ (fr+Rw.jy (l.drop fr)) (by omega) (.inr ?_) r hr;rcases hend with h1|⟨x,h1,h2⟩
   ·omega
   rw[sJ]at h1;exact⟨x,by rw[<-h1];congr 1;omega,h2⟩
  rw[mI (by omega)]at hr;cases hr
theorem BO(l:List Tk):∀r∈Rw.fA l,Ng l r:=λr hr=>CO l l.length 0 0 (by omega) (.inl rfl) r (by rw[lQ];exact hr)
theorem row_in{l:List Tk}{r:R}(h:Ng l r){j:Nat}{x:Tk}(h1:r.from'<=j)(h2:j+1<r.bu)(hx:l[j]?=some x):x.1≠1/\x.1≠19:=by
 have hl:=h.len;have:=Rw.Sw (l.drop r.from') (j-r.from') x (by omega) (by rw[sJ,<-hx];congr 1;omega);unfold Rw.ends at this
 simpa using this
theorem Zb(b:List Nat):Q6 (Sc.tokens b):=by
 obtain⟨a1,a2⟩:=Bh b;have a3:=Mc b;obtain⟨l,hl⟩:=fq (Sc.tokens b);rw[hl]at a1 a2 a3⊢;have tok:∀r∈Rw.fA l,∀j,r.from'<=j->j<r.bu->∃x,l[j]?=some x:=λr hr j h1 h2=>⟨_,mR (by have:=(Ps.rows_ok l r hr).le;omega)⟩
 have mk:∀r∈Rw.fA l,∀j,r.from'<j->j<r.bu->raw l j≠20/\raw l j≠21:=λr hr j h1 h2=>by
  obtain⟨x,hx⟩:=tok r hr (j-1) (by omega) (by omega);obtain⟨y,hy⟩:=tok r hr j (by omega) h2;obtain⟨g1,g2⟩:=row_in (BO l r hr) (j:=j-1) (by omega) (by omega) hx;rw[Ps.lM hy];exact(a2 (j-1) x y hx (by rw[show j-1+1=j by omega];exact hy)).mark g1 g2
 refine⟨λr hr=>?_,mk,λr hr a h1 h2 j h3 h4=>?_,λr hr h=>?_⟩
 ·have hro:=Ps.rows_ok l r hr;have hlt:=hro.lt;obtain⟨x,hx⟩:=tok r hr r.from' (fB _) hlt;constructor
  ·intro h4;obtain⟨m1,m2⟩:=hro.mark h4;have hge:=Ps.kQ l r.from' r.bu;rcases Nat.eq_or_lt_of_le hge with e|e
   ·rw[<-e]at m2;exact m2
   have:=mk r hr _ e m1;omega
  intro hm;obtain⟨begun,hk,_⟩:=(BO l r hr).form;rw[Ps.lM hx]at hm;have hd:(l.drop r.from').take (r.bu-r.from')=x::((l.drop (r.from'+1)).take (r.bu-r.from'-1)):=by
   obtain⟨hi,hx'⟩:=gD.1 hx;rw[vZ hi,hx',show r.bu-r.from'=(r.bu-r.from'-1)+1 by omega,uA];rfl
  rw[hk,hd];unfold Rw.kindOf;rw[eX (by show¬x.1=19;omega),Rw.jV,eY (by rcases hm with h|h<;>rw[h]<;>rfl)];dsimp only;rw[eY (by unfold Rw.vL;rcases hm with h|h<;>rw[h]<;>rfl)]
 ·have hx:=Ps.qD l h2;have hge:=Ps.kQ l a r.bu;obtain⟨y,hy⟩:=tok r hr j (by omega) (by omega);obtain⟨w,hw⟩:=tok r hr (j-1) (by omega) (by omega);obtain⟨z,hz⟩:=tok r hr (j+1) (by omega) (by omega);have hnc:cnt (raw l j)=false:=by
   have:=l7 (λj=>!cnt (raw l j)) (r.bu-a) a j h3 (by unfold Ps.lo at h4;exact h4)
   simpa using this
  obtain⟨g1,g2⟩:=row_in (BO l r hr) (j:=j-1) (by omega) (by omega) hw;obtain⟨g3,g4⟩:=row_in (BO l r hr) (j:=j) (by omega) (by omega) hy;have k2:=a3 (j-1) w y hw (by rw[show j-1+1=j by omega];exact hy) g1 g2;have k4:=(a2 j y z hy hz).four;rw[Ps.lM hy]at hnc⊢;unfold cnt at hnc;simp at hnc;have h4':y.1≠4:=λe=>by
   have hz1:=k4 e;by_cases hj:j+1<lo l a r.bu
   ·have:=(row_in (BO l r hr) (j:=j+1) (by omega) (by omega) hz).1;exact this hz1
   have e2:lo l a r.bu=j+1:=by omega
   rw[e2,Ps.lM hz,hz1]at hx;cases hx
  omega
 have hf:=BO l r hr;have hlt:=(Ps.rows_ok l r hr).lt;rcases Rw.Fv (l.drop r.from') (λe=>by have:=congrArg List.length e;rw[iT,EL]at this;have:=hf.lt;omega)with h1|⟨x,h1,h2⟩
 ·rw[iT]at h1;have:=hf.len;have:=hf.lt;omega
 rw[sJ]at h1;have e:r.from'+(Rw.jy (l.drop r.from')-1)=r.bu-1:=by have:=hf.len;omega
 rw[e]at h1;rw[Ps.lM h1];unfold Rw.ends at h2
 simpa using h2
end Pr
namespace Pr
open Ar Fl
open Rw (R E)
open Ps (lo PS kindOf OK sW Bs jQ lJ xG holder outer oI nR Inv Up)
theorem F9(t:List Nd)(z:Nat)(v:Lv):∀st:List Lv,wF t z (st++[v])=reach t v.node z
 |[]=>rfl
 |x::st=>by
  have h:=F9 t z v st;cases st with
  |nil=>exact h
  |cons y q=>exact h
theorem qP{l:List Tk}:∀(b m i:Nat),m<=i->i<b->cnt (raw l i)=true->cnt (raw l (back l b m-1))=true/\(∀j,back l b m<=j->j<b->cnt (raw l j)=false)
 |0,m,i=>λ_ h _=>absurd h (qJ _)
 |b+1,m,i=>λh1 h2 h3=>by
  rw[back];by_cases hc:cnt (raw l b)=false
  ·have hib:i≠b:=λe=>by rw[e,hc]at h3;cases h3
   rw[eY ⟨by omega,hc⟩];obtain⟨g1,g2⟩:=qP b m i h1 (by omega) h3;refine⟨g1,λj a1 a2=>?_⟩;by_cases e:j=b
   ·rw[e];exact hc
   exact g2 j a1 (by omega)
  rw[eX (λh=>hc h.2)];exact⟨by simpa using hc,λj a1 a2=>by omega⟩
theorem T4{l:List Tk}{a T:Nat}(hT:a<T)(hc:cnt (raw l a)=true):
 (lo l (a+1) (back l T a)<back l (back l T a) (lo l (a+1) (back l T a))↔lo l (a+1) T<T)/\
 (lo l (a+1) T<T->lo l (a+1) (back l T a)=lo l (a+1) T/\back l (back l T a) (lo l (a+1) (back l T a))=back l T (lo l (a+1) T)):=by
 obtain⟨g1,g2⟩:=qP T a a (fB _) hT hc;have hbg:=Ps.oV l T a a (fB _) hT hc;have hbl:=iV l T a;obtain⟨b,hb⟩:=fq (back l T a);rw[hb]at g1 g2 hbg hbl⊢;have aa:=Ps.kQ l (a+1) T;by_cases hx:lo l (a+1) T<T
 ·have hcx:=Ps.qD l hx;have hno:=l7 (λj=>!cnt (raw l j)) (T-(a+1)) (a+1);obtain⟨x,ae⟩:=fq (lo l (a+1) T);have hxu:iQ (λj=>!cnt (raw l j)) (T-(a+1)) (a+1)=x:=ae;rw[hxu]at hno;rw[ae]at hx hcx aa⊢;have hxb:x<b:=by
   rcases kS x b with h|h
   ·exact h
   have:=g2 x h hx;rw[hcx]at this;cases this
  have e:lo l (a+1) b=x:=by
   unfold Ps.lo;exact xV _ _ _ _ aa (by omega) (λj a1 a2=>hno j a1 a2) (.inr (by rw[hcx];rfl))
  rw[e];have e2:back l b x=b:=by
   obtain⟨c,rfl⟩:∃c,b=c+1:=⟨b-1,by omega⟩
   rw[back,eX (λh=>by rw[jH]at g1;rw[g1]at h;cases h.2)]
  rw[e2];refine⟨⟨λ_=>hx,λ_=>hxb⟩,λ_=>⟨rfl,?_⟩⟩;rw[<-hb];exact yu l T a x x (by omega) (fB _) hx hcx
 have hno:∀j,a+1<=j->j<T->cnt (raw l j)=false:=λj a1 a2=>by
  have:=l7 (λj=>!cnt (raw l j)) (T-(a+1)) (a+1) j a1 (by have:=Ps.lo_le l (show a+1<=T by omega);unfold Ps.lo at hx this;omega)
  simpa using this
 have hb1:b=a+1:=by
  rcases kS (a+1) b with h|h
  ·have:=hno (b-1) (by omega) (by omega);rw[g1]at this;cases this
  omega
 subst hb1;have e:lo l (a+1) (a+1)=a+1:=by
  have h1:=Ps.kQ l (a+1) (a+1);have h2:=Ps.lo_le l (fB (a+1));omega
 rw[e,mJ];exact⟨⟨λh=>absurd h (sO _),λh=>absurd h hx⟩,λh=>absurd h hx⟩
theorem T6{l:List Tk}{B:Bs}{depth e:Nat}{q:QS}{p:PS}{r:R}(hS:Q6 l)(hl:l.length<=32768)(hrow:(Rw.fA l)[q.row]?=some r)(h4:r.kind=4)(hst:q.st=BK p)(hs:q.s=p.s)(hI:Inv l B e p)(he:e<=r.from')(hB:B.1<=r.from')(hrd:p.read=r.bu):
 Fin l q (mark l (Rw.fA l) depth q r) (Ps.mark l (Rw.fA l) depth p r):=by
 have hmem:=iK hrow;have hro:=Ps.rows_ok l r hmem;have hlt:=hro.lt;have hle:=hro.le;have hraw:=(hS.first r hmem).1 h4;have hcnt:cnt (raw l r.from')=true:=by rcases hraw with h|h<;>rw[h]<;>rfl
 have ha:=wQ hcnt (nX hlt);have hmk:∀j,r.from'+1<=j->j<r.bu->raw l j≠20/\raw l j≠21:=λj g1 g2=>hS.mark r hmem j (by omega) g2
 have hlim:∀j,r.from'+1<=j->j<=r.bu->Ps.limit l j=Ps.limit l (r.from'+1):=λj g1 g2=>(uO g1 (by omega) (λm k1 k2=>hmk m k1 (by omega))).symm
 unfold mark Ps.mark;dsimp only;rw[ha];obtain⟨a,ay⟩:=fq (r.from');rw[ay]at hraw hcnt hmk hlim hlt he hB⊢;by_cases h20:raw l a=20
 ·rw[eY h20,eY h20];obtain⟨s',a1,_,a3,⟨x,a4,a5⟩,a6⟩:=Fe.kE (kind:=2) (f:=a) (t:=a+1) hI.root (by omega) (by omega) (by omega) (by omega) (by omega);obtain⟨f1,_⟩:=rV (kind:=2) (f:=a) (t:=a+1) hI.root (by omega) (by omega) (by omega) (by omega) (by omega) (by omega);have a1:Fl.add p.s 0 2 a (a+1)=(s',(p.s.t.length:Int)):=a1;have f1:Fl.add p.s 0 2 a (a+1)=(⟨add p.s.t 0 2 a ((a+1:Nat):Int),p.s.d⟩,(p.s.t.length:Int)):=f1;rw[f1]at a1;obtain rfl:s'=_:=(congrArg Prod.fst a1).symm;rw[f1];dsimp only;have a3':OK l B p.s.t.length (a+1) (⟨add p.s.t 0 2 a ((a+1:Nat):Int),p.s.d⟩:St):=a3.le (by omega) (by omega);have hq1:fM {q with en:=ky l (a+1),st:=[]} a={s:=⟨add p.s.t 0 2 a ((a+1:Nat):Int),p.s.d⟩,row:=q.row,en:=ky l (a+1),st:=[⟨2,p.s.t.length,-1,p.s.t.length,false⟩]}:=by
   unfold fM;dsimp only;rw[hs]
  rw[hq1];obtain⟨P,hP⟩:∃P:PS,{p with s:=(⟨add p.s.t 0 2 a ((a+1:Nat):Int),p.s.d⟩:St),doc:=(p.s.t.length:Int),root:=false,st:=[]}=P:=⟨_,rfl⟩
  have ak:P.s=⟨add p.s.t 0 2 a ((a+1:Nat):Int),p.s.d⟩:=by rw[<-hP]
  have ae:P.doc=(p.s.t.length:Int):=by rw[<-hP]
  have az:P.root=false:=by rw[<-hP]
  have aa:P.st=[]:=by rw[<-hP]
  have af:P.read=r.bu:=by rw[<-hP];exact hrd
  obtain⟨Q,hQ⟩:∃Q:QS,{s:=(⟨add p.s.t 0 2 a ((a+1:Nat):Int),p.s.d⟩:St),row:=q.row,en:=ky l (a+1),st:=[⟨2,p.s.t.length,-1,p.s.t.length,false⟩]}=Q:=⟨_,rfl⟩
  have ag:Q.s=P.s:=by rw[<-hQ,ak]
  have ah:Q.row=q.row:=by rw[<-hQ]
  have ai:Q.en=Ps.limit l (a+1):=by rw[<-hQ];rfl
  have aj:Q.st=⟨2,p.s.t.length,-1,p.s.t.length,false⟩::[]:=by rw[<-hQ]
  rw[hP,hQ];rw[<-ak]at a3';by_cases hx:lo l (a+1) r.bu<r.bu
  ·rw[eY ((qj (by omega)).2 hx)];have hxg:=Ps.kQ l (a+1) r.bu;have hidle:=hS.idle r hmem (a+1) (by omega) hx;obtain⟨x,av⟩:=fq (lo l (a+1) r.bu);rw[av]at hx hxg hidle⊢;have hV:=sD (depth:=depth) (a:=a+1) (i:=a+1) (x:=x) hS (by rw[ah];exact hrow) hl aj (k:=p.s.t.length) rfl rfl (by rw[aa];rfl) (by rw[ag]) (by rw[ag];exact HS.refl _ _ _) a3' (by omega) (by rw[ai];exact(hlim x hxg (by omega)).symm) (by omega) av hx hxg hidle hmk;obtain⟨v1,v2,v3,v4,v5⟩:=Ps.lX (depth:=depth) (p:=P) (i:=x) a3' (by omega) hxg (by omega);refine⟨hV.s,?_,⟨?_,?_⟩,⟨by have:=hV.row.1;omega,hV.row.2⟩,?_⟩
   ·refine hV.st.trans (KH ?_ (jG (by show 0<=(Ps.value l (Rw.fA l) depth P (p.s.t.length:Int) x).1.doc;rw[v1,ae];omega)).symm);show _=(Ps.value l (Rw.fA l) depth P (p.s.t.length:Int) x).1.st.map jK++[jA {(Ps.value l (Rw.fA l) depth P (p.s.t.length:Int) x).1 with root:=(Ps.value l (Rw.fA l) depth P (p.s.t.length:Int) x).2}]
    rw[v2,aa];unfold jA;dsimp only;rw[v1,ae];rfl
   ·show BL (Ps.value l (Rw.fA l) depth P (p.s.t.length:Int) x).1.st;rw[v2,aa];trivial
   ·show(Ps.value l (Rw.fA l) depth P (p.s.t.length:Int) x).1.st≠[]->_;rw[v2,aa];exact λh=>absurd rfl h
   show Ps.limit l (Ps.value l (Rw.fA l) depth P (p.s.t.length:Int) x).1.read=_;rw[hV.lim,hV.en]
  have hxe:lo l (a+1) r.bu=r.bu:=by have:=Ps.lo_le l (show a+1<=r.bu by omega);omega
  rw[eX (λh=>hx ((qj (by omega)).1 h))]
  rw[Bd hS (by rw[ah];exact hrow) aj ai (by omega) hxe (by
   rcases kS (a+1) r.bu with g|g
   ·exact .inl g
   right;by_cases e:r.bu=l.length
   ·exact e
   have h1:=hS.tail r hmem (by omega);rw[show r.bu-1=a by omega,h20]at h1
   omega)]
  refine⟨ag,?_,⟨by rw[aa];trivial,by rw[aa];exact λh=>absurd rfl h⟩,⟨by omega,r,by rw[ah];exact hrow,af.symm⟩,by rw[af,ai];exact hlim r.bu (by omega) (fB _)⟩;rw[aj,jG (by rw[ae];omega),aa];unfold jA;rw[ae,az];rfl
 rw[eX h20,eX h20];have hgrow:(if 0<=p.doc then(⟨jg p.s.t p.doc ((a+1:Nat):Int),p.s.d⟩:St)else p.s)=⟨wF q.s.t (a+1) q.st,q.s.d⟩/\OK l B 0 (a+1) (if 0<=p.doc then(⟨jg p.s.t p.doc ((a+1:Nat):Int),p.s.d⟩:St)else p.s):=by
  rcases hI with⟨g1,g2,g3⟩|⟨d,g1,g2,g3⟩
  ·rw[eX (by omega)];refine⟨?_,g3.le (by omega) (by omega)⟩;rw[hst,hs];unfold BK;rw[eY (by omega)];rfl
  rw[eY (by omega),g1];obtain⟨k1,k2⟩:=lJ.all g2 g3;have k3:=Fe.qd (t:=a+1) k2 (by omega) (by omega) (by omega);have k4:=(Fe.qd (t:=a+1) (Fe.Ok.start (l:=l) (p0:=B.1) k2.ck k2.fits k2.lf k2.no) (by omega) (by omega) (by omega)).keep;refine⟨?_,Ps.EU k3 (k1.keep k4)⟩;rw[hst,hs,jG (by omega),F9];have hdl:d<p.s.t.length:=k2.fits.lt
  rw[Tn k2.ck hdl (by omega)];have:(jA p).node=d:=by show p.doc.toNat=d;omega
  rw[this]
 obtain⟨s1,hs1⟩:=fq ((if 0<=p.doc then(⟨jg p.s.t p.doc ((a+1:Nat):Int),p.s.d⟩:St)else p.s));rw[hs1]at hgrow⊢;rw[<-hgrow.1];obtain⟨L1,L2⟩:=T4 hlt hcnt;have hxg:=Ps.kQ l (a+1) r.bu;refine⟨?_,?_,⟨trivial,λh=>absurd rfl h⟩,⟨fB _,r,hrow,hrd.symm⟩,?_⟩
 ·dsimp only;have hstr:=Ak (a:=a+1) (b:=r.bu) (t:=s1.t) hgrow.2 (λz _=>rfl) (λ_=>rfl) (by omega) (by omega) hle;have ax:(⟨s1.t,s1.d⟩:St)=s1:=rfl;rw[ax]at hstr;rw[hstr];unfold Ps.rO;by_cases hx:lo l (a+1) r.bu<r.bu
  ·obtain⟨m1,m2⟩:=L2 hx;rw[eY ((qj (by omega)).2 hx),eY (L1.2 hx),m2,m1];rfl
  rw[eX (λh=>hx ((qj (by omega)).1 h)),eX (λh=>hx (L1.1 h))]
 ·rfl
 show Ps.limit l p.read=Ps.limit l (a+1);rw[hrd];exact hlim r.bu (by omega) (fB _)
end Pr
namespace Pr
open Ar Fl
open Rw (R E)
open Ps (lo PS kindOf OK sW Bs jQ lJ xG holder outer oI nR Inv Up)
theorem T7{l:List Tk}{r:R}(h:Ng l r)(ht:r.bu<=l.length)(hlt:r.from'<=r.bu)(hn:Rw.jV ((l.drop r.from').take (r.bu-r.from'))=none):lo l r.from' r.bu=r.bu:=by
 have h1:=Rw.Gx _ hn;unfold Ps.lo;refine xV _ _ _ _ hlt (by omega) (λj a b=>?_) (.inl (by omega));obtain⟨x,hx⟩:=jB l j (by omega);have hm:x∈(l.drop r.from').take (r.bu-r.from'):=by
  refine iK (i:=j-r.from') ?_;rw[rD (by omega),sJ,<-hx];congr 1;omega
 have h2:=h1 x hm;rw[Ps.lM hx];have h2:cnt x.1=false:=h2;rw[h2];rfl
theorem Ga{l:List Tk}{r:R}(h:Ng l r)(ht:Rw.kK 0 l):(r.kind=1\/r.kind=2\/r.kind=3\/r.kind=4\/r.kind=5)/\(r.kind=1->Rw.jV ((l.drop r.from').take (r.bu-r.from'))=none)/\(r.kind=5->0<=r.fG):=by
 obtain⟨begun,h1,h2⟩:=h.form;refine⟨?_,λhk=>Rw.O3 begun _ (by rw[<-h1];exact hk),λhk=>?_⟩
 ·rw[h1];unfold Rw.kindOf;split
  ·simp
  split
  ·split<;>simp
  split
  ·simp
  split<;>simp
 obtain⟨q,hq⟩:=Rw.kK.drop ht r.from';have aa:=Rw.ym (r.bu-r.from') _ hq;rw[h2];refine(Rw.VX aa).2 ?_;rw[h1]at hk;unfold Rw.kindOf at hk;split at hk
 ·cases hk
 cases hf:Rw.jV ((l.drop r.from').take (r.bu-r.from'))with
 |none=>
  rw[hf]at hk;dsimp only at hk;split at hk<;>cases hk
 |some x=>rfl
theorem GZ{l:List Tk}{B:Bs}{depth e:Nat}{q:QS}{p:PS}{r:R}(ht:Rw.kK 0 l)(hS:Q6 l)(hrow:(Rw.fA l)[q.row]?=some r)(h4:r.kind≠4)(h5:r.kind≠5)(hst:q.st=BK p)(hs:q.s=p.s)(hw:Wf p)(hI:Inv l B e p)(he:e<=r.from')(hen:q.en=Ps.limit l r.from')(hrd:p.read=r.bu):
 Fin l q (jY l q r) (if r.kind=2\/r.kind=3 then(if lo l r.from' r.bu<back l r.bu (lo l r.from' r.bu)then{Ps.jW p (lo l r.from' r.bu)with s:=err l (Ps.jW p (lo l r.from' r.bu)).s (holder (Ps.jW p (lo l r.from' r.bu))) (lo l r.from' r.bu) (back l r.bu (lo l r.from' r.bu)) 8}else p)else p):=by
 have hmem:=iK hrow;have hro:=Ps.rows_ok l r hmem;have hlt:=hro.lt;have hle:=hro.le;obtain⟨k1,k2,k3⟩:=Ga (BO l r hmem) ht;have hlim:Ps.limit l r.bu=q.en:=by
  rw[hen];refine(uO (by omega) hle (λj g1 g2=>?_)).symm;rcases kS r.from' j with g|g
  ·exact hS.mark r hmem j g g2
  obtain rfl:j=r.from':=by omega
  have:=hS.first r hmem;refine⟨λh=>?_,λh=>?_⟩
  ·have:=this.2 (.inl h);omega
  have:=this.2 (.inr h);omega
 have aa:Fin l q q p:=⟨hs,hst,hw,⟨fB _,r,hrow,hrd.symm⟩,by rw[hrd];exact hlim⟩
 have hge:=Ps.kQ l r.from' r.bu;unfold jY;dsimp only;by_cases hx:lo l r.from' r.bu<r.bu
 ·have h23:r.kind=2\/r.kind=3:=by
   rcases k1 with h|h
   ·have:=T7 (BO l r hmem) hle (by omega) (k2 h);omega
   omega
  rw[eY hx,eY h23,eY ((qj (by omega)).2 hx)];obtain⟨R1,R2,R3⟩:=F6 hst hs hw hI (i:=lo l r.from' r.bu) (by omega) (by omega);obtain⟨o1,o2⟩:=Ps.uh hI (i:=lo l r.from' r.bu) (by omega) (by omega);obtain⟨a,ha⟩:=fq (lo l r.from' r.bu);have hcn:=Ps.qD l hx;rw[ha]at hx R1 R2 R3 o1 o2 hcn⊢;have hself:=wQ hcn (nX hx);refine⟨?_,R1.st,R1.wf,⟨by show q.row<=(fM q a).row;omega,r,by show(Rw.fA l)[(fM q a).row]?=_;rw[R2];exact hrow,by show r.bu=(Ps.jW p a).read;omega⟩,?_⟩
  ·dsimp only;exact Ai R1 o1 (by rw[hself];exact fB _) (by rw[hself];exact hx) hle hself
  show Ps.limit l (Ps.jW p a).read=(fM q a).en;rw[o2,hrd,R3];exact hlim
 rw[eX hx];have:¬lo l r.from' r.bu<back l r.bu (lo l r.from' r.bu):=λh=>hx ((qj (by omega)).1 h)
 rw[eX this];split<;>exact aa
theorem Kg{l:List Tk}{B:Bs}{depth:Nat}{q:QS}{p:PS}{r:R}(ht:Rw.kK 0 l)(hS:Q6 l)(hl:l.length<=32768)(hrow:(Rw.fA l)[q.row]?=some r)(hst:q.st=BK p)(hs:q.s=p.s)(hw:Wf p)(hI:Inv l B p.read p)(hrd:p.read=r.from')(hB:B.1<=r.from')(hen:q.en=Ps.limit l r.from'):
 Fin l q (step l (Rw.fA l) depth q r) (Ps.row l (Rw.fA l) depth p r):=by
 have hmem:=iK hrow;obtain⟨k1,k2,k3⟩:=Ga (BO l r hmem) ht;have hI2:Inv l B p.read {p with read:=r.bu}:=hI;unfold step Ps.row;dsimp only;by_cases h4:r.kind=4
 ·rw[eY h4,eY h4];exact T6 hS hl hrow h4 hst hs hI2 (by omega) hB rfl
 rw[eX h4,eX h4];by_cases h5:r.kind=5
 ·rw[eY h5,eY h5];exact TS ht hS hl hrow h5 hst hs hw hI2 (by omega) hB hen rfl (k3 h5)
 rw[eX h5,eX h5];exact GZ (depth:=depth) ht hS hrow h4 h5 hst hs hw hI2 (by omega) hen rfl
theorem U3{l:List Tk}{rs:List R}{depth:Nat}{p:PS}:∀(d i:Nat),(∀k r,i<=k->k<i+d->rs[k]?=some r->r.from'<p.read)->Ps.jP l rs depth p (rs.drop i)=Ps.jP l rs depth p (rs.drop (i+d))
 |0,i=>λ_=>rfl
 |d+1,i=>λh=>by
  by_cases hi:i<rs.length
  ·have h0:=h i rs[i] (fB _) (by omega) (mR hi);rw[vZ hi,Ps.jP,eX (by omega),U3 d (i+1) (λk r a b=>h k r (by omega) (by omega))];congr 2;omega
  rw[mI (by omega),mI (by omega)]
theorem OA{l:List Tk}{B:Bs}{depth:Nat}(ht:Rw.kK 0 l)(hS:Q6 l)(hl:l.length<=32768)(hB:B.1=0):∀(f:Nat)(q:QS)(p:PS),(Rw.fA l).length-q.row<=f->q.st=BK p->q.s=p.s->Wf p->Inv l B p.read p->(∀r,(Rw.fA l)[q.row]?=some r->p.read=r.from'/\q.en=Ps.limit l r.from')->
 (Ia l (Rw.fA l) depth f q).s=(Ps.jP l (Rw.fA l) depth p ((Rw.fA l).drop q.row)).s
 |0,q,p=>λhf hst hs _ _ _=>by
  rw[mI (by omega)];exact hs
 |f+1,q,p=>λhf hst hs hw hI hr=>by
  rw[Ia];cases hrow:(Rw.fA l)[q.row]? with
  |none=>
   rw[mI (wm.1 hrow)];exact hs
  |some r=>
   dsimp only;obtain⟨h1,h2⟩:=hr r hrow;obtain⟨hi,ae⟩:=gD.1 hrow;have hF:=Kg (depth:=depth) ht hS hl hrow hst hs hw hI h1 (by omega) h2;have hmem:=iK hrow;have hok:=Ps.Ir (depth:=depth) ht hI (Ps.rows_ok l r hmem) (by omega) (by omega);rw[vZ hi,ae,Ps.jP,eY (by omega)];obtain⟨P,hP⟩:=fq (Ps.row l (Rw.fA l) depth p r);obtain⟨Q,hQ⟩:=fq (step l (Rw.fA l) depth q r);rw[hP]at hF hok⊢;rw[hQ]at hF⊢;obtain⟨g1,r',g2,g3⟩:=hF.row;have aa:=Ps.rows_ok l r' (iK g2)
   rw[U3 (p:=P) (Q.row-q.row) (q.row+1) (λk x a b hk=>by
    have:=aa.lt;by_cases e:k=Q.row
    ·subst e;rw[g2]at hk;obtain rfl:=jl hk;omega
    have h3:=vg (rws l) hk g2 (by omega);have:=(Ps.rows_ok l x (iK hk)).lt
    omega)]
   have:=OA (depth:=depth) ht hS hl hB f {Q with row:=Q.row+1} P (by show _-(Q.row+1)<=f;omega) hF.st hF.s hF.wf hok.1 (λx hx=>by
    have h4:=(rws l).next Q.row r' x g2 hx
    exact⟨by omega,by show Q.en=_;rw[<-hF.lim,<-g3,h4]⟩)
   rw[this];show _=(Ps.jP l (Rw.fA l) depth P ((Rw.fA l).drop (q.row+1+(Q.row-q.row)))).s;rw[show q.row+1+(Q.row-q.row)=Q.row+1 by omega]
theorem T8(b:List Nat)(depth:Nat)(hl:(Sc.tokens b).length<=32768):read (Sc.tokens b) depth=Ps.read (Sc.tokens b) depth:=by
 have ht:=Rw.kW b;unfold read Ps.read
 have:=OA (depth:=depth) (B:=(0,(Ps.start (Sc.tokens b)).s)) ht (Zb b) hl rfl (Rw.fA (Sc.tokens b)).length (start (Sc.tokens b)) (Ps.start (Sc.tokens b)) (by show _-0<=_;omega) rfl rfl ⟨trivial,λh=>absurd rfl h⟩ (Ps.ui _ hl) (λr hr=>by
  have h0:=(rws (Sc.tokens b)).zero r hr
  refine⟨by rw[h0];rfl,by rw[h0];rfl⟩)
 rw[this];show(Ps.jP _ _ _ _ ((Rw.fA (Sc.tokens b)).drop 0)).s=_;rw[lQ]
theorem uz{α β:Type}{f g:α->Option β}:∀(l:List α),(∀x∈l,f x=g x)->l.filterMap f=l.filterMap g
 |[],_=>rfl
 |x::r,h=>by
  rw[Vl,Vl,h x (by simp),uz r (λy hy=>h y (by simp[hy]))]
theorem xD{α β:Type}{f g:α->List β}:∀(l:List α),(∀x∈l,f x=g x)->l.flatMap f=l.flatMap g
 |[],_=>rfl
 |x::r,h=>by
  rw[Da,Da,h x (by simp),xD r (λy hy=>h y (by simp[hy]))]
theorem T9(b:List Nat)(r:R)(hr:r∈Rw.fA (Sc.tokens b)):tabs (Sc.tokens b) r=Ps.tabs b (Sc.tokens b) r:=by
 unfold tabs Ps.tabs;split
 ·rename_i h5;refine uz _ (λi hi=>?_);rw[Hq]at hi;by_cases h3:raw (Sc.tokens b) (r.from'+i)=3
  ·rw[eY h3,eY];refine⟨h3,?_⟩;obtain⟨a1,a2⟩:=Bh b;have hF:=BO _ r hr;have hro:=Ps.rows_ok _ r hr;have hlo:=Ps.lo_le (Sc.tokens b) (nX hro.lt);obtain⟨l,hl⟩:=fq (Sc.tokens b);have ht:=Rw.kW b;rw[hl]at hr hi h3 a1 a2 hF hro hlo ht⊢;have hle:=hro.le;obtain⟨y,hy⟩:=jB l (r.from'+i) (by omega);have hy3:y.1=3:=by rw[Ps.lM hy]at h3;exact h3
   have hb:b[y.2.1]?=some 9:=by
    rcases uB i with h0|h0
    ·subst h0;rw[qI]at hy;rcases hF.pre with e|⟨x,hx,he⟩
     ·rw[e]at hy;exact a1 y hy hy3
     have hpos:r.from'≠0:=λe=>by
      rw[e]at hx hy;have hx:l[0]?=some x:=hx;rw[hx]at hy;obtain rfl:=jl hy;unfold Rw.ends at he;rw[hy3]at he;cases he
     unfold Rw.ends at he;exact(a2 (r.from'-1) x y hx (by rw[show r.from'-1+1=r.from' by omega];exact hy)).tab (by simp at he;omega) hy3
    obtain⟨x,hx⟩:=jB l (r.from'+i-1) (by omega);have aa:=a2 (r.from'+i-1) x y hx (by rw[show r.from'+i-1+1=r.from'+i by omega];exact hy);obtain⟨g1,g2⟩:=row_in hF (j:=r.from'+i-1) (by omega) (by omega) hx;have hnc:cnt (raw l (r.from'+i-1))=false:=by
     have:=l7 (λj=>!cnt (raw l j)) (r.bu-r.from') r.from' (r.from'+i-1) (by omega) (by unfold Ps.lo at hi;omega)
     simpa using this
    rw[Ps.lM hx]at hnc;unfold cnt at hnc;simp at hnc;have h4:x.1≠4:=λe=>by have:=aa.four e;omega
    have ae:x.1≠3:=λe=>aa.three e hy3
    exact aa.tab (by omega) hy3
   have hft:y.2.1<y.2.2:=by
    have:=(ht.le _ y hy).2;exact this
   have e1:mM l (r.from'+i)=y.2.1:=by unfold mM;rw[hy]
   have e2:too l (r.from'+i)=y.2.2:=by unfold too;rw[hy]
   rw[e1,e2];unfold Ps.part;rw[List.contains_iff_mem];refine iK (i:=0) ?_;rw[rD (by omega),sJ,qI];exact hb
  rw[eX h3,eX (λh=>h3 h.1)]
 rfl
theorem Qi(b:List Nat):nM b (Sc.tokens b)=Ps.nM b (Sc.tokens b):=by
 unfold nM Ps.nM;rw[xD _ (λr hr=>T9 b r hr)]
end Pr
end Go.Proofs.YtmkkdjpebbdikaaGreatDoor

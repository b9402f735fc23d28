import Derived.Test.YtmkkdjpebbdikaaGreatDoorZb30
import Derived.Test.YtmkkdjpebbdikaaGreatDoorZb31
set_option linter.all false
set_option maxHeartbeats 16000000
set_option maxRecDepth 100000
namespace Go.Proofs.YtmkkdjpebbdikaaGreatDoor
open Go.RowKit Go.Proofs.Tryz
section
open Ar
open Rw (R E)
structure QOk(l:List Tk)(depth:Nat)(q:Pr.QS):Prop where
 ok:Pr.pP q
 bot:q.st=[]\/yC q.st
 len:q.st.length<=depth+1
 en:q.en<=l.length
theorem Il(t:List Nd)(z:Nat):∀st:List Pr.Lv,(Pr.zA t z st).length=t.length
 |[]=>rfl
 |[v]=>by show(Pr.reach t v.node z).length=_;exact Pr.uD _ _ _
 |_::v::r=>Il t z (v::r)
theorem Nu(l:List Tk)(rs:List R)(depth:Nat)(q:Pr.QS)(i:Nat):(q.st=[]\/yC q.st)->((Pr.value l rs depth q i).st=[]\/yC (Pr.value l rs depth q i).st)/\(Pr.value l rs depth q i).st.length=q.st.length:=by
 intro hb;unfold Pr.value;cases hs:q.st with
 |nil=>exact⟨.inl hs,by rw[hs]⟩
 |cons h r=>
  refine⟨.inr ?_,rfl⟩;rcases hb with hb|hb
  ·rw[hs]at hb;cases hb
  ·rw[hs]at hb;exact hb.head (y:={h with full:=_}) rfl
theorem zk(l:List Tk)(depth T:Nat):∀(es:List E)(q:Pr.QS),Pr.pP q->yC q.st->q.st.length<=depth+1->
 Pr.pP (Pr.places l depth T q es).2/\yC (Pr.places l depth T q es).2.st/\(Pr.places l depth T q es).2.st.length<=depth+1/\(Pr.places l depth T q es).2.row=q.row/\(Pr.places l depth T q es).2.en=q.en/\
  (Pr.places l depth T q es).2.s.t.length<=q.s.t.length+3*es.length+1/\(Pr.places l depth T q es).2.s.d.length<=q.s.d.length+1/\q.s.t.length<=(Pr.places l depth T q es).2.s.t.length
 |[],q,h1,h2,h3=>⟨h1,h2,h3,rfl,rfl,Qa,by show q.s.d.length<=_;omega,eO _⟩
 |e::es,q,h1,h2,h3=>by
  obtain⟨o1,o2,o3,o4,o5,o6⟩:=Pr.rz h1 l depth e;obtain⟨p1,p2,-⟩:=EZ l depth e h2 h3;rw[Pr.places];by_cases h0:(Pr.place l depth q e).1=0
  ·rw[dX h0];obtain⟨a1,a2,a3,a4,a5,a6,a7,a8⟩:=zk l depth T es _ o1 p1 p2;refine⟨a1,a2,a3,by rw[a4,o5],by rw[a5,o6],?_,?_,dS⟩
   ·rw[iR];omega
   ·rw[o4]at a7;exact a7
  ·rw[dW h0];obtain⟨f1,f2,f3⟩:=Pr.rG l q.s (Pr.mV q.st) (Pr.place l depth q e).1 e.from' T;exact⟨h1.more f1,h2,h3,rfl,rfl,by show(Pr.fault _ _ _ _ _ _).t.length<=_;omega,f3,f1⟩
theorem step_ok{l:List Tk}{rs:List R}{depth:Nat}{q:Pr.QS}{r:R}(h:QOk l depth q)(hl:l.length<=32768)(hf:r.from'+1<=l.length)(hes:(Rw.iH l r).1.length<=100000)(hre:(Rw.iH l r).2<=q.en):
 QOk l depth (Pr.step l rs depth q r)/\(Pr.step l rs depth q r).s.t.length<=q.s.t.length+400000/\(Pr.step l rs depth q r).s.d.length<=q.s.d.length+100000:=by
 unfold Pr.step;split
 ·
  unfold Pr.mark;dsimp only;obtain⟨g1,g2⟩:=wY l (r.from'+1) hf;split
  ·have aa:Pr.pP ({q with en:=Pr.kQ l (r.from'+1),st:=[]}:Pr.QS):=⟨h.ok.pos,λv hv=>by cases hv⟩
   obtain⟨o1,o2,o3,o4,-⟩:=Pr.mr aa r.from';have o5:=qd (q:={q with en:=Pr.kQ l (r.from'+1),st:=[]}) r.from' (.inl rfl);have o6:=rH (q:={q with en:=Pr.kQ l (r.from'+1),st:=[]}) r.from' depth (fP _);have oe:(Pr.fA {q with en:=Pr.kQ l (r.from'+1),st:=[]} r.from').en=Ps.limit l (r.from'+1):=rfl;obtain⟨q4,hq4⟩:=eu (Pr.fA {q with en:=Pr.kQ l (r.from'+1),st:=[]} r.from');rw[hq4]at o1 o2 o3 o4 o5 o6 oe⊢;dsimp only at o2 o3 o4;obtain⟨v1,v2,v3,v4⟩:=Pr.mh o1 l rs depth (r.from'+1) (by rw[oe];exact g1) (by rw[oe];exact g2) hl;obtain⟨s1,s2⟩:=Nu l rs depth q4 (r.from'+1) (.inr o5);exact⟨⟨v1,s1,by rw[s2];exact o6,by rw[v4,oe];exact g2⟩,dS,by rw[o4]at v3;omega⟩
  ·obtain⟨f1,f2,f3⟩:=Pr.rG l ⟨Pr.zA q.s.t (r.from'+1) q.st,q.s.d⟩ 0 8 (r.from'+1) r.bu;dsimp only at f1 f2 f3;rw[Il]at f1 f2;exact⟨⟨⟨zx h.ok.pos f1,λv hv=>by cases hv⟩,.inl rfl,fP _,g2⟩,l6,l6⟩
 split
 ·
  unfold Pr.body;dsimp only;obtain⟨x,hx⟩:=eu (Ps.lo l r.from' r.bu);rw[hx];obtain⟨o1,o2,o3,o4,-⟩:=Pr.mr h.ok x;have o5:=qd x h.bot;have o6:=rH x depth h.len;have o7:(Pr.fA q x).en=q.en:=by unfold Pr.fA;cases q.st<;>rfl
  obtain⟨q1,hq1⟩:=eu (Pr.fA q x);rw[hq1]at o1 o2 o3 o4 o5 o6 o7⊢;obtain⟨p1,p2,p3,p4,p5,p6,p7,p8⟩:=zk l depth r.bu (Rw.iH l r).1 q1 o1 o5 o6;obtain⟨K,hK⟩:=eu (Pr.places l depth r.bu q1 (Rw.iH l r).1);rw[hK]at p1 p2 p3 p4 p5 p6 p7 p8⊢;rw[o4]at p7;rw[o7]at p5;split
  ·split
   ·obtain⟨f1,f2,f3⟩:=Pr.rG l K.2.s (Pr.mV K.2.st) 7 (Rw.iH l r).2 r.bu;exact⟨⟨p1.more f1,.inr p2,p3,by show K.2.en<=_;rw[p5];exact h.en⟩,l6,l6⟩
   ·obtain⟨v1,v2,v3,v4⟩:=Pr.mh p1 l rs depth (Rw.iH l r).2 (by rw[p5];exact hre) (by rw[p5];exact h.en) hl;obtain⟨s1,s2⟩:=Nu l rs depth K.2 (Rw.iH l r).2 (.inr p2);exact⟨⟨v1,s1,by rw[s2];exact p3,by rw[v4,p5];exact h.en⟩,dS,dS⟩
  ·exact⟨⟨p1,.inr p2,p3,by rw[p5];exact h.en⟩,dS,dS⟩
 ·
  unfold Pr.kE;dsimp only;split
  ·obtain⟨x,hx⟩:=eu (Ps.lo l r.from' r.bu);rw[hx];obtain⟨o1,o2,o3,o4,-⟩:=Pr.mr h.ok x;have o5:=qd x h.bot;have o6:=rH x depth h.len;have o7:(Pr.fA q x).en=q.en:=by unfold Pr.fA;cases q.st<;>rfl
   obtain⟨f1,f2,f3⟩:=Pr.rG l (Pr.fA q x).s (Pr.mV (Pr.fA q x).st) 8 x r.bu;exact⟨⟨o1.more f1,.inr o5,o6,by show(Pr.fA q x).en<=_;rw[o7];exact h.en⟩,l6,by dsimp only;rw[o4]at f3;omega⟩
  ·exact⟨h,dS,dS⟩
end
section
open Ar Fl
open Rw (R E)
open Fe (N9)
theorem N9.shift{l:List Tk}{P:Nat->Prop}{d:List Dg}(a:List Dg)(h:N9 l P [] d):N9 l P a (a++d):=by
 obtain⟨ds,js,h1,h2,h3,h4⟩:=h;exact⟨ds,js,by rw[h1];rfl,h2,h3,h4⟩
theorem Et{P:Nat->Prop}(l:List Tk)(s:St)(up code a b:Nat)(hc:code≠9):N9 l P s.d (Pr.fault l s up code a b).d:=by
 unfold Pr.fault;dsimp only;split
 ·exact Fe.N9.other _ _ hc
 ·exact Fe.N9.refl _
theorem abB{l:List Tk}{q:Pr.QS}{r:R}{depth i:Nat}(hrow:(Rw.eF l)[q.row]?=some r)(hi:i<=q.en)(he:q.en<=l.length)(hl:l.length<=32768):
 N9 l (λj=>i<=j/\j<Pr.uM (Rw.eF l) (Pr.value l (Rw.eF l) depth q i).row) q.s.d (Pr.value l (Rw.eF l) depth q i).s.d:=by
 unfold Pr.value;cases hs:q.st with
 |nil=>exact Fe.N9.refl _
 |cons h tl=>
  dsimp only;obtain⟨hck,hf⟩:=Pr.uE l.length i hl;have hn:fU (l.length:Int)=[⟨1,0,l.length,-1,[],false⟩]:=yT
  have hx:∀(i:Nat)(x:Nd),(fU (l.length:Int))[i]?=some x->x.k=1:=by
   intro i x hx;rw[hn]at hx;cases i with
   |zero=>
    have hx:(⟨1,0,l.length,-1,[],false⟩:Nd)=x:=jJ
    subst hx;rfl
   |succ i=>simp at hx
  have h9:=Fe.Ni l q.en (l.length:Int) dS (depth-tl.length) 0 i ⟨fU (l.length:Int),[]⟩ ((i+1:Nat):Int) hck hf (λi x h hk=>by have:=hx i x h;omega) (λx h=>by have:=hx 0 x h;omega) dS hi;have hsz:=(Pr.uF l q.en (depth-tl.length) i l.length hi he hl).2.2.1;have h9:N9 l (λj=>i<=j/\j<(gP l q.en (depth-tl.length) 0 i ⟨fU l.length,[]⟩).2.1) [] (gP l q.en (depth-tl.length) 0 i ⟨fU l.length,[]⟩).2.2.d:=h9;obtain⟨V,hV⟩:=eu (gP l q.en (depth-tl.length) 0 i ⟨fU l.length,[]⟩);rw[hV]at h9 hsz⊢;obtain⟨j,r',s1,s2,s3,s4,s5⟩:=Pr.CW hrow (next:=V.2.1) dS;rw[s1,Pr.oz s3];obtain⟨T,hT⟩:=eu ((if V.1=-1 then q.s.t else Pr.rX q.s.t h.cur (V.2.2.t.drop V.1.toNat)));rw[hT];refine((N9.shift q.s.d h9).trans (Et (P:=λ_=>False) l ⟨T,q.s.d++V.2.2.d⟩ h.cur 8 V.2.1 r'.bu dU) (λ_ _ h=>h)).mono (λk hk=>?_);rcases hk with hk|hk
  ·exact⟨hk.1,dS⟩
  ·exact hk.elim
theorem Nv(depth n:Nat)(e:E):∀st:List Pr.Lv,(Pr.nS depth n e st).1≠9
 |[]=>by show(0:Nat)≠9;decide
 |h::r=>by
  rw[Pr.nS];split
  ·show(0:Nat)≠9;decide
  split
  ·exact Nv depth n e r
  split
  ·show(5:Nat)≠9;decide
  split
  ·show(7:Nat)≠9;decide
  split
  ·show(6:Nat)≠9;decide
  split
  ·show(10:Nat)≠9;decide
  ·show(1:Nat)≠9;decide
theorem WH(l:List Tk)(depth:Nat)(q:Pr.QS)(e:E):(Pr.place l depth q e).1≠9:=by
 unfold Pr.place;have h:=Nv depth q.st.length e q.st;obtain⟨s,hs⟩:=eu (Pr.nS depth q.st.length e q.st);rw[hs]at h⊢;obtain⟨c,z⟩:=s;dsimp only at h;unfold Pr.act;split
 ·show(0:Nat)≠9;decide
 ·split<;>(show(0:Nat)≠9;decide)
 ·rename_i heq;have:=congrArg Prod.fst heq;dsimp only at this⊢;omega
theorem UT{P:Nat->Prop}(l:List Tk)(depth T:Nat):∀(es:List E)(q:Pr.QS),Pr.pP q->N9 l P q.s.d (Pr.places l depth T q es).2.s.d
 |[],q,h=>Fe.N9.refl _
 |e::es,q,h=>by
  obtain⟨o1,o2,o3,o4,o5,o6⟩:=Pr.rz h l depth e;rw[Pr.places];by_cases h0:(Pr.place l depth q e).1=0
  ·rw[dX h0,<-o4];exact UT l depth T es _ o1
  ·rw[dW h0];exact Et l q.s (Pr.mV q.st) _ e.from' T (WH l depth q e)
theorem adm{l:List Tk}{r:R}(ht:Rw.jO 0 l)(h:Ps.lV l r)(h5:r.kind=5):r.from'<=(Rw.iH l r).2:=by
 obtain⟨n1,n2,n3,n4⟩:=Ps.uY ht h h5;have hge:=Ps.kF l r.from' r.bu;cases hz:(Rw.iH l r).1.getLast? with
 |none=>
  rw[aer]at hz;rw[n3 hz];exact hge
 |some z=>
  rw[n2 z hz];have:=Pr.zP _ _ n1 z (LF hz);omega
theorem alb{l:List Tk}{q:Pr.QS}{r:R}{depth:Nat}(ht:Rw.jO 0 l)(hl:l.length<=32768)(hrow:(Rw.eF l)[q.row]?=some r)(hq:QOk l depth q)(hre:(Rw.iH l r).2<=q.en):
 N9 l (λj=>r.from'<=j/\j<Pr.uM (Rw.eF l) (Pr.step l (Rw.eF l) depth q r).row) q.s.d (Pr.step l (Rw.eF l) depth q r).s.d:=by
 have hro:=Ps.rows_ok l r (gW hrow);have hlt:=hro.lt;have hle:=hro.le;unfold Pr.step;split
 ·unfold Pr.mark;dsimp only;obtain⟨g1,g2⟩:=wY l (r.from'+1) dS;split
  ·obtain⟨q4,hq4⟩:=eu (Pr.fA {q with en:=Pr.kQ l (r.from'+1),st:=[]} r.from');have e1:q4.en=Ps.limit l (r.from'+1):=by rw[<-hq4];rfl
   have e2:q4.row=q.row:=by rw[<-hq4];rfl
   have e3:q4.s.d=q.s.d:=by rw[<-hq4];rfl
   rw[hq4];have h9:=abB (depth:=depth) (q:=q4) (i:=r.from'+1) (by rw[e2];exact hrow) (by rw[e1];exact g1) (by rw[e1];exact g2) hl;rw[e3]at h9;exact h9.mono (λj hj=>⟨dS,hj.2⟩)
  ·exact Et l ⟨Pr.zA q.s.t (r.from'+1) q.st,q.s.d⟩ 0 8 _ _ dU
 split
 ·rename_i h5;have aa:=adm ht hro h5;unfold Pr.body;dsimp only;obtain⟨x,hx⟩:=eu (Ps.lo l r.from' r.bu);rw[hx];obtain⟨o1,o2,o3,o4,-⟩:=Pr.mr hq.ok x;have o5:=qd x hq.bot;have o6:=rH x depth hq.len;have o7:(Pr.fA q x).en=q.en:=by unfold Pr.fA;cases q.st<;>rfl
  have o8:(Pr.fA q x).row=q.row:=by unfold Pr.fA;cases q.st<;>rfl
  obtain⟨q1,hq1⟩:=eu (Pr.fA q x);rw[hq1]at o1 o2 o3 o4 o5 o6 o7 o8⊢;obtain⟨p1,p2,p3,p4,p5,p6,p7,p8⟩:=zk l depth r.bu (Rw.iH l r).1 q1 o1 o5 o6;have p9:=UT (P:=λ_=>False) l depth r.bu (Rw.iH l r).1 q1 o1;obtain⟨K,hK⟩:=eu (Pr.places l depth r.bu q1 (Rw.iH l r).1);rw[hK]at p1 p2 p3 p4 p5 p6 p7 p8 p9⊢;rw[o4]at p9;rw[o7]at p5;rw[o8]at p4;split
  ·split
   ·refine(p9.trans (Et (P:=λ_=>False) l K.2.s (Pr.mV K.2.st) 7 (Rw.iH l r).2 r.bu dU) (λ_ _ h=>h)).mono (λj hj=>?_);exact(hj.elim id id).elim
   ·have h9:=abB (depth:=depth) (q:=K.2) (i:=(Rw.iH l r).2) (by rw[p4];exact hrow) (by rw[p5];exact hre) (by rw[p5];exact hq.en) hl;refine(p9.trans h9 (λ_ h _=>h)).mono (λj hj=>?_);rcases hj with hj|hj
    ·exact hj.elim
    ·exact⟨dS,hj.2⟩
  ·exact p9.mono (λj hj=>hj.elim)
 ·unfold Pr.kE;dsimp only;split
  ·obtain⟨o1,o2,o3,o4,-⟩:=Pr.mr hq.ok (Ps.lo l r.from' r.bu);have f:=Et (P:=λ_=>False) l (Pr.fA q (Ps.lo l r.from' r.bu)).s (Pr.mV (Pr.fA q (Ps.lo l r.from' r.bu)).st) 8 (Ps.lo l r.from' r.bu) r.bu dU;rw[o4]at f;exact f.mono (λj hj=>hj.elim)
  ·exact Fe.N9.refl _
end
section
open Ar Fl
open Rw (R E)
open Fe (N9)
theorem xW:∀(f op at':Nat)(l:List Tk),(Rw.iA f op at' l).length<=f
 |0,_,_,_=>fP _
 |f+1,op,at',l=>by
  rw[Rw.iA];by_cases hl:l=[]
  ·rw[dX hl];exact fP _
  ·rw[dW hl,iR];have:=xW f;exact Nat.succ_le_succ (this _ _ _)
theorem WI(l:List Tk):(Rw.eF l).length<=l.length:=xW _ _ _ _
theorem Im{l:List Tk}{b:Nat}:∀(es:List E)(p:Nat),Ps.mU l b p es->es.length<=b-p
 |[],p,_=>fP _
 |e::r,p,⟨h1,h2,h3,h4⟩=>by
  have:=Im r e.bu h4;rw[iR];omega
theorem UU{l:List Tk}{b:Nat}:∀(es:List E)(p:Nat),Ps.mU l b p es->∀e∈es,e.bu<=b
 |[],p,_=>λe he=>by cases he
 |x::r,p,⟨h1,h2,h3,h4⟩=>λe he=>by
  rcases kY.1 he with rfl|he
  ·exact h3
  ·exact UU r _ h4 e he
def big(n:Nat):Nat:=n*400000
theorem Nw(n:Nat):big (n+1)=big n+400000:=by unfold big;omega
theorem Ah{n m:Nat}(h:n<=m):big n<=big m:=O4 _ h
structure Run(l:List Tk)(depth:Nat)(q:Pr.QS):Prop where
 with':∃p:Ps.PS,q.st=Pr.Gv p/\q.s=p.s/\Pr.Wf p/\Ps.Inv l (0,(Ps.start l).s) p.read p/\∀r,(Rw.eF l)[q.row]?=some r->p.read=r.from'/\q.en=Ps.limit l r.from'
 ok:QOk l depth q
 nine:N9 l (λj=>j<l.length/\∀r,(Rw.eF l)[q.row]?=some r->j<r.from') [] q.s.d
 sz:q.s.t.length<=1+big q.row
 dz:q.s.d.length<=big q.row
 fin:∃f,(Rw.eF l).length<=f+q.row/\(Pr.Pm l (Rw.eF l) depth f q).s=Pr.read l depth
 le:q.row<=(Rw.eF l).length
structure amh(l:List Tk)(depth:Nat)(q:Pr.QS)(r:R):Prop where
 lt:r.from'<r.bu
 jC:r.bu<=l.length
 el:(Rw.iH l r).1.length<=100000
 es:r.kind=5->∀e∈(Rw.iH l r).1,0<=e.eT/\Fl.cnt (Fl.raw l e.from')=true/\e.from'<e.bu/\e.bu<=r.bu
 re:(Rw.iH l r).2<=r.bu/\(Rw.iH l r).2<=q.en
 skm:Pr.skip (Rw.eF l) q.row (Fl.gP l (Ps.limit l (r.from'+1)) depth 0 (r.from'+1) ⟨fU l.length,[]⟩).2.1<(Rw.eF l).length
 skb:∀d,Pr.skip (Rw.eF l) q.row (Fl.gP l q.en d 0 (Rw.iH l r).2 ⟨fU l.length,[]⟩).2.1<(Rw.eF l).length
theorem Run.asks{l:List Tk}{depth:Nat}{q:Pr.QS}{r:R}(ht:Rw.jO 0 l)(hS:Pr.Scn l)(hl:l.length<=32768)(h:Run l depth q)(hrow:(Rw.eF l)[q.row]?=some r):amh l depth q r:=by
 obtain⟨p,p1,p2,p3,p4,p5⟩:=h.with';obtain⟨g1,g2⟩:=p5 r hrow;have hmem:=gW hrow;have hro:=Ps.rows_ok l r hmem;have hlt:=hro.lt;have hle:=hro.le;have hlim:=Pr.Ko l (i:=r.from') dS;have hre:(Rw.iH l r).1.length<=100000/\(Rw.iH l r).2<=r.bu/\(Rw.iH l r).2<=q.en:=by
  by_cases h5:r.kind=5
  ·obtain⟨n1,n2,n3,n4⟩:=Ps.uY ht hro h5;have hb:=gH l r.bu (Ps.lo l r.from' r.bu);have:=Im _ _ n1
   have e1:Ps.limit l r.from'=Ps.limit l r.bu:=Pr.xO dS hle (λj a b=>by
    rcases mD r.from' j with g|g
    ·exact hS.mark r hmem j g b
    ·obtain rfl:j=r.from':=by omega
     have:=hS.first r hmem;refine⟨λh=>?_,λh=>?_⟩
     ·have:=this.2 (.inl h);omega
     ·have:=this.2 (.inr h);omega)
   have e2:=Pr.Ko l (i:=r.bu) hle;exact⟨dS,n4,by rw[g2,e1];omega⟩
  ·have e:Rw.iH l r=([],r.from'):=by unfold Rw.iH;rw[dW h5]
   rw[e];exact⟨fP _,l6,by dsimp only;rw[g2];exact hlim.1⟩
 refine⟨hlt,hle,hre.1,λh5 e he=>?_,hre.2,?_,λd=>?_⟩
 ·obtain⟨n1,n2,n3,n4⟩:=Ps.uY ht hro h5;have hb:=gH l r.bu (Ps.lo l r.from' r.bu);have hf:=Pr.Hu ht hro h5 e he;have hg:=Pr.zP _ _ n1 e he;have hto:=UU _ _ n1 e he;exact⟨hf.eT,hf.cnt,hg.2,dS⟩
 ·obtain⟨k1,k2⟩:=wY l (r.from'+1) dS;have hsz:=(Pr.uF l (Ps.limit l (r.from'+1)) depth (r.from'+1) l.length k1 k2 hl).2.2.1;obtain⟨j,r',s1,s2,s3,s4,s5⟩:=Pr.CW hrow (next:=(Fl.gP l (Ps.limit l (r.from'+1)) depth 0 (r.from'+1) ⟨fU l.length,[]⟩).2.1) dS;rw[s1];exact(eY.1 s3).1
 ·have hen:=h.ok.en;have hsz:=(Pr.uF l q.en d (Rw.iH l r).2 l.length hre.2.2 hen hl).2.2.1;obtain⟨j,r',s1,s2,s3,s4,s5⟩:=Pr.CW hrow (next:=(Fl.gP l q.en d 0 (Rw.iH l r).2 ⟨fU l.length,[]⟩).2.1) dS;rw[s1];exact(eY.1 s3).1
theorem Run.start{l:List Tk}{depth:Nat}(hl:l.length<=32768):Run l depth (Pr.start l):=by
 refine⟨⟨Ps.start l,rfl,rfl,⟨trivial,λh=>absurd rfl h⟩,Ps.oF _ hl,λr hr=>?_⟩,⟨⟨?_,λv hv=>by cases hv⟩,.inl rfl,fP _,(wY l 0 (fP _)).2⟩,Fe.N9.refl _,?_,fP _,⟨(Rw.eF l).length,eO _,rfl⟩,fP _⟩
 ·have h0:=(Pr.rws l).zero r hr;exact⟨by rw[h0];rfl,by rw[h0];rfl⟩
 ·show 0<(fU (l.length:Int)).length
  rw[show(fU (l.length:Int)).length=1 by unfold fU;rw[dW dS];rfl];omega
 ·show(fU (l.length:Int)).length<=_;rw[show(fU (l.length:Int)).length=1 by unfold fU;rw[dW dS];rfl];omega
theorem Run.step{l:List Tk}{depth:Nat}{q:Pr.QS}{r:R}(ht:Rw.jO 0 l)(hS:Pr.Scn l)(hl:l.length<=32768)(h:Run l depth q)(hrow:(Rw.eF l)[q.row]?=some r):
 q.row<=(Pr.step l (Rw.eF l) depth q r).row/\(Pr.step l (Rw.eF l) depth q r).row<(Rw.eF l).length/\Run l depth {Pr.step l (Rw.eF l) depth q r with row:=(Pr.step l (Rw.eF l) depth q r).row+1}:=by
 have hA:=h.asks ht hS hl hrow;obtain⟨p,p1,p2,p3,p4,p5⟩:=h.with';obtain⟨g1,g2⟩:=p5 r hrow;have hmem:=gW hrow;have hF:=Pr.Uw (depth:=depth) ht hS hl hrow p1 p2 p3 p4 g1 (fP _) g2;have hok:=Ps.Kn (depth:=depth) ht p4 (Ps.rows_ok l r hmem) (fP _) dS;obtain⟨k1,k2,k3⟩:=step_ok (rs:=Rw.eF l) h.ok hl (by have:=hA.lt;have:=hA.jC;omega) hA.el hA.re.2;have k9:=alb (depth:=depth) ht hl hrow h.ok hA.re.2;have h9:=h.nine;have hsz:=h.sz;have hdz:=h.dz;obtain⟨f,f1,f2⟩:=h.fin;obtain⟨hi,-⟩:=eY.1 hrow;obtain⟨P,hP⟩:=eu (Ps.row l (Rw.eF l) depth p r);rw[hP]at hF hok;have ae:∃f',f=f'+1:=⟨f-1,dS⟩
 obtain⟨f',rfl⟩:=ae;rw[Pr.Pm,hrow]at f2;dsimp only at f2;obtain⟨Q,hQ⟩:=eu (Pr.step l (Rw.eF l) depth q r);rw[hQ]at hF k1 k2 k3 k9 f2⊢;obtain⟨b1,r',b2,b3⟩:=hF.row;have aa:=(eY.1 b2).1;have hrr:r.bu<=r'.bu:=by
  by_cases e:Q.row=q.row
  ·rw[e,hrow]at b2;obtain rfl:=iG b2;exact eO _
  ·have:=Pr.yg (Pr.rws l) hrow b2 dS;have:=(Ps.rows_ok l r' (gW b2)).lt;omega
 have hlt:=hA.lt;have hnx:∀x,(Rw.eF l)[Q.row+1]?=some x->x.from'=r'.bu:=λx hx=>(Pr.rws l).next Q.row r' x b2 hx
 refine⟨b1,aa,⟨P,hF.st,hF.s,hF.wf,hok.1,λx hx=>?_⟩,⟨⟨k1.ok.pos,k1.ok.lv⟩,k1.bot,k1.len,k1.en⟩,?_,?_,?_,⟨f',?_,f2⟩,aa⟩
 ·have h4:=hnx x hx;exact⟨dS,by show Q.en=_;rw[<-hF.lim,<-b3,h4]⟩
 ·rw[Pr.oz b2]at k9;have af:=(Ps.rows_ok l r' (gW b2)).le;refine(h9.trans k9 (λj a b=>?_)).mono (λj hj=>⟨?_,λx hx=>?_⟩)
  ·have:=a.2 r hrow;omega
  ·rcases hj with hj|hj
   ·exact hj.1
   ·omega
  ·have h4:=hnx x hx;rcases hj with hj|hj
   ·have:=hj.2 r hrow;omega
   ·omega
 ·show Q.s.t.length<=1+big (Q.row+1);have h1:=Nw Q.row;have h2:=Ah b1;omega
 ·show Q.s.d.length<=big (Q.row+1);have h1:=Nw Q.row;have h2:=Ah b1;omega
 ·show _<=f'+(Q.row+1)
  omega
theorem Run.done{l:List Tk}{depth:Nat}{q:Pr.QS}(h:Run l depth q)(hq:(Rw.eF l).length<=q.row):q.s=Pr.read l depth:=by
 obtain⟨f,f1,f2⟩:=h.fin;have hn:(Rw.eF l)[q.row]?=none:=sZ hq;cases f with
 |zero=>exact f2
 |succ f=>rw[Pr.Pm,hn]at f2;exact f2
end
section
open Ar Fl
open Rw (R E)
open Fe (N9)
instance amN:DecidableEq Dg:=λa b=>decidable_of_iff (Ps.same a b=true) (Ps.same_iff a b)
theorem abC:∀(f p:Nat)(l:List Nat),(∀x∈Ps.lQ f p l,p<=x)/\(Ps.lQ f p l).Pairwise (·<·)
 |0,p,l=>⟨λx hx=>qU,.nil⟩
 |f+1,p,l=>by
  rw[Ps.lQ];by_cases hl:l=[]
  ·rw[dX hl];exact⟨λx hx=>qU,.nil⟩
  ·rw[dW hl];obtain⟨c,r,rfl⟩:=List.exists_cons_of_ne_nil hl;have hp:=Sc.CO c r;obtain⟨h1,h2⟩:=abC f (p+(Sc.yt (c::r)).2) ((c::r).drop (Sc.yt (c::r)).2);split
   ·refine⟨λx hx=>?_,?_⟩
    ·exact Zy
    ·rw[vI];exact⟨λy hy=>by have:=h1 y hy;omega,h2⟩
   ·exact⟨λx hx=>by have:=h1 x hx;omega,h2⟩
theorem Yt:∀(f p:Nat)(l:List UInt8),(∀x∈(Qo.Dk f p l).2.1,p<=x)/\(Qo.Dk f p l).2.1.Pairwise (·<·)
 |0,_,_=>⟨λx hx=>qU,.nil⟩
 |_+1,_,[]=>⟨λx hx=>qU,.nil⟩
 |f+1,p,c::r=>by
  rw[Qo.Dk];by_cases q:c=34
  ·rw[dX q];exact⟨λx hx=>qU,.nil⟩
  ·rw[dW q];obtain⟨h1,h2⟩:=Yt f (p+1) r;by_cases q2:c=92
   ·rw[dX q2];cases he:Es.esc (c::r)with
    |none=>
     dsimp only;refine⟨λx hx=>?_,?_⟩
     ·exact Zy
     ·rw[vI];exact⟨λy hy=>by have:=h1 y hy;omega,h2⟩
    |some y=>
     obtain⟨v,k⟩:=y;dsimp only;obtain⟨g1,g2⟩:=Yt f (p+k) ((c::r).drop k);exact⟨λx hx=>by have:=g1 x hx;omega,g2⟩
   ·rw[dW q2];exact⟨λx hx=>by have:=h1 x hx;omega,h2⟩
theorem UW(kind:Int)(l:List UInt8):(Qo.mI kind l).2.1.Pairwise (·<·):=by
 unfold Qo.mI;split
 ·exact .nil
 split
 ·exact .nil
 split
 ·exact .nil
 split
 ·exact(Yt _ _ _).2
 ·exact .nil
theorem Dc{l:List Tk}(ht:Rw.jO 0 l){i j:Nat}(hij:i<j)(hj:j<l.length):kW l i<kW l j:=by
 have hi:l[i]?=some l[i]:=fu dS;have hj':l[j]?=some l[j]:=fu hj;have h1:=(ht.le i _ hi).2;have h2:=ht.lt i j _ _ hij hi hj';unfold kW;rw[hi,hj'];dsimp only;omega
def Fst(a b:Dg):Prop:=a.f<b.f\/a.code<b.code
theorem E7{b:List Nat}{l:List Tk}{r:R}{x:Dg}(h:x∈Ps.tabs b l r):x.code=2/\∃j,r.from'<=j/\j<r.bu/\x.f=kW l j:=by
 unfold Ps.tabs at h;split at h
 ·obtain⟨i,hi,hx⟩:=ahP.1 h;rw[yH]at hi;have:=Ps.kF l r.from' r.bu;split at hx
  ·obtain rfl:=iG hx;refine⟨rfl,r.from'+i,dS,?_,rfl⟩;by_cases hlt:r.from'<=r.bu
   ·have:=Ps.lo_le l hlt;omega
   ·have:Ps.lo l r.from' r.bu=r.from':=by
     unfold Ps.lo;rw[show r.bu-r.from'=0 by omega];rfl
    omega
  ·cases hx
 ·cases h
theorem agu{b:List Nat}{l:List Tk}(ht:Rw.jO 0 l){r:R}(hr:r.bu<=l.length)(hlt:r.from'<r.bu):(Ps.tabs b l r).Pairwise Fst:=by
 unfold Ps.tabs;split
 ·refine List.Pairwise.filterMap _ (R:=fun(i j:Nat)=>i<j/\j<Ps.lo l r.from' r.bu-r.from') (λi j hij x hx y hy=>?_) ?_
  ·split at hx
   ·split at hy
    ·obtain rfl:=iG hx;obtain rfl:=iG hy;have:=Ps.lo_le l (pJ hlt);exact .inl (Dc ht dS dS)
    ·cases hy
   ·cases hx
  ·refine XJ (fun{a b} ha hb hab=>?_) (List.pairwise_lt_range (n:=Ps.lo l r.from' r.bu-r.from'));exact⟨hab,yH.1 hb⟩
 ·exact .nil
theorem agv{l:List Tk}:(Rw.eF l).Pairwise (λr r'=>r.bu<=r'.from'):=by
 rw[XQ];intro i j hi hj hij;exact Pr.yg (Pr.rws l) (fu hi) (fu hj) hij
theorem FT{b:List Nat}{x:Tk}{y:Dg}(hx:x.2.1<x.2.2)(h:y∈Ps.iF b x):(y.code=3\/y.code=4)/\x.2.1<=y.f/\y.f<x.2.2:=by
 unfold Ps.iF at h;split at h
 ·rcases kC.1 h with h|h
  ·split at h
   ·cases h
   ·obtain rfl:=tF.1 h;exact⟨.inl rfl,eO _,hx⟩
  ·obtain⟨k,hk,rfl⟩:=tC.1 h;have:=Ps.Ae _ _ k hk;unfold Ps.part at this;rw[jl,mX,ky]at this;exact⟨.inr rfl,l6,l6⟩
 ·cases h
theorem WJ{b:List Nat}{x:Tk}:(Ps.iF b x).Pairwise Fst:=by
 unfold Ps.iF;split
 ·dsimp only;rw[aex];refine⟨?_,?_,λa ha y hy=>?_⟩
  ·split
   ·exact .nil
   ·exact akk _ _
  ·rw[aey];exact(UW _ _).imp (λh=>.inl l6)
  ·split at ha
   ·cases ha
   ·obtain rfl:=tF.1 ha;obtain⟨k,hk,rfl⟩:=tC.1 hy;exact .inr l6
 ·exact .nil
theorem SQ{b:List Nat}(x:Tk)(y:Dg)(h:y∈Ps.iF b x):y.code=3\/y.code=4:=by
 unfold Ps.iF at h;split at h
 ·rcases kC.1 h with h|h
  ·split at h
   ·cases h
   ·obtain rfl:=tF.1 h;exact .inl rfl
  ·obtain⟨k,hk,rfl⟩:=tC.1 h;exact .inr rfl
 ·cases h
theorem ajQ{a b:Dg}(h:Fst a b)(hc:a.code<=b.code):a≠b:=by
 rintro rfl;unfold Fst at h;omega
theorem WK(b:List Nat):(Ps.jA b (Sc.tokens b)).Nodup:=by
 have ht:=Rw.iZ b;obtain⟨l,hl⟩:=eu (Sc.tokens b);rw[hl]at ht⊢;have h1:∀x∈(Ps.lQ b.length 0 b).map (λp=>(⟨1,p,p+1⟩:Dg)),x.code=1:=λx hx=>by
  obtain⟨p,_,rfl⟩:=tC.1 hx;rfl
 have h2:∀x∈(Rw.eF l).flatMap (Ps.tabs b l),x.code=2:=λx hx=>by
  obtain⟨r,_,hx⟩:=Ce.1 hx;exact(E7 hx).1
 have h3:∀x∈l.flatMap (Ps.iF b),x.code=3\/x.code=4:=λx hx=>by
  obtain⟨r,_,hx⟩:=Ce.1 hx;exact SQ r x hx
 unfold Ps.jA;unfold List.Nodup;rw[aex,aex];refine⟨⟨?_,?_,λx hx y hy e=>?_⟩,?_,λx hx y hy e=>?_⟩
 ·rw[aey];refine(abC _ _ _).2.imp (fun{x y} h e=>?_);have:=congrArg Dg.f e;dsimp only at this;omega
 ·refine XJ (R:=Fst) (fun{x y} hx hy h=>ajQ h (by rw[h2 x hx,h2 y hy];exact eO _)) ?_;rw[akj];refine⟨λr hr=>?_,?_⟩
  ·have:=Ps.rows_ok l r hr;exact agu ht this.le this.lt
  ·refine XJ (fun{r r'} hr hr' hle x hx y hy=>?_) (agv (l:=l));obtain⟨_,i,_,i2,i3⟩:=E7 hx;obtain⟨_,j,j1,j2,j3⟩:=E7 hy;have:=(Ps.rows_ok l r' hr').le;exact .inl (by rw[i3,j3];exact Dc ht dS dS)
 ·have:=h1 x hx;have:=h2 y hy;subst e;omega
 ·have key:(l.flatMap (Ps.iF b)).Pairwise (λx y=>Fst x y/\(x.f<y.f\/x.code<=y.code)):=by
   rw[akj];refine⟨λx hx=>?_,?_⟩
   ·exact(WJ (b:=b) (x:=x)).imp_of_mem (fun{y z} hy hz h=>⟨h,by rcases h with h|h;exact .inl h;exact .inr dS⟩)
   ·rw[XQ];intro i j hi hj hij x hx y hy;have gi:l[i]?=some l[i]:=fu hi;have gj:l[j]?=some l[j]:=fu hj;have k1:=(ht.le i _ gi).2;have k2:=(ht.le j _ gj).2;have k3:=ht.lt i j _ _ hij gi gj;have m1:=(FT k1 hx).2;have m2:=(FT k2 hy).2;exact⟨.inl dS,.inl dS⟩
  refine key.imp (fun{x y} h e=>?_);subst e;rcases h.1 with h|h<;>omega
 ·rcases kC.1 hx with hx|hx
  ·have:=h1 x hx;have:=h3 y hy;subst e;omega
  ·have:=h2 x hx;have:=h3 y hy;subst e;omega
theorem WL(b:List Nat)(depth:Nat)(hb:b.length<=16384)(g:Nat×Nat):(Ps.read (Sc.tokens b) depth).d.countP (Ps.over g)<=1:=by
 have ht:=Rw.iZ b;have hl:=mq b;obtain⟨h1,h2,h3,h4⟩:=Ps.xN (Sc.tokens b) depth ht dS;have hcode:∀x∈(Ps.read (Sc.tokens b) depth).d,5<=x.code/\x.code<=10:=λx hx=>Qg
 have aa:Fe.errs (Sc.tokens b) (Ps.read (Sc.tokens b) depth).t g=(Ps.read (Sc.tokens b) depth).d.countP (Ps.over g):=by
  rw[<-Ps.Ig (Ps.read (Sc.tokens b) depth).d hcode g];exact h3 g
 rw[<-aa];rcases rP (Fe.errs (Sc.tokens b) (Ps.read (Sc.tokens b) depth).t g)with h|h
 ·omega
 ·have h':0<Fe.errs (Sc.tokens b) (Ps.read (Sc.tokens b) depth).t g:=h
  unfold Fe.errs at h';rw[Va]at h';obtain⟨x,hx,hp⟩:=h';obtain⟨i,hi⟩:=jy hx;rw[rO,rO,uJ,uJ,uJ]at hp;have:=Ps.EX ht h1 h2 hi hp.1;rw[show g=(kW (Sc.tokens b) x.f.toNat,too (Sc.tokens b) (x.t-1).toNat)by rw[hp.2.1,hp.2.2]];exact ahT this
theorem adn(b:List Nat)(depth:Nat)(hb:b.length<=16384)(h9:N9 (Sc.tokens b) (λj=>j<(Sc.tokens b).length) [] (Ps.read (Sc.tokens b) depth).d):
 ((Ps.read (Sc.tokens b) depth).d++Ps.jA b (Sc.tokens b)).Nodup:=by
 have ht:=Rw.iZ b;have hl:=mq b;obtain⟨h1,h2,h3,h4⟩:=Ps.xN (Sc.tokens b) depth ht dS;have hcode:∀x∈(Ps.read (Sc.tokens b) depth).d,5<=x.code/\x.code<=10:=λx hx=>Qg
 have hov:=WL b depth hb;obtain⟨l,hll⟩:=eu (Sc.tokens b);obtain⟨D,hD⟩:=eu ((Ps.read (Sc.tokens b) depth).d);have hto:=WK b;have hti:=Ps.zQ b;rw[hll]at ht hto hti h9 hD hcode hov⊢;rw[hD]at h9 hcode hov⊢;rw[List.nodup_append];refine⟨?_,hto,λx hx y hy e=>?_⟩
 ·rw[aki];intro x;by_cases hc:x.code=9
  ·obtain⟨ds,js,e1,e2,e3,e4⟩:=h9;rw[XP]at e1;subst e1;have e5:D.count x=(D.filter (λy=>y.code==9)).count x:=by
    rw[List.count_filter (by simpa using hc)]
   rw[e5,e2];have hnd:(js.map (Fe.nine l)).Nodup:=by
    unfold List.Nodup;rw[aey];refine XJ (fun{i j} hi hj hij e=>?_) e3;have hf:=congrArg Dg.f e;have hf:kW l i=kW l j:=hf;rcases Nat.lt_or_gt_of_ne hij with h|h
    ·have:=Dc ht h (e4 j hj);omega
    ·have:=Dc ht h (e4 i hi);omega
   exact aki.1 hnd x
  ·by_cases hm:x∈D
   ·have hcx:=hcode x hm;have hb:Ps.iX x=true:=by
     unfold Ps.iX;simp;omega
    refine iU ?_ (hov (x.f,x.t));unfold List.count;refine List.countP_mono_left (λy hy he=>?_);have he:y=x:=by simpa using he
    subst he;unfold Ps.over;rw[hb];simp
   ·rw[List.count_eq_zero_of_not_mem hm];omega
 ·have:=hcode x hx;have:=(hti y hy).2.2;subst e;omega
theorem WM{d s:List Dg}(hp:s.Perm d)(ho:s.Pairwise (λa b=>Ps.less b a=false))(hd:d.Nodup):s=Ps.qP d:=by
 refine Ps.Re ?_ (Ps.wU d) (λy=>by rw[Ps.ry];exact hp.mem_iff);have hn:s.Nodup:=hp.nodup_iff.2 hd;unfold Ps.By;unfold List.Nodup at hn
 exact(ho.and hn).imp (λh=>by
  have h1:=Ps.MK h.1 (λe=>h.2 e.symm)
  exact h1)
end
end Go.Proofs.YtmkkdjpebbdikaaGreatDoor

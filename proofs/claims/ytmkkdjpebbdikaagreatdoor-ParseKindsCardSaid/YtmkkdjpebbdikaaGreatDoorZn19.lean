import Derived.Test.YtmkkdjpebbdikaaGreatDoorZn15
import Derived.Test.YtmkkdjpebbdikaaGreatDoorZn16
import Derived.Test.YtmkkdjpebbdikaaGreatDoorZn17
set_option linter.all false
set_option maxHeartbeats 16000000
set_option maxRecDepth 100000
namespace Go.Proofs.YtmkkdjpebbdikaaGreatDoor
open Go.RowKit Go.Proofs.Tryz
namespace Pr
open Ar Fl
open Rw (R E)
open Ps (lo)
structure nZ(q:QS):Prop where
 pos:0<q.s.t.length
 lv:∀v∈q.st,v.node<q.s.t.length/\v.cur<q.s.t.length
theorem Ef{v:Lv}{n:Nat}(h:v.node<n/\v.cur<n):free v<n:=by unfold free;split<;>omega
theorem nZ.free{q:QS}(h:nZ q):mq q.st<q.s.t.length:=by
 cases hs:q.st with
 |nil=>exact h.pos
 |cons v r=>exact Ef (h.lv v (by rw[hs];simp))
theorem pR(l:List Tk)(s:St)(up code a b:Nat):s.t.length<=(fault l s up code a b).t.length/\(fault l s up code a b).t.length<=s.t.length+1/\(fault l s up code a b).d.length<=s.d.length+1:=by
 unfold fault;dsimp only;split
 ·refine⟨?_,?_,?_⟩
  ·show _<=(add _ _ _ _ _).length;rw[kZ];omega
  ·show(add _ _ _ _ _).length<=_;rw[kZ];omega
  show(s.d++[_]).length<=_;simp
 omega
theorem nZ.more{q:QS}(h:nZ q){s:St}(hs:q.s.t.length<=s.t.length):nZ {q with s:=s}:=
 ⟨wC h.pos hs,λv hv=>by have:=h.lv v hv;exact⟨by show v.node<s.t.length;omega,by show v.cur<s.t.length;omega⟩⟩
theorem lZ{q:QS}(h:nZ q)(i:Nat):nZ (fM q i)/\q.s.t.length<=(fM q i).s.t.length/\(fM q i).s.t.length<=q.s.t.length+1/\(fM q i).s.d=q.s.d/\∃v r,(fM q i).st=v::r:=by
 unfold fM;cases hs:q.st with
 |nil=>
  dsimp only;refine⟨⟨by rw[kZ];omega,λv hv=>?_⟩,by rw[kZ];omega,by rw[kZ];omega,rfl,_,_,rfl⟩;obtain rfl:=vF.1 hv;dsimp only;rw[kZ];omega
 |cons v r=>exact⟨h,fB _,(by show q.s.t.length<=q.s.t.length+1;omega),rfl,v,r,hs⟩
theorem G4(q:QS)(i:Nat):(fM q i).st.length<=q.st.length+1:=by
 unfold fM;cases hs:q.st with
 |nil=>dsimp only;simp
 |cons v r=>show q.st.length<=_;rw[hs];omega
theorem Gb(l:List Tk)(s:St)(h:Lv)(e:E):s.t.length+1<=(enter l s h e).1.t.length/\(enter l s h e).1.t.length<=s.t.length+2/\(enter l s h e).1.d=s.d/\(enter l s h e).2.node=h.node/\(enter l s h e).2.cur=s.t.length:=by
 have hk:∀(t:List Nd)(i:Nat),(keyed t (i:Int)).length=t.length:=λt i=>by
  unfold keyed;split
  ·rfl
  rw[lT]
 unfold enter;split
 ·refine⟨?_,?_,rfl,rfl,rfl⟩<;>(show _;dsimp only;rw[kZ];omega)
 split
 ·refine⟨?_,?_,rfl,rfl,rfl⟩<;>(dsimp only;rw[kZ];omega)
 refine⟨?_,?_,rfl,rfl,rfl⟩<;>(dsimp only;rw[kZ,hk,kZ];omega)
theorem Gc(depth n:Nat)(e:E):∀st:List Lv,∀v∈(mX depth n e st).2,v∈st
 |[],v,hv=>by cases hv
 |h::r,v,hv=>by
  rw[mX]at hv;split at hv
  ·exact hv
  split at hv
  ·exact Rt _ (Gc depth n e r v hv)
  split at hv
  ·cases hv
  split at hv
  ·cases hv
  split at hv
  ·cases hv
  split at hv<;>cases hv
theorem pO{q:QS}(h:nZ q)(l:List Tk)(depth:Nat)(e:E):nZ (place l depth q e).2/\q.s.t.length<=(place l depth q e).2.s.t.length/\(place l depth q e).2.s.t.length<=q.s.t.length+3/\(place l depth q e).2.s.d=q.s.d/\(place l depth q e).2.row=q.row/\(place l depth q e).2.en=q.en:=by
 unfold place;obtain⟨k,hk⟩:=fq (mX depth q.st.length e q.st);have hsub:=Gc depth q.st.length e q.st;rw[hk]at hsub⊢;have stay:nZ q/\q.s.t.length<=q.s.t.length/\q.s.t.length<=q.s.t.length+3/\q.s.d=q.s.d/\q.row=q.row/\q.en=q.en:=⟨h,fB _,by omega,rfl,rfl,rfl⟩
 obtain⟨code,st⟩:=k
 match code,st with
 |0,[]=>exact stay
 |0,v::r=>
  show nZ (again l q e v r)/\_;obtain⟨e1,e2,e3,e4,e5⟩:=Gb l q.s v e;refine⟨⟨by show 0<(enter l q.s v e).1.t.length;omega,λx hx=>?_⟩,by show _<=(enter l q.s v e).1.t.length;omega,by show(enter l q.s v e).1.t.length<=_;omega,e3,rfl,rfl⟩;show x.node<(enter l q.s v e).1.t.length/\x.cur<(enter l q.s v e).1.t.length
  rcases l5.1 hx with rfl|hx
  ·have:=h.lv v (hsub v (by simp));omega
  have:=h.lv x (hsub x (by simp[hx]));omega
 |1,st=>
  show nZ (match q.st with|h::r=>(0,fresh l q e h r)|[]=>(0,q)).2/\_;cases hs:q.st with
  |nil=>
   have:act l q e (1,st)=(0,q):=by
    show(match q.st with|h::r=>(0,fresh l q e h r)|[]=>(0,q))=_;rw[hs]
   rw[this];exact stay
  |cons v r=>
   have:act l q e (1,st)=(0,fresh l q e v r):=by
    show(match q.st with|h::r=>(0,fresh l q e h r)|[]=>(0,q))=_;rw[hs]
   rw[this];obtain⟨e1,e2,e3,e4,e5⟩:=Gb l ⟨add q.s.t v.cur (Ps.kindOf e) e.from' e.bu,q.s.d⟩ ⟨Ps.kindOf e,q.s.t.length,e.fG,0,false⟩ e;dsimp only at e1 e2 e3 e4 e5;rw[kZ]at e1 e2 e5;unfold fresh;dsimp only;refine⟨⟨by dsimp only;omega,λx hx=>?_⟩,by omega,by omega,e3,rfl,rfl⟩;dsimp only at hx⊢;rcases l5.1 hx with rfl|hx
   ·omega
   rcases l5.1 hx with rfl|hx
   ·have:=h.lv v (by rw[hs];simp);dsimp only;omega
   have:=h.lv x (by rw[hs];simp[hx]);omega
 |code+2,st=>exact stay
theorem rA(l:List Tk)(en d i n:Nat)(hi:i<=en)(he:en<=n)(hn:n<=32768):(jd l en d 0 i ⟨gV n,[]⟩).2.2.t.length<=1+2*n/\(jd l en d 0 i ⟨gV n,[]⟩).2.2.d.length<=n/\(jd l en d 0 i ⟨gV n,[]⟩).2.1<=en/\
 ((jd l en d 0 i ⟨gV n,[]⟩).1=-1\/((jd l en d 0 i ⟨gV n,[]⟩).1=1/\1<(jd l en d 0 i ⟨gV n,[]⟩).2.2.t.length)):=by
 obtain⟨hck,hf⟩:=rz n i hn;have h0:=ug (l:=l) (n:=(n:Int)) (by omega) d i _ hck hf (by omega) hi;have hp:=tO (l:=l) (e:=en) d (-1) i ⟨[],[]⟩ hi (by omega) (by show(-1:Int)<0;decide);rw[show(0:Int)=((0:Nat):Int)from rfl];rcases h0 with⟨b1,b2⟩|⟨next,s',ps',b1,b2,b3,b4,b5,b6,b7,b8,b9,b10,_⟩
 ·rw[b1];exact⟨by show(gV (n:Int)).length<=_;show 1<=_;omega,ic _,hi,.inl rfl⟩
 rw[b1];rw[b2]at hp;have hl:(gV (n:Int)).length=1:=rfl;rw[hl]at b9 b10;refine⟨by dsimp only;omega,?_,b4,.inr ⟨rfl,by dsimp only;omega⟩⟩;dsimp only;rw[b6];rcases hp with⟨e1,_⟩|⟨nx,s1,e1,_,e3,_,g,_⟩
 ·have:=congrArg Prod.fst e1;dsimp only at this;omega
 obtain⟨rfl,rfl⟩:=EP e1;have:=g.dl;have h0:([]:List Dg).length=0:=rfl;dsimp only at this;omega
theorem CQ(t:List Nd)(up:Nat)(q:List Nd):(pY t up q).length=t.length+q.length:=by
 cases q with
 |nil=>rfl
 |cons v r=>unfold pY;rw[iJ,lY,jC]
theorem lX{q:QS}(h:nZ q)(l:List Tk)(rs:List R)(depth i:Nat)(hi:i<=q.en)(he:q.en<=l.length)(hl:l.length<=32768):nZ (value l rs depth q i)/\(value l rs depth q i).s.t.length<=q.s.t.length+70000/\(value l rs depth q i).s.d.length<=q.s.d.length+70000/\(value l rs depth q i).en=q.en:=by
 unfold value;cases hs:q.st with
 |nil=>exact⟨h,(by show q.s.t.length<=_;omega),(by show q.s.d.length<=_;omega),rfl⟩
 |cons v r=>
  dsimp only;obtain⟨v1,v2,v3,v4⟩:=rA l q.en (depth-r.length) i l.length hi he hl;obtain⟨V,hV⟩:=fq (jd l q.en (depth-r.length) 0 i ⟨gV l.length,[]⟩);rw[hV]at v1 v2 v3 v4⊢;obtain⟨g,hg⟩:=fq ((if V.1=-1 then q.s.t else pY q.s.t v.cur (V.2.2.t.drop V.1.toNat)));have hg1:q.s.t.length<=g.length/\g.length<=q.s.t.length+65537:=by
   rw[<-hg];split
   ·omega
   rw[CQ,iT];omega
  rw[hg];obtain⟨f1,f2,f3⟩:=pR l ⟨g,q.s.d++V.2.2.d⟩ v.cur 8 V.2.1 (rH rs (skip rs q.row V.2.1));dsimp only at f1 f2 f3;rw[iJ]at f3;refine⟨⟨by dsimp only;have:=h.pos;omega,λx hx=>?_⟩,by omega,by omega,rfl⟩;dsimp only at hx⊢;rcases l5.1 hx with rfl|hx
  ·have:=h.lv v (by rw[hs];simp);dsimp only;omega
  have:=h.lv x (by rw[hs];simp[hx]);omega
end Pr
section
open Go.RowKit
open Sq
open Ar
structure Sz(l:List Tk)(s:Fl.fV)(p d:Nat):Prop where
 q:s.q.length+2*(l.length-p)+d<=400000
 d:s.d.length+(l.length-p)<=400000
 kb:Fl.KB s.q
theorem Sz.room{l:List Tk}{s:Fl.fV}{p d:Nat}(h:Sz l s p d):Room s:=⟨by have:=h.q;omega,by have:=h.d;omega,h.kb⟩
theorem Sz.gr{l:List Tk}{s s':Fl.fV}{p next d:Nat}(h:Sz l s p d)(g:Fl.Gr s s' (next-p))(h1:p<=next)(h2:next<=l.length):Sz l s' next d:=
 ⟨by have:=h.q;have:=g.len;omega,by have:=h.d;have:=g.dl;omega,g.kids h.kb⟩
theorem Sz.on{l:List Tk}{s:Fl.fV}{p q d d':Nat}(h:Sz l s p d)(h1:p<=q)(hd:d'<=d):Sz l s q d':=⟨by have:=h.q;omega,by have:=h.d;omega,h.kb⟩
def KV(w0:World)(rb:Nat)(tv:Value)(l:List Tk)(d:Nat):Prop:=
 ∀(w:World)(c:Int)(p:Nat)(s:Fl.fV)(R:Nat->Prop),RS w0 w rb tv l s R->-1<=c->c<s.q.length->p<=l.length->Sz l s p d->
  Calls prog 131 #[RP rb,.int .i64 c,.int .i64 p,.int .i64 d] w (Goes w0 w rb tv l R (.int .i64 (Fl.iC l l.length d c p s).1) (Fl.iC l l.length d c p s).2)
section
variable {w0 w w':World}{rb:Nat}{tv:Value}{l:List Tk}{s:Fl.fV}{R:Nat->Prop}
theorem RS.node(h:RS w0 w rb tv l s R){i:Nat}{x:Nd}(hx:s.q[i]?=some x):
 ∃g cap,w.cell? ⟨rb,1,none⟩=some (.slice (some ⟨g,0,none⟩) s.q.length cap)/\(∀o,w.frozen? ⟨g,o,none⟩=false)/\w.cell? ⟨g,i*6,none⟩=some (.int .i64 x.k)/\w.cell? ⟨g,i*6+5,none⟩=some (.bool x.y)/\
  ∃R',RS w0 (w.setCell ⟨g,i*6+5,none⟩ (.bool true)) rb tv l ⟨Fl.keyed s.q i,s.d⟩ R'/\FP w (w.setCell ⟨g,i*6+5,none⟩ (.bool true)) rb R R':=by
 obtain⟨nv,dv,L,hM,hL,rfl⟩:=h;have hi:=(gD.1 hx).1;have hLn:L.length=s.q.length:=by rw[<-hL,jD]
 obtain⟨p,hp⟩:=jB L i (by omega);have hpx:p.nd=x:=by
  have:s.q[i]?=some p.nd:=by rw[<-hL,lS,hp];rfl
  rw[hx]at this;exact(jl this).symm
 obtain⟨g,cap,rfl,hB,hfz,hc1,hc2⟩:=jM hM.nodes.row (by omega);obtain⟨hS2,hF⟩:=hM.setNode i 5 p {p.nd with y:=true} (.bool true) hp rfl rfl (by decide);have ce:∀k,k<6->w.cell? ⟨g,i*6+k,none⟩=(lN p)[k]?:=λk hk=>by
  have h0:=iO gP L i p hp k hk;cases hv:(lN p)[k]? with
  |none=>have:(lN p).length=6:=rfl;rw[wm]at hv;omega
  |some u=>
   have:=hM.nodes.row.cells (g:=g) rfl _ _ (h0.trans hv);rw[gQ,kU]at this;exact this
 refine⟨g,cap,by rw[<-hLn];exact hM.cells.2.1,hfz,by have:=ce 0 (by decide);rw[qI]at this;rw[this,<-hpx];rfl,by rw[ce 5 (by decide),<-hpx];rfl,_,⟨_,_,_,hS2,?_,rfl⟩,hF⟩;unfold Fl.keyed;rw[jk,hx,<-hL,EO,<-hpx]
end
theorem Me{l:List Tk}{j q:Nat}(h:j<q)(h6:Fl.raw l (q-1)≠13):uG l j (q-j)=uG l j (q-1-j):=by
 by_cases hy:∃k,k<q-1-j/\Fl.raw l (j+k)=13
 ·obtain⟨k,hk,hr⟩:=hy;rw[xg (show k<q-j by omega) hr,xg hk hr]
 rw[zk (λk hk hr=>?_),zk (λk hk hr=>hy ⟨k,hk,hr⟩)];by_cases e:j+k=q-1
 ·rw[e]at hr;exact h6 hr
 exact hy ⟨k,by omega,hr⟩
theorem Ya(w0 w:World)(rb:Nat)(tv:Value)(l:List Tk)(d:Nat)(s:Fl.fV)(R:Nat->Prop)(hV:KV w0 rb tv l d)(c j q:Nat)(hS:RS w0 w rb tv l s R)(hc:c<s.q.length)(hz:Sz l s j d)(hjq:j<q)(aB:q<=l.length)(h6:Fl.raw l (q-1)=6)(hcj:Fl.cnt (Fl.raw l j)=true):
 Calls prog 182 #[RP rb,.int .i64 c,.int .i64 j,.int .i64 (q-1:Nat),.int .i64 d] w
  (λe w'=>∃jr,jr=(if(Fl.iC l l.length d s.q.length (Fl.fZ l l.length q) (Fl.l8 l s c j q)).1=Fl.fZ l l.length q then q else(Fl.iC l l.length d s.q.length (Fl.fZ l l.length q) (Fl.l8 l s c j q)).1)/\
   Goes w0 w rb tv l R (.int .i64 jr) ⟨Fl.mV (Fl.iC l l.length d s.q.length (Fl.fZ l l.length q) (Fl.l8 l s c j q)).2.q s.q.length jr,(Fl.iC l l.length d s.q.length (Fl.fZ l l.length q) (Fl.l8 l s c j q)).2.d⟩ e w'):=by
 obtain⟨a1,a2,a3,a4,a5⟩:=Fl.JI (l:=l) s c j q hc;have aU:Fl.Gr s (Fl.l8 l s c j q) (q-j):=⟨by omega,by split at a2<;>omega,by rw[a3];omega,a4,a5⟩
 have ht:=Fl.iY (l:=l) (e:=l.length) (i:=q) aB;have hz2:=(hz.gr aU (by omega) aB).on ht.1 (fB _);have hpv:=Fl.tO (l:=l) (e:=l.length) d s.q.length (Fl.fZ l l.length q) (Fl.l8 l s c j q) ht.2 (by omega) (by omega);have aV:=hS.rt.idle q aB;have aC:Fl.l8 l s c j q=if q-j<2 then⟨Fl.iB s.q c 6 j,s.d⟩else⟨Fl.jm (Fl.keyed (Fl.iB s.q c 6 j) s.q.length) s.q.length (uG l j (q-j)) j (Fl.back l (q-1) (j+1)),s.d⟩:=rfl
 obtain⟨pp,aM⟩:=fq (Fl.l8 l s c j q);rw[aM]at a1 hz2 hpv aC⊢;obtain⟨xx,aR⟩:=fq (Fl.fZ l l.length q);rw[aR]at ht hz2 hpv aV⊢;obtain⟨r,hr⟩:=fq (Fl.iC l l.length d s.q.length xx pp);rw[hr]at hpv⊢;have hrb:r.2.q.length<=400000/\s.q.length<r.2.q.length/\r.1<=100000:=by
  have:=hz2.q;have:=hS.rt.size;rcases hpv with⟨e1,_⟩|⟨nx,s',e1,g1,g2,g3,g4,g5,_⟩
  ·rw[e1];dsimp only;omega
  rw[e1];dsimp only;have:=g4.le;omega
 have aj:=eZ (λw1 R1 (h:RS w0 w1 rb tv l pp R1)=>by have:=hV w1 s.q.length xx pp R1 h (by omega) (by omega) ht.2 hz2;rw[hr]at this;exact this);have af:=eZ (λw1 R1 (jr:Nat)(h:RS w0 w1 rb tv l r.2 R1)=>zS w0 w1 rb tv l r.2 R1 s.q.length jr h hrb.2.1 (by omega));have HAdd:=eZ (Sj w0 w rb tv l s R c 6 j hS (by omega) (by omega) (by have:=hz.q;omega) hz.room.kids);have az:=eZ (λw1 (h:RT w1 rb tv l)=>by have:=h.idle q aB;rw[aR]at this;exact this);have hsz:=hS.rt.size;have hxs:(q:Int)<=100000:=by omega
 have hq0:0<q:=by omega
 have aA:Room ⟨Fl.keyed (Fl.iB s.q c 6 j) s.q.length,s.d⟩:=⟨by show(Fl.keyed _ _).length<=_;rw[Fl.gL,Fl.iL];have:=hz.q;omega,by have:=hz.d;show s.d.length<=_;omega,Fl.Du (Fl.xU hz.kb c 6 j (by omega)) s.q.length⟩
 have aD:=eZ (λw1 R1 (h:RS w0 w1 rb tv l ⟨Fl.keyed (Fl.iB s.q c 6 j) s.q.length,s.d⟩ R1)=>Nu w0 w1 rb tv l ⟨Fl.keyed (Fl.iB s.q c 6 j) s.q.length,s.d⟩ R1 s.q.length (uG l j (q-j)) j (Fl.back l (q-1) (j+1)) h (by omega) (by show(s.q.length:Int)<((Fl.keyed _ _).length:Int);rw[Fl.gL,Fl.iL];omega) aA);have ah:=eZ (λw1 R1 (h:RS w0 w1 rb tv l ⟨Fl.iB s.q c 6 j,s.d⟩ R1)=>h.node (i:=s.q.length) (Fl.my s.q c 6 j (by omega)));have HKK:=eZ (λw1 (h:RT w1 rb tv l)=>by have:=Qj rb tv l j (q-1) w1 h (by omega) (by omega);rw[<-Me hjq (by rw[h6];decide)]at this;exact this);have aI:=eZ (λw1 (h:RT w1 rb tv l)(h2:j<q-1)=>h.counted (q-1) (j+1) (by omega) (by omega) (by omega) ⟨j+1,by omega,by omega,by rw[jH];exact hcj⟩);have hpl:(Fl.iB s.q c 6 j).length=s.q.length+1:=Fl.iL _ _ _ _;rw[show(⟨Fl.iB s.q c 6 j,s.d⟩:Fl.fV).q=Fl.iB s.q c 6 j from rfl,hpl]at ah;obtain⟨n,hn⟩:=fq (s.q.length);have hns:n<=400000:=by have:=hz.q;omega
 rw[hn]at aj af HAdd aD ah aC hrb⊢;obtain⟨qr,rfl⟩:∃qr,q=qr+1:=⟨q-1,by omega⟩
 rw[jH]at HKK aI aD aC⊢;have HQ:=eZ (fun(jr:Nat) w1 w2 R1 R2 (h0:jr=if r.1=xx then qr+1 else r.1)(h1:FP w w1 rb R R1)(h2:RS w0 w2 rb tv l ⟨Fl.mV r.2.q n jr,r.2.d⟩ R2)(h3:FP w1 w2 rb R1 R2)=>show(λe w'=>∃jr,jr=(if r.1=xx then qr+1 else r.1)/\Goes w0 w rb tv l R (.int .i64 jr) ⟨Fl.mV r.2.q n jr,r.2.d⟩ e w') (.returned (.int .i64 jr)) w2 from⟨jr,h0,rfl,R2,h2,h1.trans h3⟩);obtain⟨Q,hQ⟩:=fq ((λe w'=>∃jr,jr=(if r.1=xx then qr+1 else r.1)/\Goes w0 w rb tv l R (.int .i64 jr) ⟨Fl.mV r.2.q n jr,r.2.d⟩ e w'));rw[hQ]at HQ⊢;have aJ:=eZ aC;have hr1:=hrb.2.2;obtain⟨r1,aN⟩:=fq (r.1);rw[aN]at aj HQ hr1;have bg:xx<=100000:=by omega
 have bn:(qr:Int)+1<=100000:=by omega
 clear hV hS hc hz aB h6 hcj a1 a2 a3 a4 a5 aU ht hz2 hpv aV aM aR hr aA hQ hn aC hrb hpl aN hq0 hsz hxs
 go_enter func182,ntmps182
 go_wp2_with fail
 refine HAdd.out.mono ?_;rintro e w1 ⟨rfl,R1,hS1,hF1⟩;obtain⟨aK,aL⟩:=fT hF1 hS1;clear hF1 hS1 HAdd;by_cases g2:qr+1-j<2
 ·have hpe:=aJ.out;rw[eY g2]at hpe;obtain rfl:qr=j:=by omega
  have ax:=eZ (show RS w0 w1 rb tv l pp R1 by rw[hpe];exact aL.out);have aF:=aK;clear aJ hpe aL aK aD ah HKK aI g2 hjq;go_wp2_with fail
  refine(az.out w1 ax.out.rt).mono ?_;rintro e wi ⟨rfl,rfl⟩;have ai:=eZ (aj.out w1 R1 ax.out);clear aj az ax;go_wp2_with fail
  refine ai.out.mono ?_;rintro e wv ⟨rfl,Rv,aG,aH⟩;obtain⟨ak,av⟩:=fT (aF.out.trans aH) aG;clear aG aH ai aF;by_cases gx:r1=xx
  ·subst gx;have HR2:=eZ (af.out wv Rv (qr+1) av.out);rw[show((qr+1:Nat):Int)=(qr:Int)+1 from by omega]at HR2;have ag:=eZ (λw2 R2 h2 h3=>HQ.out (qr+1) wv w2 Rv R2 (by rw[eY rfl]) ak.out h2 h3);rw[show((qr+1:Nat):Int)=(qr:Int)+1 from by omega]at ag;clear af HQ av ak;go_wp2_with fail
   refine HR2.out.mono ?_;rintro e w2 ⟨rfl,ay,aa,ae⟩;have HD:=eZ (ag.out w2 ay aa ae);clear aa ae HR2 ag;go_wp2_with fail
   exact HD.out
  have bf:((r1:Int)==(xx:Int))=false:=by simp;omega
  have HR2:=eZ (af.out wv Rv r1 av.out);have ag:=eZ (λw2 R2 h2 h3=>HQ.out r1 wv w2 Rv R2 (by rw[eX gx]) ak.out h2 h3);clear af HQ av ak;go_wp2_with fail
  refine HR2.out.mono ?_;rintro e w2 ⟨rfl,ay,aa,ae⟩;have HD:=eZ (ag.out w2 ay aa ae);clear aa ae HR2 ag;go_wp2_with fail
  exact HD.out
 have bq:(j:Int)<(qr:Int):=by omega
 have aW:j<qr:=by omega
 have hpe:=aJ.out;rw[eX g2]at hpe;obtain⟨g,cap,c1,hfz,-,c5,R2,hS2,hF2⟩:=ah.out w1 R1 aL.out;have f5:=hfz (n*6+5);have hnn:(n:Int)<(n:Int)+1:=by omega
 obtain⟨HS2,aS⟩:=fT hS2 (aK.out.trans hF2);obtain⟨w2,hw2⟩:=fq (w1.setCell ⟨g,n*6+5,none⟩ (.bool true));rw[hw2]at HS2 aS;obtain⟨aO,HW2⟩:=fT (HKK.out w2 HS2.out.rt) hw2;clear ah aL aK hfz hS2 hF2 hw2 aJ HKK;go_upto_region 4 with fail
 rw[HW2.out];clear HW2 c1 c5 f5;go_wp2_with fail
 refine aO.out.mono ?_;rintro e w3 ⟨rfl,hb3⟩;have aT:=HS2.out.below hb3;have aP:=eZ (aI.out w3 aT.rt aW);have aX:=eZ (aS.out.trans (FP.below hb3));have aQ:=eZ (aD.out w3 R2 aT);clear hb3 aT HS2 aS aI aD aO;go_wp2_with fail
 refine aP.out.mono ?_;rintro e bz ⟨rfl,rfl⟩;go_wp2_with fail
 refine aQ.out.mono ?_;rintro e w4 ⟨rfl,R4,aY,aZ⟩;have ax:=eZ (show RS w0 w4 rb tv l pp R4 by rw[hpe];exact aY);have aF:=eZ (aX.out.trans aZ);clear aY aZ aP aQ aX hpe;go_wp2_with fail
 refine(az.out w4 ax.out.rt).mono ?_;rintro e wi ⟨rfl,rfl⟩;have ai:=eZ (aj.out w4 R4 ax.out);clear aj az ax;go_wp2_with fail
 refine ai.out.mono ?_;rintro e wv ⟨rfl,Rv,aG,aH⟩;obtain⟨ak,av⟩:=fT (aF.out.trans aH) aG;clear aG aH ai aF;by_cases gx:r1=xx
 ·subst gx;have HR2:=eZ (af.out wv Rv (qr+1) av.out);rw[show((qr+1:Nat):Int)=(qr:Int)+1 from by omega]at HR2;have ag:=eZ (λw2 R2 h2 h3=>HQ.out (qr+1) wv w2 Rv R2 (by rw[eY rfl]) ak.out h2 h3);rw[show((qr+1:Nat):Int)=(qr:Int)+1 from by omega]at ag;clear af HQ av ak;go_wp2_with fail
  refine HR2.out.mono ?_;rintro e w2 ⟨rfl,ay,aa,ae⟩;have HD:=eZ (ag.out w2 ay aa ae);clear aa ae HR2 ag;go_wp2_with fail
  exact HD.out
 have bf:((r1:Int)==(xx:Int))=false:=by simp;omega
 have HR2:=eZ (af.out wv Rv r1 av.out);have ag:=eZ (λw2 R2 h2 h3=>HQ.out r1 wv w2 Rv R2 (by rw[eX gx]) ak.out h2 h3);clear af HQ av ak;go_wp2_with fail
 refine HR2.out.mono ?_;rintro e w2 ⟨rfl,ay,aa,ae⟩;have HD:=eZ (ag.out w2 ay aa ae);clear aa ae HR2 ag;go_wp2_with fail
 exact HD.out
theorem WK(w0 w:World)(rb:Nat)(tv:Value)(l:List Tk)(d:Nat)(s:Fl.fV)(R:Nat->Prop)(hV:KV w0 rb tv l d)(hT:nO l)(c j:Nat)(x:Nd)(hS:RS w0 w rb tv l s R)(hx:s.q[c]?=some x)(hz:Sz l s j (d+1))(hk:Fl.kd l l.length j≠0)(hcj:Fl.cnt (Fl.raw l j)=true):
 Calls prog 175 #[RP rb,.int .i64 c,.int .i64 j,.int .i64 d] w
  (λe w'=>∃(nx:Nat)(s':Fl.fV),(nx,s')=(if 0<Fl.key l l.length j\/Fl.begins (Fl.kd l l.length j)=true then Fl.pE l l.length (Fl.iC l l.length d) (x.k==10) c j s else(j,s))/\Goes w0 w rb tv l R (.int .i64 nx) s' e w'):=by
 have hj:=(Fl.jc hk).1;have hc:=(gD.1 hx).1;have hkx:=Ns (show j<=l.length by omega) hk;have hsz:=hS.rt.size;have aa:=eZ (WH rb tv l j w hS.rt hT (by omega));have hns:s.q.length<=400000:=by have:=hz.q;omega
 have hjs:j<=100000:=by omega
 by_cases hq:0<Fl.key l l.length j
 ·obtain⟨q1,q2,q3⟩:=Fl.pF (show j<=l.length by omega) hq;have HP:=eZ (Ya w0 w rb tv l d s R hV c j (Fl.key l l.length j) hS hc (hz.on (fB _) (RF d)) q1 q2 q3 hcj);have hres:(if 0<Fl.key l l.length j\/Fl.begins (Fl.kd l l.length j)=true then Fl.pE l l.length (Fl.iC l l.length d) (x.k==10) c j s else(j,s))=Fl.pE l l.length (Fl.iC l l.length d) (x.k==10) c j s:=eY (.inl hq);rw[hres];unfold Fl.pE;dsimp only;rw[eY hq];unfold Fl.mH at aa;obtain⟨q,aA⟩:=fq (Fl.key l l.length j);rw[aA]at HP aa q1 q2⊢;obtain⟨r,hr⟩:=fq (Fl.iC l l.length d s.q.length (Fl.fZ l l.length q) (Fl.l8 l s c j q));rw[hr]at HP⊢;obtain⟨T,aB⟩:=fq ((if r.1=Fl.fZ l l.length q then q else r.1));rw[aB]at HP⊢;obtain⟨qr,rfl⟩:∃qr,q=qr+1:=⟨q-1,by omega⟩
  rw[jH]at HP;rw[show((qr+1:Nat):Int)-1=(qr:Int)by omega]at aa;have aK:((qr:Int) !=-1)=true:=by simp
  have aI:((qr:Int)==-1)=false:=by simp
  obtain⟨N,hN⟩:=fq (s.q.length);rw[hN]at HP⊢;obtain⟨s',hs'⟩:∃s',(⟨Fl.mV r.2.q N T,r.2.d⟩:Fl.fV)=s':=⟨_,rfl⟩
  have aC:=eZ (show Calls prog 182 #[RP rb,.int .i64 c,.int .i64 j,.int .i64 qr,.int .i64 d] w (Goes w0 w rb tv l R (.int .i64 T) s')from HP.out.mono (λe w' ⟨t,h1,h2⟩=>by subst h1;rw[<-hs'];exact h2));rw[hs'];clear hV hT hS hx hz hk hcj hj hc hkx q1 q2 q3 HP hres aA hr aB hN hs' hq hns
  go_enter func175,ntmps175
  go_wp2_with fail
  refine aa.out.mono ?_;rintro e w1 ⟨rfl,rfl⟩;go_wp2_with fail
  refine aC.out.mono ?_;rintro e w2 ⟨rfl,R2,hS2,hF2⟩;have HD:=eZ (show Goes w0 w rb tv l R (.int .i64 T) s' (.returned (.int .i64 T)) w2 from⟨rfl,R2,hS2,hF2⟩);clear hS2 hF2 aC aa;go_wp2_with fail
  go_ret;exact⟨T,s',rfl,HD.out⟩
 have hcv:Fl.mH l j=-1:=by unfold Fl.mH;omega
 rw[hcv]at aa;obtain⟨g,cap,c1,hfz,c0,-,-⟩:=hS.node hx;have HK:=eZ (by have:=hS.rt.kind j (by omega);rw[hkx]at this;exact this);have hpv:=Fl.tO (l:=l) (e:=l.length) d c j s (by omega) (by omega) (by omega);have ah:=eZ (hV w c j s R hS (by omega) (by omega) (by omega) (hz.on (fB _) (RF d)));by_cases hb:x.k=10/\Fl.begins (Fl.kd l l.length j)=true
 ·
  obtain⟨hb1,hb2⟩:=hb;have hres:(if 0<Fl.key l l.length j\/Fl.begins (Fl.kd l l.length j)=true then Fl.pE l l.length (Fl.iC l l.length d) (x.k==10) c j s else(j,s))=Fl.pE l l.length (Fl.iC l l.length d) (x.k==10) c j s:=eY (.inr hb2);rw[hres];unfold Fl.pE;dsimp only;rw[eX hq,eY (by rw[hb1];rfl)];have hgh:=Fl.Dw s c 6 j (by omega);have hpl:(Fl.iB s.q c 6 j).length=s.q.length+1:=Fl.iL _ _ _ _;have hz1:Sz l ⟨Fl.keyed (Fl.iB s.q c 6 j) s.q.length,s.d⟩ j d:=⟨by show(Fl.keyed _ _).length+_+_<=_;rw[Fl.gL,hpl];have:=hz.q;omega,hz.d,Fl.Du (hgh.kids hz.kb) _⟩
  have hpv2:=Fl.tO (l:=l) (e:=l.length) d s.q.length j ⟨Fl.keyed (Fl.iB s.q c 6 j) s.q.length,s.d⟩ (by omega) (by omega) (by show(s.q.length:Int)<((Fl.keyed _ _).length:Int);rw[Fl.gL,hpl];omega);obtain⟨r,hr⟩:=fq (Fl.iC l l.length d s.q.length j ⟨Fl.keyed (Fl.iB s.q c 6 j) s.q.length,s.d⟩);rw[hr]at hpv2⊢;have hrb:r.2.q.length<=400000/\s.q.length<r.2.q.length/\r.1<=100000:=by
   have h1:=hz1.q;have h2:(⟨Fl.keyed (Fl.iB s.q c 6 j) s.q.length,s.d⟩:Fl.fV).q.length=s.q.length+1:=by show(Fl.keyed _ _).length=_;rw[Fl.gL,hpl]
   rw[h2]at h1;rcases hpv2 with⟨e1,_⟩|⟨nx,s',e1,g1,g2,g3,g4,g5,_⟩
   ·rw[e1];refine⟨?_,?_,?_⟩
    ·rw[h2];omega
    ·rw[h2];omega
    show j<=_;omega
   rw[h2]at g5;have:=g4.le;rw[h2]at this;rw[e1];exact⟨by show s'.q.length<=_;omega,by show _<s'.q.length;omega,by show nx<=_;omega⟩
  have HAdd:=eZ (Sj w0 w rb tv l s R c 6 j hS (by omega) (by omega) (by omega) hz.room.kids);have ae:=eZ (λw1 R1 (h:RS w0 w1 rb tv l ⟨Fl.iB s.q c 6 j,s.d⟩ R1)=>h.node (i:=s.q.length) (Fl.my s.q c 6 j (by omega)));have ak:=eZ (λw1 R1 (h:RS w0 w1 rb tv l ⟨Fl.keyed (Fl.iB s.q c 6 j) s.q.length,s.d⟩ R1)=>by have:=hV w1 s.q.length j _ R1 h (by omega) (by show(s.q.length:Int)<((Fl.keyed _ _).length:Int);rw[Fl.gL,hpl];omega) (by omega) hz1;rw[hr]at this;exact this);have av:=eZ (λw1 R1 (jr:Nat)(h:RS w0 w1 rb tv l r.2 R1)=>zS w0 w1 rb tv l r.2 R1 s.q.length jr h hrb.2.1 (by omega));rw[show(⟨Fl.iB s.q c 6 j,s.d⟩:Fl.fV).q=Fl.iB s.q c 6 j from rfl,hpl]at ae;have ai:=eZ (by have:=JM (Fl.kd l l.length j) w;rw[hb2]at this;exact this);have ay:(c:Int)<(s.q.length:Int):=by omega
  obtain⟨n,hn⟩:=fq (s.q.length);rw[hn]at ak av HAdd ae c1 hns ay⊢;obtain⟨r1,hr1⟩:=fq (r.1);have aD:=hrb.2.2;rw[hr1]at ak aD⊢;obtain⟨s',hs'⟩:∃s',(⟨Fl.mV r.2.q n r1,r.2.d⟩:Fl.fV)=s':=⟨_,rfl⟩
  have ax:=eZ (λw1 R1 (h:RS w0 w1 rb tv l r.2 R1)=>by have:=av.out w1 R1 r1 h;rw[hs']at this;exact this);rw[hs'];obtain⟨K,hK⟩:=fq (Fl.kd l l.length j);rw[hK]at HK ai;rw[hb1]at c0;clear hV hT hS hx hz hk hcj hj hc hkx hb1 hb2 hres hgh hpl hz1 hpv2 hr hrb hpv ah av hn hr1 hs' hK hq hcv hfz
  go_enter func175,ntmps175
  go_wp2_with fail
  refine aa.out.mono ?_;rintro e w1 ⟨rfl,rfl⟩;go_wp2_with fail
  refine HK.out.mono ?_;rintro e w1 ⟨rfl,rfl⟩;go_wp2_with fail
  refine ai.out.mono ?_;rintro e w1 ⟨rfl,rfl⟩;clear aa HK ai c0 c1;go_wp2_with fail
  refine HAdd.out.mono ?_;rintro e w1 ⟨rfl,R1,hS1,hF1⟩;obtain⟨g9,aJ,c1,hfz,-,c5,R2,hS2,hF2⟩:=ae.out w1 R1 hS1;have f5:=hfz (n*6+5);have hnn:(n:Int)<(n:Int)+1:=by omega
  have az:=eZ (hF1.trans hF2);have aj:=eZ (ak.out _ R2 hS2);obtain⟨w2,hw2⟩:=fq (w1.setCell ⟨g9,n*6+5,none⟩ (.bool true));rw[hw2]at aj az;have HW2:=eZ hw2;clear ae hS1 hF1 hfz hS2 hF2 hw2 ak HAdd;go_upto_region 7 with fail
  rw[HW2.out];clear HW2 c1 c5 f5;go_wp2_with fail
  refine aj.out.mono ?_;rintro e w3 ⟨rfl,R3,aF,aG⟩;obtain⟨HR3,aH⟩:=fT (ax.out w3 R3 aF) (az.out.trans aG);clear aF aG aj az ax;go_wp2_with fail
  refine HR3.out.mono ?_;rintro e w4 ⟨rfl,R4,af,ag⟩;have HD:=eZ (show Goes w0 w rb tv l R (.int .i64 r1) s' (.returned (.int .i64 r1)) w4 from⟨rfl,R4,af,aH.out.trans ag⟩);clear af ag HR3 aH;go_wp2_with fail
  go_ret;exact⟨r1,s',rfl,HD.out⟩
 have hres:(if 0<Fl.key l l.length j\/Fl.begins (Fl.kd l l.length j)=true then Fl.pE l l.length (Fl.iC l l.length d) (x.k==10) c j s else(j,s))=Fl.iC l l.length d c j s:=by
  by_cases hb2:Fl.begins (Fl.kd l l.length j)=true
  ·have hxk:(x.k==10)=false:=by simpa using λh=>hb ⟨h,hb2⟩
   rw[eY (.inr hb2),hxk];unfold Fl.pE;dsimp only;rw[eX hq,eX (by decide)]
  rw[eX (λh=>h.elim hq hb2)];rcases hpv with⟨e1,_⟩|⟨nx,s',_,_,_,_,_,_,g6⟩
  ·exact e1.symm
  exfalso;rcases g6 with g6|g6
  ·exact hb2 g6
  rw[g6]at hcj;exact absurd hcj (by decide)
 rw[hres];have ay:(c:Int)<(s.q.length:Int):=by omega
 obtain⟨r,hr⟩:=fq (Fl.iC l l.length d c j s);rw[hr]at ah⊢;obtain⟨r1,r2⟩:=r;dsimp only at ah;obtain⟨n,hn⟩:=fq (s.q.length);rw[hn]at c1 hns ay;by_cases hxk:x.k=10
 ·have hb2:Fl.begins (Fl.kd l l.length j)=false:=by
   cases h:Fl.begins (Fl.kd l l.length j)with
   |true=>exact absurd ⟨hxk,h⟩ hb
   |false=>rfl
  have ai:=eZ (by have:=JM (Fl.kd l l.length j) w;rw[hb2]at this;exact this);obtain⟨K,hK⟩:=fq (Fl.kd l l.length j);rw[hK]at HK ai;rw[hxk]at c0;clear hV hT hS hx hz hk hcj hj hc hkx hb hb2 hres hpv hr hn hK hq hcv hfz hxk
  go_enter func175,ntmps175
  go_wp2_with fail
  refine aa.out.mono ?_;rintro e w1 ⟨rfl,rfl⟩;go_wp2_with fail
  refine HK.out.mono ?_;rintro e w1 ⟨rfl,rfl⟩;go_wp2_with fail
  refine ai.out.mono ?_;rintro e w1 ⟨rfl,rfl⟩;clear aa HK ai c0 c1;go_wp2_with fail
  refine ah.out.mono ?_;rintro e w4 ⟨rfl,R4,af,ag⟩;have HD:=eZ (show Goes w0 w rb tv l R (.int .i64 r1) r2 (.returned (.int .i64 r1)) w4 from⟨rfl,R4,af,ag⟩);clear af ag ah;go_wp2_with fail
  go_ret;exact⟨r1,r2,rfl,HD.out⟩
 have gk:(x.k==10)=false:=by simpa using hxk
 obtain⟨xk,hxd⟩:=fq (x.k);rw[hxd]at c0 gk;clear hV hT hS hx hz hk hcj hj hc hkx hb hres hpv hr hn hq hcv hfz hxk HK hxd
 go_enter func175,ntmps175
 go_wp2_with fail
 refine aa.out.mono ?_;rintro e w1 ⟨rfl,rfl⟩;clear aa;go_wp2_with fail
 refine ah.out.mono ?_;rintro e w4 ⟨rfl,R4,af,ag⟩;have HD:=eZ (show Goes w0 w rb tv l R (.int .i64 r1) r2 (.returned (.int .i64 r1)) w4 from⟨rfl,R4,af,ag⟩);clear af ag ah;go_wp2_with fail
 go_ret;exact⟨r1,r2,rfl,HD.out⟩
end
section
open Go.RowKit
open Sq
open Ar
theorem CR{l:List Tk}{p m:Nat}(hm:m<=p)(h0:0<p)(hc:Fl.cnt (Fl.raw l (p-1))=true):∀j,p<=j->(∀k,p<=k->k<j->Fl.cnt (Fl.raw l k)=false)->Fl.back l j m=p
 |0=>λh _=>by omega
 |j+1=>λh hk=>by
  by_cases e:p=j+1
  ·subst e;exact Fl.mJ l _ m h0 hc
  rw[Fl.back,eY ⟨by omega,hk j (by omega) (by omega)⟩];exact CR hm h0 hc j (by omega) (λk h1 h2=>hk k h1 (by omega))
structure Vars(wr:World)(rb b5 b13 b14 c p:Nat)(R:Nat->Prop):Prop where
 c5:Cap wr b5 (RP rb) 174
 c13:Cap wr b13 (.int .i64 c) 3
 c14:Cap wr b14 (.int .i64 p) 3
 n5:¬R b5
 n13:¬R b13
 n14:¬R b14
 r5:b5≠rb
 YG:b13≠rb
 MS:b14≠rb
 e5:b5≠b14
 e13:b13≠b14
theorem Vars.fp{wr w':World}{rb b5 b13 b14 c p:Nat}{R R':Nat->Prop}(h:Vars wr rb b5 b13 b14 c p R)(hF:FP wr w' rb R R'):Vars w' rb b5 b13 b14 c p R':=by
 obtain⟨a1,a2⟩:=h.c5.fp hF h.r5 h.n5;obtain⟨a3,a4⟩:=h.c13.fp hF h.YG h.n13;obtain⟨a5,a6⟩:=h.c14.fp hF h.MS h.n14;exact⟨a1,a3,a5,a2,a4,a6,h.r5,h.YG,h.MS,h.e5,h.e13⟩
theorem Vars.set{wr:World}{rb b5 b13 b14 c p:Nat}{R:Nat->Prop}(h:Vars wr rb b5 b13 b14 c p R)(q:Nat):Vars (wr.setCell ⟨b14,0,none⟩ (.int .i64 q)) rb b5 b13 b14 c q R:=
 ⟨h.c5.far h.e5,h.c13.far h.e13,h.c14.set _,h.n5,h.n13,h.n14,h.r5,h.YG,h.MS,h.e5,h.e13⟩
theorem FP.DJ{w wr:World}{rb b o:Nat}{R R':Nat->Prop}{u:Value}(h:FP w wr rb R R')(hb:w.heap.size<=b):FP w (wr.setCell ⟨b,o,none⟩ u) rb R R' :=
 ⟨by simpa using h.size,λk hk hr hn=>(jf _ _ _ _ (λe=>by have e:k=b:=e;omega)).trans (h.block k hk hr hn),h.rows⟩
structure MU(w0 w wr:World)(rb:Nat)(tv:Value)(l:List Tk)(R0:Nat->Prop)(b5 b13 b14 c op d:Nat)(RES:Nat×Fl.fV)(p:Nat)(f:Bool)(s:Fl.fV)(R:Nat->Prop):Prop where
 rs:RS w0 wr rb tv l s R
 fp:FP w wr rb R0 R
 vars:Vars wr rb b5 b13 b14 c p R
 low:w0.heap.size<=b14
 new:w.heap.size<=b14
 res:∃g,l.length-p<g/\Fl.iI l l.length (Fl.iC l l.length d) c op g p f s=RES
 sq:s.q.length+2*(l.length-p)+(d+1)<=400000
 sd:s.d.length+(l.length-p)+1<=400000
 kb:Fl.KB s.q
 nd:∃x,s.q[c]?=some x/\(x.k==10)=(Fl.raw l op==9)
 U9:op<p
 pl:p<=l.length
 cn:Fl.cnt (Fl.raw l (p-1))=true
section
variable {w0 w wr w':World}{rb:Nat}{tv:Value}{l:List Tk}{R0 R R':Nat->Prop}{b5 b13 b14 c op d p:Nat}{RES:Nat×Fl.fV}{f:Bool}{s:Fl.fV}
theorem MU.sz(h:MU w0 w wr rb tv l R0 b5 b13 b14 c op d RES p f s R):Sz l s p (d+1):=⟨h.sq,by have:=h.sd;omega,h.kb⟩
theorem MU.next(h:MU w0 w wr rb tv l R0 b5 b13 b14 c op d RES p f s R){j q:Nat}{f':Bool}{s':Fl.fV}(hS:RS w0 w' rb tv l s' R')(hF:FP w w' rb R0 R')(hV:Vars w' rb b5 b13 b14 c q R')(ae:p<=j)(hjq:j<q)(aa:q<=l.length)(hcn:Fl.cnt (Fl.raw l (q-1))=true)
 (hg:Fl.Gr s s' (q-p)) (hr:∀g,Fl.iI l l.length (Fl.iC l l.length d) c op (g+1) p f s=Fl.iI l l.length (Fl.iC l l.length d) c op g q f' s'):MU w0 w w' rb tv l R0 b5 b13 b14 c op d RES q f' s' R':=by
 obtain⟨g,hg1,hg2⟩:=h.res;obtain⟨x,hx1,hx2⟩:=h.nd;obtain⟨x',hx3,hx4⟩:=hg.kinds c x hx1;obtain⟨g',rfl⟩:∃g',g=g'+1:=⟨g-1,by omega⟩
 rw[hr]at hg2;exact⟨hS,hF,hV,h.low,h.new,⟨g',by omega,hg2⟩,by have:=h.sq;have:=hg.len;omega,by have:=h.sd;have:=hg.dl;omega,hg.kids h.kb,⟨x',hx3,by rw[hx4];exact hx2⟩,by have:=h.U9;omega,aa,hcn⟩
theorem MU.step(h:MU w0 w wr rb tv l R0 b5 b13 b14 c op d RES p f s R):∃g,Fl.iI l l.length (Fl.iC l l.length d) c op (g+1) p f s=RES:=by
 obtain⟨g,hg1,hg2⟩:=h.res;obtain⟨g',rfl⟩:∃g',g=g'+1:=⟨g-1,by omega⟩
 exact⟨g',hg2⟩
end
end
section
open Go.RowKit
open Sq
open Ar
open Fl (kx)
def Yb:Value->Nat
 | .pointer (some a)=>a.block
 |_=>0
theorem zm(t:Array Value)(n:Nat)(h:t.size=n):t=((List.range n).map (λk=>t.getD k undef)).toArray:=by
 subst h;apply Array.ext
 ·simp
 intro i h1 h2;simp[Array.getD,h1]
def Nw(rb i0 op d b5 KS OW b13 b14:Nat)(up:Int)(f:Bool)(a:Act):Prop:=
 a.defers=[]/\a.tmps.size=99/\a.tmps.getD 0 undef=RP rb/\a.tmps.getD 1 undef=.int .i64 up/\a.tmps.getD 2 undef=.int .i64 i0/\a.tmps.getD 3 undef=.int .i64 op/\a.tmps.getD 4 undef=.int .i64 ((d:Int)+1)/\a.tmps.getD 5 undef=.pointer (some ⟨b5,0,none⟩)/\a.tmps.getD 6 undef=undef/\a.tmps.getD 7 undef=undef/\a.tmps.getD 8 undef=undef/\a.tmps.getD 9 undef=undef/\a.tmps.getD 11 undef=.int .i64 KS/\a.tmps.getD 12 undef=.int .i64 OW/\a.tmps.getD 13 undef=.pointer (some ⟨b13,0,none⟩)/\a.tmps.getD 14 undef=.pointer (some ⟨b14,0,none⟩)/\a.tmps.getD 15 undef=.bool f/\a.tmps.getD 16 undef=.func (.func 171) #[] #[.pointer (some ⟨b5,0,none⟩),.pointer (some ⟨b13,0,none⟩),.pointer (some ⟨b14,0,none⟩)]
theorem Nw.is{rb i0 op d b5 KS OW b13 b14:Nat}{up:Int}{f:Bool}{a:Act}(h:Nw rb i0 op d b5 KS OW b13 b14 up f a):∃u:Nat->Value,a={tmps:=#[RP rb,.int .i64 up,.int .i64 i0,.int .i64 op,.int .i64 ((d:Int)+1),.pointer (some ⟨b5,0,none⟩),undef,undef,undef,undef,u 10,.int .i64 KS,.int .i64 OW,.pointer (some ⟨b13,0,none⟩),.pointer (some ⟨b14,0,none⟩),.bool f,.func (.func 171) #[] #[.pointer (some ⟨b5,0,none⟩),.pointer (some ⟨b13,0,none⟩),.pointer (some ⟨b14,0,none⟩)],u 17,u 18,u 19,u 20,u 21,u 22,u 23,u 24,u 25,u 26,u 27,u 28,u 29,u 30,u 31,u 32,u 33,u 34,u 35,u 36,u 37,u 38,u 39,u 40,u 41,u 42,u 43,u 44,u 45,u 46,u 47,u 48,u 49,u 50,u 51,u 52,u 53,u 54,u 55,u 56,u 57,u 58,u 59,u 60,u 61,u 62,u 63,u 64,u 65,u 66,u 67,u 68,u 69,u 70,u 71,u 72,u 73,u 74,u 75,u 76,u 77,u 78,u 79,u 80,u 81,u 82,u 83,u 84,u 85,u 86,u 87,u 88,u 89,u 90,u 91,u 92,u 93,u 94,u 95,u 96,u 97,u 98],defers:=[]}:=by
 obtain⟨t,d⟩:=a;obtain⟨h1,h2,g0,g1,g2,g3,g4,g5,g6,g7,g8,g9,g11,g12,g13,g14,g15,g16⟩:=h;dsimp only at h1 h2 g0 g1 g2 g3 g4 g5 g6 g7 g8 g9 g11 g12 g13 g14 g15 g16;subst h1;refine⟨λk=>t.getD k undef,?_⟩;have h3:=zm t 99 h2;have h4:(List.range 99).map (λk=>t.getD k undef)=[t.getD 0 undef,t.getD 1 undef,t.getD 2 undef,t.getD 3 undef,t.getD 4 undef,t.getD 5 undef,t.getD 6 undef,t.getD 7 undef,t.getD 8 undef,t.getD 9 undef,t.getD 10 undef,t.getD 11 undef,t.getD 12 undef,t.getD 13 undef,t.getD 14 undef,t.getD 15 undef,t.getD 16 undef,t.getD 17 undef,t.getD 18 undef,t.getD 19 undef,t.getD 20 undef,t.getD 21 undef,t.getD 22 undef,t.getD 23 undef,t.getD 24 undef,t.getD 25 undef,t.getD 26 undef,t.getD 27 undef,t.getD 28 undef,t.getD 29 undef,t.getD 30 undef,t.getD 31 undef,t.getD 32 undef,t.getD 33 undef,t.getD 34 undef,t.getD 35 undef,t.getD 36 undef,t.getD 37 undef,t.getD 38 undef,t.getD 39 undef,t.getD 40 undef,t.getD 41 undef,t.getD 42 undef,t.getD 43 undef,t.getD 44 undef,t.getD 45 undef,t.getD 46 undef,t.getD 47 undef,t.getD 48 undef,t.getD 49 undef,t.getD 50 undef,t.getD 51 undef,t.getD 52 undef,t.getD 53 undef,t.getD 54 undef,t.getD 55 undef,t.getD 56 undef,t.getD 57 undef,t.getD 58 undef,t.getD 59 undef,t.getD 60 undef,t.getD 61 undef,t.getD 62 undef,t.getD 63 undef,t.getD 64 undef,t.getD 65 undef,t.getD 66 undef,t.getD 67 undef,t.getD 68 undef,t.getD 69 undef,t.getD 70 undef,t.getD 71 undef,t.getD 72 undef,t.getD 73 undef,t.getD 74 undef,t.getD 75 undef,t.getD 76 undef,t.getD 77 undef,t.getD 78 undef,t.getD 79 undef,t.getD 80 undef,t.getD 81 undef,t.getD 82 undef,t.getD 83 undef,t.getD 84 undef,t.getD 85 undef,t.getD 86 undef,t.getD 87 undef,t.getD 88 undef,t.getD 89 undef,t.getD 90 undef,t.getD 91 undef,t.getD 92 undef,t.getD 93 undef,t.getD 94 undef,t.getD 95 undef,t.getD 96 undef,t.getD 97 undef,t.getD 98 undef]:=rfl;rw[h4,g0,g1,g2,g3,g4,g5,g6,g7,g8,g9,g11,g12,g13,g14,g15,g16]at h3;exact congrArg (λt=>({tmps:=t,defers:=[]}:Act)) h3
theorem RT.drew{w:World}{rb:Nat}{tv:Value}{l:List Tk}(h:RT w rb tv l):RT w.drew rb tv l:=⟨h.cell,h.reads.below (fI _ w).drew,h.size⟩
theorem G5(w0 w:World)(rb:Nat)(tv:Value)(l:List Tk)(d:Nat)(s0:Fl.fV)(R0:Nat->Prop)(hV:KV w0 rb tv l d)(hT:nO l)(up:Int)(i0 op:Nat)(hS:RS w0 w rb tv l s0 R0)(hu1:-1<=up)(hu2:up<s0.q.length)(hz:Sz l s0 op (d+1))(hop:op<l.length)(hk:Fl.raw l op=8\/Fl.raw l op=9)(hds:d<=1000):
 Calls prog 158 #[RP rb,.int .i64 up,.int .i64 i0,.int .i64 op,.int .i64 (d+1:Nat)] w
  (Goes w0 w rb tv l R0 (.int .i64 (Fl.iI l l.length (Fl.iC l l.length d) s0.q.length op (l.length-op) (op+1) false ⟨Fl.iB s0.q up (if Fl.raw l op=9 then 10 else 9) i0,s0.d⟩).1)
   (Fl.iI l l.length (Fl.iC l l.length d) s0.q.length op (l.length-op) (op+1) false ⟨Fl.iB s0.q up (if Fl.raw l op=9 then 10 else 9) i0,s0.d⟩).2):=by
 obtain⟨KS,aX⟩:∃KS:Nat,(if Fl.raw l op=9 then 10 else 9)=KS:=⟨_,rfl⟩
 obtain⟨OW,bB⟩:∃OW:Nat,(if Fl.raw l op=9 then 11 else 10)=OW:=⟨_,rfl⟩
 have bf:OW=10\/OW=11:=by rw[<-bB];split<;>omega
 rw[aX];obtain⟨RES,aP⟩:=fq (Fl.iI l l.length (Fl.iC l l.length d) s0.q.length op (l.length-op) (op+1) false ⟨Fl.iB s0.q up KS i0,s0.d⟩);rw[aP];have hls:=hS.rt.size;have bg:Fl.cnt (Fl.raw l op)=true:=by rcases hk with h|h<;>rw[h]<;>rfl
 obtain⟨HOW,bH,aQ,bU⟩:=oN bB bf hT hV;have cz:op<100000:=by omega
 obtain⟨n,hn⟩:=fq (s0.q.length)
 have aD:=eZ (fun(w1 w2 W:World)(R1:Nat->Prop)(b5 b13 b14:Nat)(h1:w1=w.alloc (.cells #[RP rb] 174))(h5:b5=w.heap.size)(bV:b13=w2.heap.size)(bW:b14=w2.heap.size+1)
  (hS1:RS w0 w2 rb tv l ⟨Fl.iB s0.q up KS i0,s0.d⟩ R1) (hF1:FP w1 w2 rb R0 R1) (hW:W=(w2.alloc (.cells #[.int .i64 (n:Int)] 3)).alloc (.cells #[.int .i64 (op+1:Nat)] 3))=>
  show MU w0 w W rb tv l R0 b5 b13 b14 n op d RES (op+1) false ⟨Fl.iB s0.q up KS i0,s0.d⟩ R1 from by
   have hb1:Below w.heap.size w w1:=by rw[h1];exact fo w _
   have hb2:Below w2.heap.size w2 W:=by rw[hW];exact gX (fo w2 _) _
   have hF2:FP w w2 rb R0 R1:=(FP.below hb1).trans hF1;have hs1:w1.heap.size=w.heap.size+1:=by rw[h1];exact size_alloc _ _
   have hsz:=hF1.size;have hlt:=hS1.lt;have k5:Cap w1 b5 (RP rb) 174:=by rw[h5,h1];exact j5 _ _
   have n5:¬R0 b5:=λh=>by have:=(hS.rows h).2.1;omega
   have r5:b5≠rb:=by have:=hS.lt.2;omega
   obtain⟨q5,m5⟩:=k5.fp hF1 r5 n5;have k13:Cap (w2.alloc (.cells #[.int .i64 (n:Int)] 3)) b13 (.int .i64 n) 3:=by rw[bV];exact j5 _ _
   have bI:Cap W b13 (.int .i64 n) 3:=by rw[hW];exact((fo _ _).block b13 k13.lt).trans k13
   have k14:Cap W b14 (.int .i64 (op+1:Nat)) 3:=by
    rw[hW,bW];have:=j5 (w2.alloc (.cells #[.int .i64 (n:Int)] 3)) (.cells #[.int .i64 (op+1:Nat)] 3);rw[size_alloc]at this;exact this
   have hw0:=hS1.lu.size;refine⟨hS1.below hb2,hF2.trans (FP.below hb2),⟨(hb2.block b5 q5.lt).trans q5,bI,k14,m5,λh=>by have:=(hS1.rows h).2.1;omega,λh=>by have:=(hS1.rows h).2.1;omega,r5,by omega,by omega,?_,by omega⟩,by omega,by omega,⟨l.length-op,by omega,by rw[<-hn];exact aP⟩,?_,?_,Fl.xU hz.kb up KS i0 hu2,⟨_,by rw[<-hn];exact Fl.my s0.q up KS i0 hu2,?_⟩,by omega,by omega,by rw[jH];exact bg⟩
   ·have:=q5.lt;omega
   ·show(Fl.iB s0.q up KS i0).length+_+_<=_;rw[Fl.iL];have:=hz.q;omega
   ·show s0.d.length+_+1<=_;have:=hz.d;omega
   show((KS:Int)==10)=_;rw[<-aX]
   rcases hk with h|h<;>rw[h]<;>rfl)
 have HAdd:=eZ (λw1 (h:Below w.heap.size w w1)=>by have:=Sj w0 w1 rb tv l s0 R0 up KS i0 (hS.below h) hu1 hu2 (by have:=hz.q;omega) hz.room.kids;rw[hn]at this;exact this);have HB1:=eZ (fo w (.cells #[RP rb] 174));have aF:=eZ (λw1 (h:Below w.heap.size w w1)=>by have:=(hS.below h).rt.kind op (by omega);rw[show kx l op=Fl.raw l op from by unfold Fl.kx;rw[eY hop]]at this;exact this);have aR:=eZ aX;obtain⟨b5,hb5⟩:=fq (w.heap.size);have aY:=eZ hb5;clear hV hT hS hu1 hu2 hz hop aP hn aX bB bf bg;obtain⟨bX,bY⟩:=fT hls hds;clear hls hds;obtain⟨Q,hQ⟩:=fq (Goes w0 w rb tv l R0 (.int .i64 RES.1) RES.2);have HQ:=eZ (fun(w3:World)(R3:Nat->Prop)(k:Nat)(hk:k=RES.1)(h1:RS w0 w3 rb tv l RES.2 R3)(h2:FP w w3 rb R0 R3)=>show Q (.returned (.int .i64 k)) w3 by rw[<-hQ,hk];exact⟨rfl,R3,h1,h2⟩);rw[hQ];clear hQ
 go_enter func158,ntmps158
 go_wp2;refine qG 0 (λa' w'=>∃(p:Nat)(f:Bool)(b13 b14:Nat)(s:Fl.fV)(R:Nat->Prop),Nw rb i0 op d b5 KS OW b13 b14 up f a'/\Hid (MU w0 w w' rb tv l R0 b5 b13 b14 n op d RES p f s R))
  (λa' w'=>l.length-(intOf ((w'.cell? ⟨Yb (a'.tmps.getD 14 undef),0,none⟩).getD undef)).toNat) rfl ?_ ?_
 ·rintro a' W ⟨p,f,b13,b14,s,R,hlive,HC⟩;obtain⟨u,rfl⟩:=hlive.is;clear hlive aD HAdd HB1 aF aR hk;have hls:=bX.out;have hds:=bY.out;have ag:=HC.out;have ht:=Fl.iY (l:=l) (e:=l.length) (i:=p) ag.pl;have aS:=λk (h1:p<=k)(h2:k<Fl.fZ l l.length p)=>Fl.l7 (λj=>!Fl.cnt (Fl.raw l j)) (l.length-p) p k h1 h2
  have hstop:=Fl.ku (λj=>!Fl.cnt (Fl.raw l j)) (l.length-p) p;have hst:=ag.step;have hI:=ag.rs.rt.idle p ag.pl;obtain⟨j,hj⟩:=fq (Fl.fZ l l.length p);have hj2:Fl.iQ (λj=>!Fl.cnt (Fl.raw l j)) (l.length-p) p=j:=hj;rw[hj]at ht aS hI;rw[hj2]at hstop;have c5:=ag.vars.c5.cell;have c14:=ag.vars.c14.cell;have f14:=ag.vars.c14.free;have hS1:=ag.rs.store ag.low ag.vars.MS ag.vars.n14 0 (.int .i64 j);have hF1:=ag.fp.DJ ag.new (o:=0) (u:=.int .i64 j);have hV1:=ag.vars.set j;obtain⟨W1,hW1⟩:=fq (W.setCell ⟨b14,0,none⟩ (.int .i64 j));rw[hW1]at hS1 hF1 hV1;have x5:(W.setCell ⟨b14,0,none⟩ (.int .i64 j)).cell? ⟨b5,0,none⟩=some (RP rb):=by rw[hW1];exact hV1.c5.cell
  have bJ:(W.setCell ⟨b14,0,none⟩ (.int .i64 j)).cell? ⟨b14,0,none⟩=some (.int .i64 j):=by rw[hW1];exact hV1.c14.cell
  obtain⟨HK,HI⟩:=fT (hS1.rt.kind j ht.2) hI;have d5:=hV1.c5.cell;have d13:=hV1.c13.cell;have d14:=hV1.c14.cell;have e14:=hV1.c14.free;have hkd:=Fl.B5 ht.2;have hk0:=Iu aQ.out j;obtain⟨K,hK⟩:=fq (kx l j);rw[hK]at HK hkd hk0;have hjs:j<=100000:=by omega
  have hps:p<=100000:=by have:=ag.pl;omega
  have hkl:K≠21->j<l.length:=λh=>by
   rw[<-hK]at h;unfold Fl.kx at h;split at h
   ·assumption
   exact absurd rfl h
  obtain⟨bK,bC,aZ,bn,ah,aG⟩:=kJ hkl aS hstop hst ht hj;obtain⟨aT,bL,aO,aU,aj,HW1⟩:=kJ hkd hk0 hS1 hF1 hV1 hW1;have hkr:K≠20->K≠21->Fl.raw l j=K:=λh1 h2=>by
   have:=Fl.jc (l:=l) (e:=l.length) (i:=j) (by rw[hkd,eX (λh=>h.elim h1 h2)];exact hk0);rw[this.2,hkd,eX (λh=>h.elim h1 h2)]
  have bM:=eZ hkr;clear ag ht aS hstop hst hI hj hj2 hS1 hF1 hV1 hW1 hkd hk0 hkl hK hkr hls;go_wp2_with fail
  refine HI.out.mono ?_;rintro e wi ⟨rfl,rfl⟩;clear HI c5;go_wp2_with fail
  rw[HW1.out];clear HW1 c14 f14 x5 bJ;refine HK.out.mono ?_;rintro e wi ⟨rfl,rfl⟩;clear HK;by_cases qA:K=OW
  ·have gA:((K:Int)==(OW:Int))=true:=by simp;omega
   obtain⟨g,hg⟩:=bn.out;have hko:K≠0/\K≠20/\K≠21:=by have:=bH.out;omega
   rw[Fl.iI,aG.out,aT.out,eX (λh:K=20\/K=21=>h.elim hko.2.1 hko.2.2),eX hko.1,eY (by rw[HOW.out];exact qA)]at hg;obtain⟨x,hx,-⟩:=HC.out.nd;have HR:=eZ (zS w0 W1 rb tv l s R n (j+1) aO.out (gD.1 hx).1 (by have:=HC.out.sq;omega));rw[show((j+1:Nat):Int)=(j:Int)+1 from by omega]at HR;have HE:=eZ hg;clear hg hko qA hx;go_wp2_with fail
   refine HR.out.mono ?_;rintro e w3 ⟨rfl,R3,af,aa⟩;have HD:=eZ (HQ.out w3 R3 (j+1) (by rw[<-HE.out]) (by rw[<-HE.out];exact af) (aU.out.trans aa));rw[show((j+1:Nat):Int)=(j:Int)+1 from by omega]at HD;clear af aa HR HE;go_wp2_with fail
   try simp only[Exit.jump]
   exact HD.out
  have gA:((K:Int)==(OW:Int))=false:=by simp;omega
  have HM:=eZ (Nl K W1);by_cases qB:K=20\/K=21
  ·have hmk:Fl.mk K=true:=by rcases qB with rfl|rfl<;>rfl
   rw[hmk]at HM;obtain⟨g,hg⟩:=bn.out;have hbk:=Fl.mJ l p (op+1) (by have:=HC.out.U9;omega) HC.out.cn;rw[Fl.iI,aG.out,aT.out,eY qB,eY rfl,hbk]at hg;have bN:=CR (m:=op+1) (by have:=HC.out.U9;omega) (by have:=HC.out.U9;omega) HC.out.cn j ah.out.1 (λk h1 h2=>by simpa using bC.out k h1 h2);have aV:op<l.length:=by have:=HC.out.U9;have:=HC.out.pl;omega
   have bD:=eZ (U1 w0 W1 rb tv l s R 9 op op aO.out aV aV (by have:=HC.out.sd;omega));rw[show((op+1:Nat):Int)=(op:Int)+1 from by omega]at bD;obtain⟨x,hx,-⟩:=HC.out.nd;have hcl:=(gD.1 hx).1;have HR:=eZ (λw2 R2 (h:RS w0 w2 rb tv l ⟨s.q,s.d++[⟨9,Fl.mM l op,Fl.too l op⟩]⟩ R2)=>zS w0 w2 rb tv l ⟨s.q,s.d++[⟨9,Fl.mM l op,Fl.too l op⟩]⟩ R2 n p h hcl (by have:=HC.out.sq;show s.q.length<=_;omega));have bZ:=eZ (λwx (h:RT wx rb tv l)=>by have:=h.counted j (op+1) ah.out.2 (by omega) (by have:=HC.out.U9;have:=ah.out.1;omega) ⟨p,by have:=HC.out.U9;omega,ah.out.1,HC.out.cn⟩;rw[bN]at this;exact this);have HE:=eZ hg;clear hg hmk hbk bN aV hx hcl qB qA;go_wp2_with fail
   refine HM.out.mono ?_;rintro e wi ⟨rfl,rfl⟩;go_wp2_with fail
   refine bD.out.mono ?_;rintro e w2 ⟨rfl,R2,hS2,hF2⟩;have hV2:=aj.out.fp hF2;have v5:=hV2.c5.cell;have v13:=hV2.c13.cell;have v14:=hV2.c14.cell;have bO:=hS2.rt;have cr:=eZ (HR.out w2.drew R2 (hS2.below (fI _ w2).drew));have bE:=eZ (aU.out.trans hF2);clear hS2 hF2 hV2 bD HR HM d5 d13 d14 e14;go_wp2_with fail
   have bP:=eZ ((bZ.out w2.drew bO.drew).mono (show∀e w',_->e=.returned (.int .i64 p)/\w'=w2.drew from λe w' h=>⟨h.1,h.2.symm⟩));have x5:w2.drew.cell? ⟨b5,0,none⟩=some (RP rb):=v5;have cB:w2.drew.cell? ⟨b13,0,none⟩=some (.int .i64 (n:Int)):=v13;have bJ:w2.drew.cell? ⟨b14,0,none⟩=some (.int .i64 (j:Int)):=v14;refine iA 5 (by kernel_rfl) (by kernel_rfl) ?_;simp only[uA,vG,wh,lQ]
   repeat (go_big_quiet_step (exact bP.out _))
   refine EX ?_;go_wp2_with fail
   refine cr.out.mono ?_;rintro e w3 ⟨rfl,R3,af,aa⟩;have HD:=eZ (HQ.out w3 R3 p (by rw[<-HE.out]) (by rw[<-HE.out];exact af) (bE.out.trans ((FP.below (fI _ w2).drew).trans aa)));clear af aa;go_wp2_with fail
   try simp only[Exit.jump]
   exact HD.out
  have hmk:Fl.mk K=false:=by unfold Fl.mk;simp;omega
  rw[hmk]at HM;have aL:K≠20:=λh=>qB (.inl h)
  have aH:K≠21:=λh=>qB (.inr h)
  have hjl:=bK.out aH;have hkd:=aT.out;rw[eX qB]at hkd;have hraw:=bM.out aL aH;have hcj:Fl.cnt (Fl.raw l j)=true:=by
   rcases aZ.out with h|h
   ·have:=HC.out.pl;omega
   simpa using h
  obtain⟨x,hx,hxk⟩:=HC.out.nd;have hcl:=(gD.1 hx).1;have hroom:Room s:=HC.out.sz.room;have hdl:s.d.length<900000:=by have:=HC.out.sd;omega
  have hko:¬K=(if Fl.raw l op=9 then 11 else 10):=by rw[HOW.out];exact qA
  have aC:=eZ (fun(t:Nat)(h1:0<t)(h2:t<=l.length)=>Ow w0 W1 rb tv l s R b5 b13 b14 n j t aO.out hcl hroom hdl hjl h1 h2 aj.out.c5 aj.out.c13 aj.out.c14 aj.out.n14 aj.out.MS);have hk0:=bL.out
  have aB:=eZ (fun(t:Nat)(w3:World)(R3:Nat->Prop)(f':Bool)(h1:j<t)(h2:t<=l.length)(hcn:Fl.cnt (Fl.raw l (t-1))=true)(af:RS w0 w3 rb tv l (Fl.o9 l s n j t 8) R3)(aa:FP W1 w3 rb R R3)
   (hr:∀g,Fl.iI l l.length (Fl.iC l l.length d) n op (g+1) p f s=Fl.iI l l.length (Fl.iC l l.length d) n op g t f' (Fl.o9 l s n j t 8))=>
   show MU w0 w (w3.setCell ⟨b14,0,none⟩ (.int .i64 t)) rb tv l R0 b5 b13 b14 n op d RES t f' (Fl.o9 l s n j t 8) R3 from by
    have av:=aj.out.fp aa
    refine HC.out.next (af.store HC.out.low av.MS av.n14 0 _) ((aU.out.trans aa).DJ HC.out.new) (av.set t) ah.out.1 h1 h2 hcn ((Fl.Ii l s n j t 8 (by omega)).mono (by have:=ah.out.1;omega)) hr)
  have hc1:Fl.cnt (Fl.raw l (j+1-1))=true:=by rw[jH];exact hcj
  have ai:=eZ (XI K W1);by_cases qC:Fl.ends K=true
  ·rw[qC]at ai;have hr:∀g,Fl.iI l l.length (Fl.iC l l.length d) n op (g+1) p f s=Fl.iI l l.length (Fl.iC l l.length d) n op g (j+1) f (Fl.o9 l s n j (j+1) 8):=λg=>by
    rw[Fl.iI,aG.out,hkd,eX hk0,eX hko,eY qC]
   have ak:=eZ (aC.out (j+1) (by omega) (by omega));rw[show((j+1:Nat):Int)=(j:Int)+1 from by omega]at ak;have ax:=eZ (λw3 R3 h1 h2=>by have:=aB.out (j+1) w3 R3 f (by omega) (by omega) hc1 h1 h2 hr;rw[show((j+1:Nat):Int)=(j:Int)+1 from by omega]at this;exact this);clear hr aC aB hkd hraw hcj hx hxk hcl hroom hdl hko hc1 hmk aL aH qA qB hk0;go_wp2_with fail
   refine HM.out.mono ?_;rintro e wi ⟨rfl,rfl⟩;go_wp2_with fail
   refine ai.out.mono ?_;rintro e wi ⟨rfl,rfl⟩;clear HM ai;go_wp2_with fail
   refine(ak.out).mono ?_;rintro e w4 ⟨rfl,w3,R3,af,aa,rfl⟩;have ae:=eZ (ax.out w3 R3 af aa);clear af aa ax ak;go_wp2_with fail
   go_step3
   refine⟨rfl,⟨j+1,f,b13,b14,_,_,⟨rfl,rfl,rfl,rfl,rfl,rfl,rfl,rfl,rfl,rfl,rfl,rfl,rfl,rfl,rfl,rfl,rfl,rfl⟩,ae⟩,?_⟩;have hnew:=ae.out.vars.c14.cell;have hold:=HC.out.vars.c14.cell;have hq1:=ae.out.pl;have hq2:=ah.out.1;show l.length-(intOf ((World.cell? _ ⟨b14,0,none⟩).getD undef)).toNat<l.length-(intOf ((World.cell? _ ⟨b14,0,none⟩).getD undef)).toNat
   rw[hnew,hold];show l.length-((j+1:Nat):Int).toNat<l.length-((p:Nat):Int).toNat
   omega
  have hen:Fl.ends K=false:=by simpa using qC
  rw[hen]at ai;by_cases q7:K=7
  ·subst q7;cases f with
   |false=>
    have hr:∀g,Fl.iI l l.length (Fl.iC l l.length d) n op (g+1) p false s=Fl.iI l l.length (Fl.iC l l.length d) n op g (j+1) false (Fl.o9 l s n j (j+1) 8):=λg=>by
     rw[Fl.iI,aG.out,hkd,eX hk0,eX hko,eX qC,eY rfl,eX (by decide)]
    have ak:=eZ (aC.out (j+1) (by omega) (by omega));rw[show((j+1:Nat):Int)=(j:Int)+1 from by omega]at ak;have ax:=eZ (λw3 R3 h1 h2=>by have:=aB.out (j+1) w3 R3 false (by omega) (by omega) hc1 h1 h2 hr;rw[show((j+1:Nat):Int)=(j:Int)+1 from by omega]at this;exact this);clear hr aC aB hkd hraw hcj hx hxk hcl hroom hdl hko hc1 hmk aL aH qA qB hk0;go_wp2_with fail
    refine HM.out.mono ?_;rintro e wi ⟨rfl,rfl⟩;go_wp2_with fail
    refine ai.out.mono ?_;rintro e wi ⟨rfl,rfl⟩;clear HM ai;go_wp2_with fail
    refine(ak.out).mono ?_;rintro e w4 ⟨rfl,w3,R3,af,aa,rfl⟩;have ae:=eZ (ax.out w3 R3 af aa);clear af aa ax ak;go_wp2_with fail
    go_step3
    refine⟨rfl,⟨j+1,false,b13,b14,_,_,⟨rfl,rfl,rfl,rfl,rfl,rfl,rfl,rfl,rfl,rfl,rfl,rfl,rfl,rfl,rfl,rfl,rfl,rfl⟩,ae⟩,?_⟩;have hnew:=ae.out.vars.c14.cell;have hold:=HC.out.vars.c14.cell;have hq1:=ae.out.pl;have hq2:=ah.out.1;show l.length-(intOf ((World.cell? _ ⟨b14,0,none⟩).getD undef)).toNat<l.length-(intOf ((World.cell? _ ⟨b14,0,none⟩).getD undef)).toNat
    rw[hnew,hold];show l.length-((j+1:Nat):Int).toNat<l.length-((p:Nat):Int).toNat
    omega
   |true=>
    have hr:∀g,Fl.iI l l.length (Fl.iC l l.length d) n op (g+1) p true s=Fl.iI l l.length (Fl.iC l l.length d) n op g (j+1) false s:=λg=>by
     rw[Fl.iI,aG.out,hkd,eX hk0,eX hko,eX qC,eY rfl,eY rfl]
    have bF:=HC.out.next (w':=W1.setCell ⟨b14,0,none⟩ (.int .i64 (j+1:Nat))) (aO.out.store HC.out.low aj.out.MS aj.out.n14 0 _) (aU.out.DJ HC.out.new) (aj.out.set (j+1)) ah.out.1 (show j<j+1 by omega) (by omega) hc1 ((Fl.Gr.refl s).mono (by omega)) hr;rw[show((j+1:Nat):Int)=(j:Int)+1 from by omega]at bF;have ae:=eZ bF;clear bF hr aC aB hkd hraw hcj hx hxk hcl hroom hdl hko hc1 hmk aL aH qA qB hk0;go_wp2_with fail
    refine HM.out.mono ?_;rintro e wi ⟨rfl,rfl⟩;go_wp2_with fail
    refine ai.out.mono ?_;rintro e wi ⟨rfl,rfl⟩;clear HM ai;go_wp2_with fail
    go_step3
    refine⟨rfl,⟨j+1,false,b13,b14,_,_,⟨rfl,rfl,rfl,rfl,rfl,rfl,rfl,rfl,rfl,rfl,rfl,rfl,rfl,rfl,rfl,rfl,rfl,rfl⟩,ae⟩,?_⟩;have hnew:=ae.out.vars.c14.cell;have hold:=HC.out.vars.c14.cell;have hq1:=ae.out.pl;have hq2:=ah.out.1;show l.length-(intOf ((World.cell? _ ⟨b14,0,none⟩).getD undef)).toNat<l.length-(intOf ((World.cell? _ ⟨b14,0,none⟩).getD undef)).toNat
    rw[hnew,hold];show l.length-((j+1:Nat):Int).toNat<l.length-((p:Nat):Int).toNat
    omega
  have g7:((K:Int)==7)=false:=by simp;omega
  cases f with
  |true=>
   obtain⟨t1,t2,t3⟩:=Fl.qR (l:=l) (e:=l.length) (j:=j) (by rw[hkd];exact hk0) hcj (by rw[hkd];exact q7) (by rw[hkd];exact hen);have bG:=eZ (Ub rb tv l j W1 aO.out.rt aQ.out (by rw[hkd];exact hk0) hcj (by rw[hkd];exact q7) (by rw[hkd];exact hen));have hr:∀g,Fl.iI l l.length (Fl.iC l l.length d) n op (g+1) p true s=Fl.iI l l.length (Fl.iC l l.length d) n op g (Fl.jY l l.length j) true (Fl.o9 l s n j (Fl.jY l l.length j) 8):=λg=>by
    rw[Fl.iI,aG.out,hkd,eX hk0,eX hko,eX qC,eX q7,eY rfl]
   obtain⟨t,htd⟩:=fq (Fl.jY l l.length j);rw[htd]at t1 t2 t3 bG hr;have ak:=eZ (aC.out t (by omega) t2);have ax:=eZ (λw3 R3 h1 h2=>aB.out t w3 R3 true t1 t2 t3 h1 h2 hr);clear hr aC aB hkd hraw hcj hx hxk hcl hroom hdl hko hc1 hmk aL aH qA qB hk0 t3 htd qC hen;go_wp2_with fail
   refine HM.out.mono ?_;rintro e wi ⟨rfl,rfl⟩;go_wp2_with fail
   refine ai.out.mono ?_;rintro e wi ⟨rfl,rfl⟩;clear HM ai;go_wp2_with fail
   refine bG.out.mono ?_;rintro e wi ⟨rfl,rfl⟩;go_wp2_with fail
   refine(ak.out).mono ?_;rintro e w4 ⟨rfl,w3,R3,af,aa,rfl⟩;have ae:=eZ (ax.out w3 R3 af aa);clear af aa ax ak bG;go_wp2_with fail
   go_step3
   refine⟨rfl,⟨t,true,b13,b14,_,_,⟨rfl,rfl,rfl,rfl,rfl,rfl,rfl,rfl,rfl,rfl,rfl,rfl,rfl,rfl,rfl,rfl,rfl,rfl⟩,ae⟩,?_⟩;have hnew:=ae.out.vars.c14.cell;have hold:=HC.out.vars.c14.cell;have hq1:=ae.out.pl;have hq2:=ah.out.1;show l.length-(intOf ((World.cell? _ ⟨b14,0,none⟩).getD undef)).toNat<l.length-(intOf ((World.cell? _ ⟨b14,0,none⟩).getD undef)).toNat
   rw[hnew,hold];show l.length-((t:Nat):Int).toNat<l.length-((p:Nat):Int).toNat
   omega
  |false=>
   have aM:=eZ (WK w0 W1 rb tv l d s R bU.out aQ.out n j x aO.out hx (HC.out.sz.on ah.out.1 (fB _)) (by rw[hkd];exact hk0) hcj);rw[hxk]at aM;have gd:wrap64 (((d+1:Nat):Int)-1)=(d:Int):=by rw[show((d+1:Nat):Int)-1=(d:Int)by omega];exact uF _ (by omega)
   by_cases qF:0<Fl.key l l.length j\/Fl.begins (Fl.kd l l.length j)=true
   ·obtain⟨nx,s2,hp1,hp2,hp3,bQ,bR⟩:=Fl.JJ (Fl.iC l l.length d) (Fl.tO d) (Fl.raw l op==9) (c:=n) (j:=j) hcl (by rw[hkd];exact hk0) qF;rw[eY qF,hp1]at aM;have hr:∀g,Fl.iI l l.length (Fl.iC l l.length d) n op (g+1) p false s=Fl.iI l l.length (Fl.iC l l.length d) n op g nx true s2:=λg=>by
     rw[Fl.iI,aG.out,hkd,eX hk0,eX hko,eX qC,eX q7,eX (by decide),eY (by rw[<-hkd];exact qF),hp1]
    have aI:=eZ (aM.out.mono (show∀e w',_->Goes w0 W1 rb tv l R (.int .i64 nx) s2 e w' from λe w' ⟨a,b,h1,h2⟩=>by
     have h3:=congrArg Prod.fst h1;have h4:=congrArg Prod.snd h1;dsimp only at h3 h4;rw[h3,h4]at h2
     exact h2))
    have bS:=eZ (λw3 R3 (h1:RS w0 w3 rb tv l s2 R3)(h2:FP W1 w3 rb R R3)=>show Vars w3 rb b5 b13 b14 n j R3/\MU w0 w (w3.setCell ⟨b14,0,none⟩ (.int .i64 nx)) rb tv l R0 b5 b13 b14 n op d RES nx true s2 R3 from by
     have av:=aj.out.fp h2
     exact⟨av,HC.out.next (h1.store HC.out.low av.MS av.n14 0 _) ((aU.out.trans h2).DJ HC.out.new) (av.set nx) ah.out.1 hp2 hp3 bQ (bR.mono (by have:=ah.out.1;omega)) hr⟩)
    have cK:(j:Int)<(nx:Int):=by omega
    clear hr aC aB hkd hraw hcj hx hxk hcl hroom hdl hko hc1 hmk aL aH qA qB hk0 hp1 hp2 hp3 bQ bR qF qC hen aM;go_wp2_with fail
    refine HM.out.mono ?_;rintro e wi ⟨rfl,rfl⟩;go_wp2_with fail
    refine ai.out.mono ?_;rintro e wi ⟨rfl,rfl⟩;clear HM ai;go_wp2_with fail
    refine aI.out.mono ?_;rintro e w3 ⟨rfl,R3,af,aa⟩;obtain⟨av,bT⟩:=bS.out w3 R3 af aa;have k14:=av.c14.cell;have cO:=av.c14.free;have ae:=eZ bT;clear af aa bS av bT aI;go_wp2_with fail
    go_step3
    refine⟨rfl,⟨nx,true,b13,b14,_,_,⟨rfl,rfl,rfl,rfl,rfl,rfl,rfl,rfl,rfl,rfl,rfl,rfl,rfl,rfl,rfl,rfl,rfl,rfl⟩,ae⟩,?_⟩;have hnew:=ae.out.vars.c14.cell;have hold:=HC.out.vars.c14.cell;have hq1:=ae.out.pl;have hq2:=ah.out.1;show l.length-(intOf ((World.cell? _ ⟨b14,0,none⟩).getD undef)).toNat<l.length-(intOf ((World.cell? _ ⟨b14,0,none⟩).getD undef)).toNat
    rw[hnew,hold];show l.length-((nx:Nat):Int).toNat<l.length-((p:Nat):Int).toNat
    omega
   have hr:∀g,Fl.iI l l.length (Fl.iC l l.length d) n op (g+1) p false s=Fl.iI l l.length (Fl.iC l l.length d) n op g (j+1) false (Fl.o9 l s n j (j+1) 8):=λg=>by
    rw[Fl.iI,aG.out,hkd,eX hk0,eX hko,eX qC,eX q7,eX (by decide),eX (by rw[<-hkd];exact qF)]
   rw[eX qF]at aM
   have aI:=eZ (aM.out.mono (show∀e w',_->Goes w0 W1 rb tv l R (.int .i64 j) s e w' from λe w' ⟨a,b,h1,h2⟩=>by
    have h3:=congrArg Prod.fst h1;have h4:=congrArg Prod.snd h1;dsimp only at h3 h4;rw[h3,h4]at h2
    exact h2))
   have bq:=eZ (λw2 R2 (h1:RS w0 w2 rb tv l s R2)(h2:FP W1 w2 rb R R2)=>show Vars w2 rb b5 b13 b14 n j R2/\_ from⟨aj.out.fp h2,by have hV2:=aj.out.fp h2;have:=Ow w0 w2 rb tv l s R2 b5 b13 b14 n j (j+1) h1 hcl hroom hdl hjl (by omega) (by omega) hV2.c5 hV2.c13 hV2.c14 hV2.n14 hV2.MS;rw[show((j+1:Nat):Int)=(j:Int)+1 from by omega]at this;exact this⟩);have ax:=eZ (λw3 R3 h1 h2=>by have:=aB.out (j+1) w3 R3 false (by omega) (by omega) hc1 h1 h2 hr;rw[show((j+1:Nat):Int)=(j:Int)+1 from by omega]at this;exact this);clear hr aC aB hkd hraw hcj hx hxk hcl hroom hdl hko hc1 hmk aL aH qA qB hk0 qF qC hen aM;go_wp2_with fail
   refine HM.out.mono ?_;rintro e wi ⟨rfl,rfl⟩;go_wp2_with fail
   refine ai.out.mono ?_;rintro e wi ⟨rfl,rfl⟩;clear HM ai;go_wp2_with fail
   refine aI.out.mono ?_;rintro e w2 ⟨rfl,R2,hS2,hF2⟩;obtain⟨hV2,bz⟩:=bq.out w2 R2 hS2 hF2;have k5:=hV2.c5.cell;have k13:=hV2.c13.cell;have k14:=hV2.c14.cell;obtain⟨ak,bE⟩:=fT bz hF2;have cZ:¬(j:Int)<(j:Int):=by omega
   clear hS2 hF2 bq hV2 bz aI;go_wp2_with fail
   refine(ak.out).mono ?_;rintro e w4 ⟨rfl,w3,R3,af,aa,rfl⟩;have ae:=eZ (ax.out w3 R3 af (bE.out.trans aa));clear af aa ax ak;go_wp2_with fail
   go_step3
   refine⟨rfl,⟨j+1,false,b13,b14,_,_,⟨rfl,rfl,rfl,rfl,rfl,rfl,rfl,rfl,rfl,rfl,rfl,rfl,rfl,rfl,rfl,rfl,rfl,rfl⟩,ae⟩,?_⟩;have hnew:=ae.out.vars.c14.cell;have hold:=HC.out.vars.c14.cell;have hq1:=ae.out.pl;have hq2:=ah.out.1;show l.length-(intOf ((World.cell? _ ⟨b14,0,none⟩).getD undef)).toNat<l.length-(intOf ((World.cell? _ ⟨b14,0,none⟩).getD undef)).toNat
   rw[hnew,hold];show l.length-((j+1:Nat):Int).toNat<l.length-((p:Nat):Int).toNat
   omega
 intro hlab;have bA:=eZ hlab;clear hlab;rcases hk with hk|hk
 ·skip
  obtain rfl:KS=9:=by rw[<-aR.out,hk];rfl
  obtain rfl:OW=10:=by rw[<-HOW.out,hk];rfl
  have aN:=eZ (by have:=aF.out _ HB1.out;rw[hk]at this;exact this);have HA1:=eZ (HAdd.out _ HB1.out);obtain⟨w1,hw1⟩:=fq (w.alloc (.cells #[RP rb] 174));rw[hw1]at aN HA1;have k5:w1.cell? ⟨b5,0,none⟩=some (RP rb):=by rw[<-hw1,<-aY.out];exact at_new rfl
  have ay:=eZ hw1;clear hw1;go_wp2_with fail
  rw[ay.out];refine aN.out.mono ?_;rintro e wi ⟨rfl,rfl⟩;go_wp2_with fail
  refine HA1.out.mono ?_;rintro e w2 ⟨rfl,R,hS2,hF2⟩;clear k5;obtain⟨b13,az⟩:=fq (w2.heap.size);obtain⟨b14,aA⟩:=fq (w2.heap.size+1);obtain⟨W,hW⟩:=fq ((w2.alloc (.cells #[.int .i64 (n:Int)] 3)).alloc (.cells #[.int .i64 ((op:Int)+1)] 3));have HC:=eZ (aD.out w1 w2 W R b5 b13 b14 ay.out.symm aY.out.symm az.symm aA.symm hS2 hF2 (by rw[show((op+1:Nat):Int)=(op:Int)+1 from by omega];exact hW.symm));obtain⟨aW,aJ,aK⟩:=jF hW az aA;clear hS2 hF2 az aA hW aD HAdd HA1 aN aF HB1 aR;go_wp2_with fail
  go_step3
  rw[aW.out,aK.out,aJ.out];clear aW aJ aK ay;rename_i K hK;refine hK _ _ (bA.out _ _ ⟨op+1,false,b13,b14,_,_,⟨rfl,rfl,rfl,rfl,rfl,rfl,rfl,rfl,rfl,rfl,rfl,rfl,rfl,rfl,rfl,rfl,rfl,rfl⟩,HC⟩)
 skip
 obtain rfl:KS=10:=by rw[<-aR.out,hk];rfl
 obtain rfl:OW=11:=by rw[<-HOW.out,hk];rfl
 have aN:=eZ (by have:=aF.out _ HB1.out;rw[hk]at this;exact this);have HA1:=eZ (HAdd.out _ HB1.out);obtain⟨w1,hw1⟩:=fq (w.alloc (.cells #[RP rb] 174));rw[hw1]at aN HA1;have k5:w1.cell? ⟨b5,0,none⟩=some (RP rb):=by rw[<-hw1,<-aY.out];exact at_new rfl
 have ay:=eZ hw1;clear hw1;go_wp2_with fail
 rw[ay.out];refine aN.out.mono ?_;rintro e wi ⟨rfl,rfl⟩;go_wp2_with fail
 refine HA1.out.mono ?_;rintro e w2 ⟨rfl,R,hS2,hF2⟩;clear k5;obtain⟨b13,az⟩:=fq (w2.heap.size);obtain⟨b14,aA⟩:=fq (w2.heap.size+1);obtain⟨W,hW⟩:=fq ((w2.alloc (.cells #[.int .i64 (n:Int)] 3)).alloc (.cells #[.int .i64 ((op:Int)+1)] 3));have HC:=eZ (aD.out w1 w2 W R b5 b13 b14 ay.out.symm aY.out.symm az.symm aA.symm hS2 hF2 (by rw[show((op+1:Nat):Int)=(op:Int)+1 from by omega];exact hW.symm));obtain⟨aW,aJ,aK⟩:=jF hW az aA;clear hS2 hF2 az aA hW aD HAdd HA1 aN aF HB1 aR;go_wp2_with fail
 go_step3
 rw[aW.out,aK.out,aJ.out];clear aW aJ aK ay;rename_i K hK;refine hK _ _ (bA.out _ _ ⟨op+1,false,b13,b14,_,_,⟨rfl,rfl,rfl,rfl,rfl,rfl,rfl,rfl,rfl,rfl,rfl,rfl,rfl,rfl,rfl,rfl,rfl,rfl⟩,HC⟩)
end
namespace Pr
open Ar Fl
theorem Qm(l:List Tk)(en d i n:Nat)(hi:i<=en)(he:en<=n)(hn:n<=32768)(h1:(jd l en d 0 i ⟨gV n,[]⟩).1≠-1):
 (jd l en d 0 i ⟨gV n,[]⟩).1=1/\∃p0 r,(jd l en d 0 i ⟨gV n,[]⟩).2.2.t.drop 1=p0::r/\(∃tt:Nat,p0.t=(tt:Int))/\(jd l en d 0 i ⟨gV n,[]⟩).2.2.t.length=r.length+2/\r.length+2<=1+2*n/\
  ∀(j:Nat)(p:Nd),(p0::r)[j]?=some p->p.ks.length<=r.length+2/\(j=0\/0<=p.u)/\-1<=p.u/\p.u<=j/\∀z∈p.ks,0<=z/\z<=400000:=by
 obtain⟨hck,hf⟩:=rz n i hn;have h0:=ug (l:=l) (n:=(n:Int)) (by omega) d i _ hck hf (by omega) hi;have hp:=tO (l:=l) (e:=en) d (-1) i ⟨[],[]⟩ hi (by omega) (by show(-1:Int)<0;decide);rw[show(0:Int)=((0:Nat):Int)from rfl]at h1⊢;rcases h0 with⟨b1,b2⟩|⟨next,s',ps',b1,b2,b3,b4,b5,b6,b7,b8,b9,b10,b11,v,b12,b13⟩
 ·rw[b1]at h1;exact absurd rfl h1
 rw[b1];rw[b2]at hp;have hl:(gV (n:Int)).length=1:=rfl;rw[hl]at b9 b10;have hkb:KB ps'.q:=by
  rcases hp with⟨e1,_⟩|⟨nx,s1,e1,_,_,_,g,_⟩
  ·have:=congrArg Prod.fst e1;dsimp only at this;omega
  obtain⟨rfl,rfl⟩:=EP e1;exact g.kids (λi x h=>by simp at h)
 have ae:0<=v.t:=by
  unfold iH gV at b13;simp at b13;omega
 cases hq:ps'.q with
 |nil=>rw[hq]at b7;exact absurd b7 (by decide)
 |cons v' r=>
  rw[hq]at b12;obtain rfl:v'=v:=by simpa using b12
  have ht:s'.t=(addN (gV (n:Int)) ((0:Nat):Int) v'.k v'.f v'.t).1.take 1++shift ((0:Nat):Int) 1 (v'::r):=by
   rw[hq]at b8;have h2:(pJ (gV (n:Int)) ((0:Nat):Int) (v'::r)).1=(addN (gV (n:Int)) ((0:Nat):Int) v'.k v'.f v'.t).1.take 1++shift ((0:Nat):Int) 1 (v'::r):=by
    have e:pJ (gV (n:Int)) ((0:Nat):Int) (v'::r)=if iH (gV (n:Int)) ((0:Nat):Int) v'.k v'.f v'.t=true then((addN (gV (n:Int)) ((0:Nat):Int) v'.k v'.f v'.t).1.take (gV (n:Int)).length++shift ((0:Nat):Int) (gV (n:Int)).length (v'::r),((gV (n:Int)).length:Int))else(gV (n:Int),-1):=rfl
    rw[e,eY b13];rfl
   rw[b8]at h2;exact h2
  have htk:((addN (gV (n:Int)) ((0:Nat):Int) v'.k v'.f v'.t).1.take 1).length=1:=by
   have h3:=congrArg List.length ht;rw[iJ,jC,b9,hq]at h3;omega
  have hdr:s'.t.drop 1=shift ((0:Nat):Int) 1 (v'::r):=by
   rw[ht];exact List.drop_left' htk
  obtain⟨p0,r',hpr⟩:∃p0 r',shift ((0:Nat):Int) 1 (v'::r)=p0::r':=by
   cases h:shift ((0:Nat):Int) 1 (v'::r)with
   |nil=>have:=congrArg List.length h;rw[jC]at this;simp at this
   |cons a b=>exact⟨a,b,rfl⟩
  have hr':r'.length=r.length:=by
   have:=congrArg List.length hpr;rw[jC,jh,jh]at this;omega
  have hlen:s'.t.length=r'.length+2:=by rw[b9,hq,jh,hr'];omega
  refine⟨rfl,p0,r',by rw[<-hpr];exact hdr,⟨v'.t.toNat,?_⟩,hlen,by omega,λj p hj=>?_⟩
  ·have h4:(shift ((0:Nat):Int) 1 (v'::r))[0]?=some p0:=by rw[hpr];rfl
   rw[lW _ _ _ _ v' rfl]at h4;injection h4 with h4
   rw[<-h4];show v'.t=_;omega
  have hg:=b5.ck.good;have hj1:s'.t[j+1]?=some p:=by
   have:(s'.t.drop 1)[j]?=some p:=by rw[hdr,hpr];exact hj
   rw[sJ,Nat.add_comm]at this;exact this
  have hu:=hg.up (j+1) p hj1;have hjl:=(gD.1 hj).1;rw[<-hpr,jC]at hjl;obtain⟨x,hx⟩:=jB (v'::r) j hjl;have hxp:some p=some _:=(hpr▸hj:(shift ((0:Nat):Int) 1 (v'::r))[j]?=some p).symm.trans (lW ((0:Nat):Int) 1 (v'::r) j x hx);injection hxp with hxp
  have aa:ps'.q[j]?=some x:=by rw[hq];exact hx
  have af:=b11 j x aa;have hk:=hkb j x aa;rw[hq,jh]at hk;refine⟨?_,?_,hu.1,by omega,λz hz=>?_⟩
  ·rw[hxp];show(x.ks.map _).length<=_;rw[jD];omega
  ·by_cases e:j=0
   ·exact .inl e
   refine .inr ?_;rw[hxp];show 0<=(if j=0 then _ else x.u+((1:Nat):Int));rw[eX e];omega
  have:=hg.kid (j+1) p hj1 z hz;omega
end Pr
end Go.Proofs.YtmkkdjpebbdikaaGreatDoor

import Derived.Test.YtmkkdjpebbdikaaGreatDoorZb16
set_option linter.all false
set_option maxHeartbeats 16000000
set_option maxRecDepth 100000
namespace Go.Proofs.YtmkkdjpebbdikaaGreatDoor
open Go.RowKit Tryz
section
open Go.RowKit
open Sq
open Ar
theorem H6{l:List Tk}{p m:Nat}(hm:m<=p)(h0:0<p)(hc:Fl.cnt (Fl.raw l (p-1))=true):∀j,p<=j->(∀k,p<=k->k<j->Fl.cnt (Fl.raw l k)=false)->Fl.back l j m=p
 |0=>λh _=>dS
 |j+1=>λh hk=>by
  by_cases e:p=j+1
  ·subst e;exact Fl.nL l _ m h0 hc
  ·rw[Fl.back,dX ⟨dS,hk j dS dS⟩];exact H6 hm h0 hc j dS (λk h1 h2=>hk k h1 dS)
structure Vars(wr:World)(rb b5 b13 b14 c p:Nat)(R:Nat->Prop):Prop where
 c5:Cap wr b5 (RP rb) 174
 c13:Cap wr b13 (.int .i64 c) 3
 c14:Cap wr b14 (.int .i64 p) 3
 n5:¬R b5
 n13:¬R b13
 n14:¬R b14
 r5:b5≠rb
 r13:b13≠rb
 XC:b14≠rb
 e5:b5≠b14
 e13:b13≠b14
theorem Vars.fp{wr w':World}{rb b5 b13 b14 c p:Nat}{R R':Nat->Prop}(h:Vars wr rb b5 b13 b14 c p R)(hF:FP wr w' rb R R'):Vars w' rb b5 b13 b14 c p R':=by
 obtain⟨a1,a2⟩:=h.c5.fp hF h.r5 h.n5;obtain⟨a3,a4⟩:=h.c13.fp hF h.r13 h.n13;obtain⟨a5,a6⟩:=h.c14.fp hF h.XC h.n14;exact⟨a1,a3,a5,a2,a4,a6,h.r5,h.r13,h.XC,h.e5,h.e13⟩
theorem Vars.set{wr:World}{rb b5 b13 b14 c p:Nat}{R:Nat->Prop}(h:Vars wr rb b5 b13 b14 c p R)(q:Nat):Vars (wr.setCell ⟨b14,0,none⟩ (.int .i64 q)) rb b5 b13 b14 c q R:=
 ⟨h.c5.far h.e5,h.c13.far h.e13,h.c14.set _,h.n5,h.n13,h.n14,h.r5,h.r13,h.XC,h.e5,h.e13⟩
theorem FP.Kq{w wr:World}{rb b o:Nat}{R R':Nat->Prop}{u:Value}(h:FP w wr rb R R')(hb:w.heap.size<=b):FP w (wr.setCell ⟨b,o,none⟩ u) rb R R' :=
 ⟨by simpa using h.size,λk hk hr hn=>(jo _ _ _ _ (λe=>by have e:k=b:=e;omega)).trans (h.block k hk hr hn),h.rows⟩
structure XE(w0 w wr:World)(rb:Nat)(tv:Value)(l:List Tk)(R0:Nat->Prop)(b5 b13 b14 c op d:Nat)(RES:Nat×Fl.fF)(p:Nat)(f:Bool)(s:Fl.fF)(R:Nat->Prop):Prop where
 rs:RS w0 wr rb tv l s R
 fp:FP w wr rb R0 R
 vars:Vars wr rb b5 b13 b14 c p R
 low:w0.heap.size<=b14
 new:w.heap.size<=b14
 res:∃g,l.length-p<g/\Fl.iN l l.length (Fl.iw l l.length d) c op g p f s=RES
 sq:s.q.length+2*(l.length-p)+(d+1)<=400000
 sd:s.d.length+(l.length-p)+1<=400000
 kb:Fl.KB s.q
 nd:∃x,s.q[c]?=some x/\(x.k==10)=(Fl.raw l op==9)
 opp:op<p
 pl:p<=l.length
 cn:Fl.cnt (Fl.raw l (p-1))=true
section
variable {w0 w wr w':World}{rb:Nat}{tv:Value}{l:List Tk}{R0 R R':Nat->Prop}{b5 b13 b14 c op d p:Nat}{RES:Nat×Fl.fF}{f:Bool}{s:Fl.fF}
theorem XE.sz(h:XE w0 w wr rb tv l R0 b5 b13 b14 c op d RES p f s R):Sz l s p (d+1):=⟨h.sq,by have:=h.sd;omega,h.kb⟩
theorem XE.next(h:XE w0 w wr rb tv l R0 b5 b13 b14 c op d RES p f s R){j q:Nat}{f':Bool}{s':Fl.fF}(hS:RS w0 w' rb tv l s' R')(hF:FP w w' rb R0 R')(hV:Vars w' rb b5 b13 b14 c q R')(ae:p<=j)(hjq:j<q)(aa:q<=l.length)(hcn:Fl.cnt (Fl.raw l (q-1))=true)
 (hg:Fl.Gr s s' (q-p)) (hr:∀g,Fl.iN l l.length (Fl.iw l l.length d) c op (g+1) p f s=Fl.iN l l.length (Fl.iw l l.length d) c op g q f' s'):XE w0 w w' rb tv l R0 b5 b13 b14 c op d RES q f' s' R':=by
 obtain⟨g,hg1,hg2⟩:=h.res;obtain⟨x,hx1,hx2⟩:=h.nd;obtain⟨x',hx3,hx4⟩:=hg.kinds c x hx1;obtain⟨g',rfl⟩:∃g',g=g'+1:=⟨g-1,dS⟩
 rw[hr]at hg2;exact⟨hS,hF,hV,h.low,h.new,⟨g',dS,hg2⟩,by have:=h.sq;have:=hg.len;omega,by have:=h.sd;have:=hg.dl;omega,hg.kids h.kb,⟨x',hx3,by rw[hx4];exact hx2⟩,by have:=h.opp;omega,aa,hcn⟩
theorem XE.step(h:XE w0 w wr rb tv l R0 b5 b13 b14 c op d RES p f s R):∃g,Fl.iN l l.length (Fl.iw l l.length d) c op (g+1) p f s=RES:=by
 obtain⟨g,hg1,hg2⟩:=h.res;obtain⟨g',rfl⟩:∃g',g=g'+1:=⟨g-1,dS⟩
 exact⟨g',hg2⟩
end
end
section
open Go.RowKit
open Sq
open Ar
open Fl (kx)
def akT:Value->Nat
 | .pointer (some a)=>a.block
 |_=>0
theorem CZ(t:Array Value)(n:Nat)(h:t.size=n):t=((List.range n).map (λk=>t.getD k undef)).toArray:=by
 subst h;apply Array.ext
 ·simp
 ·intro i h1 h2;simp[Array.getD,h1]
def Yj(rb i0 op d b5 KS OW b13 b14:Nat)(up:Int)(f:Bool)(a:Act):Prop:=
 a.defers=[]/\a.tmps.size=99/\a.tmps.getD 0 undef=RP rb/\a.tmps.getD 1 undef=.int .i64 up/\a.tmps.getD 2 undef=.int .i64 i0/\a.tmps.getD 3 undef=.int .i64 op/\a.tmps.getD 4 undef=.int .i64 ((d:Int)+1)/\a.tmps.getD 5 undef=.pointer (some ⟨b5,0,none⟩)/\a.tmps.getD 6 undef=undef/\a.tmps.getD 7 undef=undef/\a.tmps.getD 8 undef=undef/\a.tmps.getD 9 undef=undef/\a.tmps.getD 11 undef=.int .i64 KS/\a.tmps.getD 12 undef=.int .i64 OW/\a.tmps.getD 13 undef=.pointer (some ⟨b13,0,none⟩)/\a.tmps.getD 14 undef=.pointer (some ⟨b14,0,none⟩)/\a.tmps.getD 15 undef=.bool f/\a.tmps.getD 16 undef=.func (.func 171) #[] #[.pointer (some ⟨b5,0,none⟩),.pointer (some ⟨b13,0,none⟩),.pointer (some ⟨b14,0,none⟩)]
theorem Yj.is{rb i0 op d b5 KS OW b13 b14:Nat}{up:Int}{f:Bool}{a:Act}(h:Yj rb i0 op d b5 KS OW b13 b14 up f a):∃u:Nat->Value,a={tmps:=#[RP rb,.int .i64 up,.int .i64 i0,.int .i64 op,.int .i64 ((d:Int)+1),.pointer (some ⟨b5,0,none⟩),undef,undef,undef,undef,u 10,.int .i64 KS,.int .i64 OW,.pointer (some ⟨b13,0,none⟩),.pointer (some ⟨b14,0,none⟩),.bool f,.func (.func 171) #[] #[.pointer (some ⟨b5,0,none⟩),.pointer (some ⟨b13,0,none⟩),.pointer (some ⟨b14,0,none⟩)],u 17,u 18,u 19,u 20,u 21,u 22,u 23,u 24,u 25,u 26,u 27,u 28,u 29,u 30,u 31,u 32,u 33,u 34,u 35,u 36,u 37,u 38,u 39,u 40,u 41,u 42,u 43,u 44,u 45,u 46,u 47,u 48,u 49,u 50,u 51,u 52,u 53,u 54,u 55,u 56,u 57,u 58,u 59,u 60,u 61,u 62,u 63,u 64,u 65,u 66,u 67,u 68,u 69,u 70,u 71,u 72,u 73,u 74,u 75,u 76,u 77,u 78,u 79,u 80,u 81,u 82,u 83,u 84,u 85,u 86,u 87,u 88,u 89,u 90,u 91,u 92,u 93,u 94,u 95,u 96,u 97,u 98],defers:=[]}:=by
 obtain⟨t,d⟩:=a;obtain⟨h1,h2,g0,g1,g2,g3,g4,g5,g6,g7,g8,g9,g11,g12,g13,g14,g15,g16⟩:=h;dsimp only at h1 h2 g0 g1 g2 g3 g4 g5 g6 g7 g8 g9 g11 g12 g13 g14 g15 g16;subst h1;refine⟨λk=>t.getD k undef,?_⟩;have h3:=CZ t 99 h2;have h4:(List.range 99).map (λk=>t.getD k undef)=[t.getD 0 undef,t.getD 1 undef,t.getD 2 undef,t.getD 3 undef,t.getD 4 undef,t.getD 5 undef,t.getD 6 undef,t.getD 7 undef,t.getD 8 undef,t.getD 9 undef,t.getD 10 undef,t.getD 11 undef,t.getD 12 undef,t.getD 13 undef,t.getD 14 undef,t.getD 15 undef,t.getD 16 undef,t.getD 17 undef,t.getD 18 undef,t.getD 19 undef,t.getD 20 undef,t.getD 21 undef,t.getD 22 undef,t.getD 23 undef,t.getD 24 undef,t.getD 25 undef,t.getD 26 undef,t.getD 27 undef,t.getD 28 undef,t.getD 29 undef,t.getD 30 undef,t.getD 31 undef,t.getD 32 undef,t.getD 33 undef,t.getD 34 undef,t.getD 35 undef,t.getD 36 undef,t.getD 37 undef,t.getD 38 undef,t.getD 39 undef,t.getD 40 undef,t.getD 41 undef,t.getD 42 undef,t.getD 43 undef,t.getD 44 undef,t.getD 45 undef,t.getD 46 undef,t.getD 47 undef,t.getD 48 undef,t.getD 49 undef,t.getD 50 undef,t.getD 51 undef,t.getD 52 undef,t.getD 53 undef,t.getD 54 undef,t.getD 55 undef,t.getD 56 undef,t.getD 57 undef,t.getD 58 undef,t.getD 59 undef,t.getD 60 undef,t.getD 61 undef,t.getD 62 undef,t.getD 63 undef,t.getD 64 undef,t.getD 65 undef,t.getD 66 undef,t.getD 67 undef,t.getD 68 undef,t.getD 69 undef,t.getD 70 undef,t.getD 71 undef,t.getD 72 undef,t.getD 73 undef,t.getD 74 undef,t.getD 75 undef,t.getD 76 undef,t.getD 77 undef,t.getD 78 undef,t.getD 79 undef,t.getD 80 undef,t.getD 81 undef,t.getD 82 undef,t.getD 83 undef,t.getD 84 undef,t.getD 85 undef,t.getD 86 undef,t.getD 87 undef,t.getD 88 undef,t.getD 89 undef,t.getD 90 undef,t.getD 91 undef,t.getD 92 undef,t.getD 93 undef,t.getD 94 undef,t.getD 95 undef,t.getD 96 undef,t.getD 97 undef,t.getD 98 undef]:=rfl;rw[h4,g0,g1,g2,g3,g4,g5,g6,g7,g8,g9,g11,g12,g13,g14,g15,g16]at h3;exact congrArg (λt=>({tmps:=t,defers:=[]}:Act)) h3
theorem RT.drew{w:World}{rb:Nat}{tv:Value}{l:List Tk}(h:RT w rb tv l):RT w.drew rb tv l:=⟨h.cell,h.reads.below (fD _ w).drew,h.size⟩
theorem Ol(w0 w:World)(rb:Nat)(tv:Value)(l:List Tk)(d:Nat)(s0:Fl.fF)(R0:Nat->Prop)(hV:Vk w0 rb tv l d)(hT:oV l)(up:Int)(i0 op:Nat)(hS:RS w0 w rb tv l s0 R0)(hu1:-1<=up)(hu2:up<s0.q.length)(hz:Sz l s0 op (d+1))(hop:op<l.length)(hk:Fl.raw l op=8\/Fl.raw l op=9)(hds:d<=1000):
 Calls prog 158 #[RP rb,.int .i64 up,.int .i64 i0,.int .i64 op,.int .i64 (d+1:Nat)] w
  (Goes w0 w rb tv l R0 (.int .i64 (Fl.iN l l.length (Fl.iw l l.length d) s0.q.length op (l.length-op) (op+1) false ⟨Fl.iq s0.q up (if Fl.raw l op=9 then 10 else 9) i0,s0.d⟩).1)
   (Fl.iN l l.length (Fl.iw l l.length d) s0.q.length op (l.length-op) (op+1) false ⟨Fl.iq s0.q up (if Fl.raw l op=9 then 10 else 9) i0,s0.d⟩).2):=by
 obtain⟨KS,aG⟩:∃KS:Nat,(if Fl.raw l op=9 then 10 else 9)=KS:=⟨_,rfl⟩
 obtain⟨OW,aN⟩:∃OW:Nat,(if Fl.raw l op=9 then 11 else 10)=OW:=⟨_,rfl⟩
 have aI:OW=10\/OW=11:=by rw[<-aN];split<;>omega
 rw[aG];obtain⟨RES,aA⟩:=eu (Fl.iN l l.length (Fl.iw l l.length d) s0.q.length op (l.length-op) (op+1) false ⟨Fl.iq s0.q up KS i0,s0.d⟩);rw[aA];have hls:=hS.rt.size;have aJ:Fl.cnt (Fl.raw l op)=true:=by rcases hk with h|h<;>rw[h]<;>rfl
 obtain⟨HOW,aT,tH,bB⟩:=oK aN aI hT hV;have bG:op<100000:=dS
 obtain⟨n,hn⟩:=eu (s0.q.length)
 have aia:=dY (fun(w1 w2 W:World)(R1:Nat->Prop)(b5 b13 b14:Nat)(h1:w1=w.alloc (.cells #[RP rb] 174))(h5:b5=w.heap.size)(bC:b13=w2.heap.size)(bD:b14=w2.heap.size+1)
  (hS1:RS w0 w2 rb tv l ⟨Fl.iq s0.q up KS i0,s0.d⟩ R1) (hF1:FP w1 w2 rb R0 R1) (hW:W=(w2.alloc (.cells #[.int .i64 (n:Int)] 3)).alloc (.cells #[.int .i64 (op+1:Nat)] 3))=>
  show XE w0 w W rb tv l R0 b5 b13 b14 n op d RES (op+1) false ⟨Fl.iq s0.q up KS i0,s0.d⟩ R1 from by
   have hb1:Below w.heap.size w w1:=by rw[h1];exact dZ w _
   have hb2:Below w2.heap.size w2 W:=by rw[hW];exact gD (dZ w2 _) _
   have hF2:FP w w2 rb R0 R1:=(FP.below hb1).trans hF1;have hs1:w1.heap.size=w.heap.size+1:=by rw[h1];exact size_alloc _ _
   have hsz:=hF1.size;have hlt:=hS1.lt;have k5:Cap w1 b5 (RP rb) 174:=by rw[h5,h1];exact lz _ _
   have n5:¬R0 b5:=λh=>by have:=(hS.rows h).2.1;omega
   have r5:b5≠rb:=by have:=hS.lt.2;omega
   obtain⟨q5,m5⟩:=k5.fp hF1 r5 n5;have k13:Cap (w2.alloc (.cells #[.int .i64 (n:Int)] 3)) b13 (.int .i64 n) 3:=by rw[bC];exact lz _ _
   have aU:Cap W b13 (.int .i64 n) 3:=by rw[hW];exact((dZ _ _).block b13 k13.lt).trans k13
   have k14:Cap W b14 (.int .i64 (op+1:Nat)) 3:=by
    rw[hW,bD];have:=lz (w2.alloc (.cells #[.int .i64 (n:Int)] 3)) (.cells #[.int .i64 (op+1:Nat)] 3);rw[size_alloc]at this;exact this
   have hw0:=hS1.kL.size;refine⟨hS1.below hb2,hF2.trans (FP.below hb2),⟨(hb2.block b5 q5.lt).trans q5,aU,k14,m5,λh=>by have:=(hS1.rows h).2.1;omega,λh=>by have:=(hS1.rows h).2.1;omega,r5,dS,dS,?_,dS⟩,dS,dS,⟨l.length-op,dS,by rw[<-hn];exact aA⟩,?_,?_,Fl.Bh hz.kb up KS i0 hu2,⟨_,by rw[<-hn];exact Fl.nz s0.q up KS i0 hu2,?_⟩,dS,dS,by rw[lW];exact aJ⟩
   ·have:=q5.lt;omega
   ·show(Fl.iq s0.q up KS i0).length+_+_<=_;rw[Fl.iM];have:=hz.q;omega
   ·show s0.d.length+_+1<=_;have:=hz.d;omega
   ·show((KS:Int)==10)=_;rw[<-aG]
    rcases hk with h|h<;>rw[h]<;>rfl)
 have HAdd:=dY (λw1 (h:Below w.heap.size w w1)=>by have:=aeV w0 w1 rb tv l s0 R0 up KS i0 (hS.below h) hu1 hu2 (by have:=hz.q;omega) hz.room.kids;rw[hn]at this;exact this);have HB1:=dY (dZ w (.cells #[RP rb] 174));have ahX:=dY (λw1 (h:Below w.heap.size w w1)=>by have:=(hS.below h).rt.kind op dS;rw[show kx l op=Fl.raw l op from by unfold Fl.kx;rw[dX hop]]at this;exact this);have HKS:=dY aG;obtain⟨b5,hb5⟩:=eu (w.heap.size);have tY:=dY hb5;clear hV hT hS hu1 hu2 hz hop aA hn aG aN aI aJ;obtain⟨yo,TE⟩:=fw hls hds;clear hls hds;obtain⟨Q,hQ⟩:=eu (Goes w0 w rb tv l R0 (.int .i64 RES.1) RES.2);have HQ:=dY (fun(w3:World)(R3:Nat->Prop)(k:Nat)(hk:k=RES.1)(h1:RS w0 w3 rb tv l RES.2 R3)(h2:FP w w3 rb R0 R3)=>show Q (.returned (.int .i64 k)) w3 by rw[<-hQ,hk];exact⟨rfl,R3,h1,h2⟩);rw[hQ];clear hQ
 go_enter func158,ntmps158
 go_wp2;refine sV 0 (λa' w'=>∃(p:Nat)(f:Bool)(b13 b14:Nat)(s:Fl.fF)(R:Nat->Prop),Yj rb i0 op d b5 KS OW b13 b14 up f a'/\Hid (XE w0 w w' rb tv l R0 b5 b13 b14 n op d RES p f s R))
  (λa' w'=>l.length-(intOf ((w'.cell? ⟨akT (a'.tmps.getD 14 undef),0,none⟩).getD undef)).toNat) rfl ?_ ?_
 ·rintro a' W ⟨p,f,b13,b14,s,R,hlive,HC⟩;obtain⟨u,rfl⟩:=hlive.is;clear hlive aia HAdd HB1 ahX HKS hk;have hls:=yo.out;have hds:=TE.out;have aa:=HC.out;have ht:=Fl.iW (l:=l) (e:=l.length) (i:=p) aa.pl;have aB:=λk (h1:p<=k)(h2:k<Fl.fI l l.length p)=>Fl.kP (λj=>!Fl.cnt (Fl.raw l j)) (l.length-p) p k h1 h2
  have hstop:=Fl.ma (λj=>!Fl.cnt (Fl.raw l j)) (l.length-p) p;have hst:=aa.step;have hI:=aa.rs.rt.idle p aa.pl;obtain⟨j,hj⟩:=eu (Fl.fI l l.length p);have hj2:Fl.iy (λj=>!Fl.cnt (Fl.raw l j)) (l.length-p) p=j:=hj;rw[hj]at ht aB hI;rw[hj2]at hstop;have c5:=aa.vars.c5.cell;have c14:=aa.vars.c14.cell;have f14:=aa.vars.c14.free;have hS1:=aa.rs.store aa.low aa.vars.XC aa.vars.n14 0 (.int .i64 j);have hF1:=aa.fp.Kq aa.new (o:=0) (u:=.int .i64 j);have hV1:=aa.vars.set j;obtain⟨W1,hW1⟩:=eu (W.setCell ⟨b14,0,none⟩ (.int .i64 j));rw[hW1]at hS1 hF1 hV1;have x5:(W.setCell ⟨b14,0,none⟩ (.int .i64 j)).cell? ⟨b5,0,none⟩=some (RP rb):=by rw[hW1];exact hV1.c5.cell
  have aV:(W.setCell ⟨b14,0,none⟩ (.int .i64 j)).cell? ⟨b14,0,none⟩=some (.int .i64 j):=by rw[hW1];exact hV1.c14.cell
  obtain⟨HK,HI⟩:=fw (hS1.rt.kind j ht.2) hI;have d5:=hV1.c5.cell;have d13:=hV1.c13.cell;have d14:=hV1.c14.cell;have e14:=hV1.c14.free;have hkd:=Fl.GR ht.2;have hk0:=Rf tH.out j;obtain⟨K,hK⟩:=eu (kx l j);rw[hK]at HK hkd hk0;have hjs:j<=100000:=dS
  have hps:p<=100000:=by have:=aa.pl;omega
  have hkl:K≠21->j<l.length:=λh=>by
   rw[<-hK]at h;unfold Fl.kx at h;split at h
   ·assumption
   ·exact absurd rfl h
  obtain⟨aW,aO,aH,aK,Pt,aj⟩:=kG hkl aB hstop hst ht hj;obtain⟨aC,aX,az,aD,ae,HW1⟩:=kG hkd hk0 hS1 hF1 hV1 hW1;have hkr:K≠20->K≠21->Fl.raw l j=K:=λh1 h2=>by
   have:=Fl.ji (l:=l) (e:=l.length) (i:=j) (by rw[hkd,dW (λh=>h.elim h1 h2)];exact hk0);rw[this.2,hkd,dW (λh=>h.elim h1 h2)]
  have aY:=dY hkr;clear aa ht aB hstop hst hI hj hj2 hS1 hF1 hV1 hW1 hkd hk0 hkl hK hkr hls;go_wp2_with fail
  refine HI.out.mono ?_;rintro e wi ⟨rfl,rfl⟩;clear HI c5;go_wp2_with fail
  rw[HW1.out];clear HW1 c14 f14 x5 aV;refine HK.out.mono ?_;rintro e wi ⟨rfl,rfl⟩;clear HK;by_cases qA:K=OW
  ·have gA:((K:Int)==(OW:Int))=true:=by simp;omega
   obtain⟨g,hg⟩:=aK.out;have hko:K≠0/\K≠20/\K≠21:=by have:=aT.out;omega
   rw[Fl.iN,aj.out,aC.out,dW (λh:K=20\/K=21=>h.elim hko.2.1 hko.2.2),dW hko.1,dX (by rw[HOW.out];exact qA)]at hg;obtain⟨x,hx,-⟩:=HC.out.nd;have HR:=dY (En w0 W1 rb tv l s R n (j+1) az.out (eY.1 hx).1 (by have:=HC.out.sq;omega));rw[show((j+1:Nat):Int)=(j:Int)+1 from dS]at HR;have HE:=dY hg;clear hg hko qA hx;go_wp2_with fail
   refine HR.out.mono ?_;rintro e w3 ⟨rfl,R3,jV,ku⟩;have HD:=dY (HQ.out w3 R3 (j+1) (by rw[<-HE.out]) (by rw[<-HE.out];exact jV) (aD.out.trans ku));rw[show((j+1:Nat):Int)=(j:Int)+1 from dS]at HD;clear jV ku HR HE;go_wp2_with fail
   exact ll
  have gA:((K:Int)==(OW:Int))=false:=eQ
  have HM:=dY (Ye K W1);by_cases qB:K=20\/K=21
  ·have hmk:Fl.mk K=true:=by rcases qB with rfl|rfl<;>rfl
   rw[hmk]at HM;obtain⟨g,hg⟩:=aK.out;have hbk:=Fl.nL l p (op+1) Jt HC.out.cn;rw[Fl.iN,aj.out,aC.out,dX qB,dX rfl,hbk]at hg;have aZ:=H6 (m:=op+1) Jt Jt HC.out.cn j Pt.out.1 (λk h1 h2=>by simpa using aO.out k h1 h2);have aF:op<l.length:=by have:=HC.out.opp;have:=HC.out.pl;omega
   have aP:=dY (ahh w0 W1 rb tv l s R 9 op op az.out aF aF (by have:=HC.out.sd;omega));rw[show((op+1:Nat):Int)=(op:Int)+1 from dS]at aP;obtain⟨x,hx,-⟩:=HC.out.nd;have hcl:=(eY.1 hx).1;have HR:=dY (λw2 R2 (h:RS w0 w2 rb tv l ⟨s.q,s.d++[⟨9,Fl.kW l op,Fl.too l op⟩]⟩ R2)=>En w0 w2 rb tv l ⟨s.q,s.d++[⟨9,Fl.kW l op,Fl.too l op⟩]⟩ R2 n p h hcl (by have:=HC.out.sq;show s.q.length<=_;omega));have bE:=dY (λwx (h:RT wx rb tv l)=>by have:=h.counted j (op+1) Pt.out.2 dS (by have:=HC.out.opp;have:=Pt.out.1;omega) ⟨p,Jt,Pt.out.1,HC.out.cn⟩;rw[aZ]at this;exact this);have HE:=dY hg;clear hg hmk hbk aZ aF hx hcl qB qA;go_wp2_with fail
   refine HM.out.mono ?_;rintro e wi ⟨rfl,rfl⟩;go_wp2_with fail
   refine aP.out.mono ?_;rintro e w2 ⟨rfl,R2,hS2,hF2⟩;have hV2:=ae.out.fp hF2;have v5:=hV2.c5.cell;have v13:=hV2.c13.cell;have v14:=hV2.c14.cell;have bf:=hS2.rt;have bF:=dY (HR.out w2.drew R2 (hS2.below (fD _ w2).drew));have aQ:=dY (aD.out.trans hF2);clear hS2 hF2 hV2 aP HR HM d5 d13 d14 e14;go_wp2_with fail
   have bg:=dY ((bE.out w2.drew bf.drew).mono (show∀e w',_->e=.returned (.int .i64 p)/\w'=w2.drew from λe w' h=>⟨h.1,h.2.symm⟩));have x5:w2.drew.cell? ⟨b5,0,none⟩=some (RP rb):=v5;have bH:w2.drew.cell? ⟨b13,0,none⟩=some (.int .i64 (n:Int)):=v13;have aV:w2.drew.cell? ⟨b14,0,none⟩=some (.int .i64 (j:Int)):=v14;refine ik 5 dV dV ?_;simp only[vJ,vT,xB,lM]
   repeat (go_big_quiet_step (exact bg.out _))
   refine LP ?_;go_wp2_with fail
   refine bF.out.mono ?_;rintro e w3 ⟨rfl,R3,jV,ku⟩;have HD:=dY (HQ.out w3 R3 p (by rw[<-HE.out]) (by rw[<-HE.out];exact jV) (aQ.out.trans ((FP.below (fD _ w2).drew).trans ku)));clear jV ku;go_wp2_with fail
   exact ll
  have hmk:Fl.mk K=false:=by unfold Fl.mk;simp;omega
  rw[hmk]at HM;have ax:K≠20:=λh=>qB (.inl h)
  have ak:K≠21:=λh=>qB (.inr h)
  have hjl:=aW.out ak;have hkd:=aC.out;rw[dW qB]at hkd;have hraw:=aY.out ax ak;have hcj:Fl.cnt (Fl.raw l j)=true:=by
   rcases aH.out with h|h
   ·have:=HC.out.pl;omega
   ·simpa using h
  obtain⟨x,hx,hxk⟩:=HC.out.nd;have hcl:=(eY.1 hx).1;have hroom:Room s:=HC.out.sz.room;have hdl:s.d.length<900000:=by have:=HC.out.sd;omega
  have hko:¬K=(if Fl.raw l op=9 then 11 else 10):=by rw[HOW.out];exact qA
  have ai:=dY (fun(t:Nat)(h1:0<t)(h2:t<=l.length)=>abp w0 W1 rb tv l s R b5 b13 b14 n j t az.out hcl hroom hdl hjl h1 h2 ae.out.c5 ae.out.c13 ae.out.c14 ae.out.n14 ae.out.XC);have hk0:=aX.out
  have TC:=dY (fun(t:Nat)(w3:World)(R3:Nat->Prop)(f':Bool)(h1:j<t)(h2:t<=l.length)(hcn:Fl.cnt (Fl.raw l (t-1))=true)(jV:RS w0 w3 rb tv l (Fl.rQ l s n j t 8) R3)(ku:FP W1 w3 rb R R3)
   (hr:∀g,Fl.iN l l.length (Fl.iw l l.length d) n op (g+1) p f s=Fl.iN l l.length (Fl.iw l l.length d) n op g t f' (Fl.rQ l s n j t 8))=>
   show XE w0 w (w3.setCell ⟨b14,0,none⟩ (.int .i64 t)) rb tv l R0 b5 b13 b14 n op d RES t f' (Fl.rQ l s n j t 8) R3 from by
    have ag:=ae.out.fp ku
    refine HC.out.next (jV.store HC.out.low ag.XC ag.n14 0 _) ((aD.out.trans ku).Kq HC.out.new) (ag.set t) Pt.out.1 h1 h2 hcn ((Fl.Ra l s n j t 8 dS).mono (by have:=Pt.out.1;omega)) hr)
  have hc1:Fl.cnt (Fl.raw l (j+1-1))=true:=by rw[lW];exact hcj
  have yN:=dY (aky K W1);by_cases qC:Fl.ends K=true
  ·rw[qC]at yN;have hr:∀g,Fl.iN l l.length (Fl.iw l l.length d) n op (g+1) p f s=Fl.iN l l.length (Fl.iw l l.length d) n op g (j+1) f (Fl.rQ l s n j (j+1) 8):=λg=>by
    rw[Fl.iN,aj.out,hkd,dW hk0,dW hko,dX qC]
   have af:=dY (ai.out (j+1) dS dS);rw[show((j+1:Nat):Int)=(j:Int)+1 from dS]at af;have ah:=dY (λw3 R3 h1 h2=>by have:=TC.out (j+1) w3 R3 f dS dS hc1 h1 h2 hr;rw[show((j+1:Nat):Int)=(j:Int)+1 from dS]at this;exact this);clear hr ai TC hkd hraw hcj hx hxk hcl hroom hdl hko hc1 hmk ax ak qA qB hk0;go_wp2_with fail
   refine HM.out.mono ?_;rintro e wi ⟨rfl,rfl⟩;go_wp2_with fail
   refine yN.out.mono ?_;rintro e wi ⟨rfl,rfl⟩;clear HM yN;go_wp2_with fail
   refine(af.out).mono ?_;rintro e w4 ⟨rfl,w3,R3,jV,ku,rfl⟩;have Li:=dY (ah.out w3 R3 jV ku);clear jV ku ah af;go_wp2_with fail
   go_step3
   refine⟨rfl,⟨j+1,f,b13,b14,_,_,⟨rfl,rfl,rfl,rfl,rfl,rfl,rfl,rfl,rfl,rfl,rfl,rfl,rfl,rfl,rfl,rfl,rfl,rfl⟩,Li⟩,?_⟩;have hnew:=Li.out.vars.c14.cell;have hold:=HC.out.vars.c14.cell;have hq1:=Li.out.pl;have hq2:=Pt.out.1;show l.length-(intOf ((World.cell? _ ⟨b14,0,none⟩).getD undef)).toNat<l.length-(intOf ((World.cell? _ ⟨b14,0,none⟩).getD undef)).toNat
   rw[hnew,hold];show l.length-((j+1:Nat):Int).toNat<l.length-((p:Nat):Int).toNat
   omega
  have hen:Fl.ends K=false:=by simpa using qC
  rw[hen]at yN;by_cases q7:K=7
  ·subst q7;cases f with
   |false=>
    have hr:∀g,Fl.iN l l.length (Fl.iw l l.length d) n op (g+1) p false s=Fl.iN l l.length (Fl.iw l l.length d) n op g (j+1) false (Fl.rQ l s n j (j+1) 8):=λg=>by
     rw[Fl.iN,aj.out,hkd,dW hk0,dW hko,dW qC,dX rfl,dW dU]
    have af:=dY (ai.out (j+1) dS dS);rw[show((j+1:Nat):Int)=(j:Int)+1 from dS]at af;have ah:=dY (λw3 R3 h1 h2=>YU);clear hr ai TC hkd hraw hcj hx hxk hcl hroom hdl hko hc1 hmk ax ak qA qB hk0;go_wp2_with fail
    refine HM.out.mono ?_;rintro e wi ⟨rfl,rfl⟩;go_wp2_with fail
    refine yN.out.mono ?_;rintro e wi ⟨rfl,rfl⟩;clear HM yN;go_wp2_with fail
    refine(af.out).mono ?_;rintro e w4 ⟨rfl,w3,R3,jV,ku,rfl⟩;have Li:=dY (ah.out w3 R3 jV ku);clear jV ku ah af;go_wp2_with fail
    go_step3
    exact Qy
   |true=>
    have hr:∀g,Fl.iN l l.length (Fl.iw l l.length d) n op (g+1) p true s=Fl.iN l l.length (Fl.iw l l.length d) n op g (j+1) false s:=λg=>by
     rw[Fl.iN,aj.out,hkd,dW hk0,dW hko,dW qC,dX rfl,dX rfl]
    have aR:=HC.out.next (w':=W1.setCell ⟨b14,0,none⟩ (.int .i64 (j+1:Nat))) (az.out.store HC.out.low ae.out.XC ae.out.n14 0 _) (aD.out.Kq HC.out.new) (ae.out.set (j+1)) Pt.out.1 (show j<j+1 by omega) dS hc1 ((Fl.Gr.refl s).mono dS) hr;rw[show((j+1:Nat):Int)=(j:Int)+1 from dS]at aR;have Li:=dY aR;clear aR hr ai TC hkd hraw hcj hx hxk hcl hroom hdl hko hc1 hmk ax ak qA qB hk0;go_wp2_with fail
    refine HM.out.mono ?_;rintro e wi ⟨rfl,rfl⟩;go_wp2_with fail
    refine yN.out.mono ?_;rintro e wi ⟨rfl,rfl⟩;clear HM yN;go_wp2_with fail
    go_step3
    exact Qy
  have g7:((K:Int)==7)=false:=eQ
  cases f with
  |true=>
   obtain⟨t1,t2,t3⟩:=Fl.uh (l:=l) (e:=l.length) (j:=j) Ju hcj (by rw[hkd];exact q7) (by rw[hkd];exact hen);have aS:=dY (afJ rb tv l j W1 az.out.rt tH.out Ju hcj (by rw[hkd];exact q7) (by rw[hkd];exact hen));have hr:∀g,Fl.iN l l.length (Fl.iw l l.length d) n op (g+1) p true s=Fl.iN l l.length (Fl.iw l l.length d) n op g (Fl.kE l l.length j) true (Fl.rQ l s n j (Fl.kE l l.length j) 8):=λg=>by
    rw[Fl.iN,aj.out,hkd,dW hk0,dW hko,dW qC,dW q7,dX rfl]
   obtain⟨t,htd⟩:=eu (Fl.kE l l.length j);rw[htd]at t1 t2 t3 aS hr;have af:=dY (ai.out t dS t2);have ah:=dY (λw3 R3 h1 h2=>TC.out t w3 R3 true t1 t2 t3 h1 h2 hr);clear hr ai TC hkd hraw hcj hx hxk hcl hroom hdl hko hc1 hmk ax ak qA qB hk0 t3 htd qC hen;go_wp2_with fail
   refine HM.out.mono ?_;rintro e wi ⟨rfl,rfl⟩;go_wp2_with fail
   refine yN.out.mono ?_;rintro e wi ⟨rfl,rfl⟩;clear HM yN;go_wp2_with fail
   refine aS.out.mono ?_;rintro e wi ⟨rfl,rfl⟩;go_wp2_with fail
   refine(af.out).mono ?_;rintro e w4 ⟨rfl,w3,R3,jV,ku,rfl⟩;have Li:=dY (ah.out w3 R3 jV ku);clear jV ku ah af aS;go_wp2_with fail
   go_step3
   refine⟨rfl,⟨t,true,b13,b14,_,_,⟨rfl,rfl,rfl,rfl,rfl,rfl,rfl,rfl,rfl,rfl,rfl,rfl,rfl,rfl,rfl,rfl,rfl,rfl⟩,Li⟩,?_⟩;have hnew:=Li.out.vars.c14.cell;have hold:=HC.out.vars.c14.cell;have hq1:=Li.out.pl;have hq2:=Pt.out.1;show l.length-(intOf ((World.cell? _ ⟨b14,0,none⟩).getD undef)).toNat<l.length-(intOf ((World.cell? _ ⟨b14,0,none⟩).getD undef)).toNat
   rw[hnew,hold];show l.length-((t:Nat):Int).toNat<l.length-((p:Nat):Int).toNat
   omega
  |false=>
   have ay:=dY (ajf w0 W1 rb tv l d s R bB.out tH.out n j x az.out hx (HC.out.sz.on Pt.out.1 (eO _)) Ju hcj);rw[hxk]at ay;have gd:wrap64 (((d+1:Nat):Int)-1)=(d:Int):=by rw[show((d+1:Nat):Int)-1=(d:Int)by omega];exact AF _ dS
   by_cases qF:0<Fl.key l l.length j\/Fl.begins (Fl.kd l l.length j)=true
   ·obtain⟨nx,s2,hp1,hp2,hp3,bn,bq⟩:=Fl.Uc (Fl.iw l l.length d) (Fl.wM d) (Fl.raw l op==9) (c:=n) (j:=j) hcl Ju qF;rw[dX qF,hp1]at ay;have hr:∀g,Fl.iN l l.length (Fl.iw l l.length d) n op (g+1) p false s=Fl.iN l l.length (Fl.iw l l.length d) n op g nx true s2:=λg=>by
     rw[Fl.iN,aj.out,hkd,dW hk0,dW hko,dW qC,dW q7,dW dU,dX (by rw[<-hkd];exact qF),hp1]
    have av:=dY (ay.out.mono (show∀e w',_->Goes w0 W1 rb tv l R (.int .i64 nx) s2 e w' from λe w' ⟨a,b,h1,h2⟩=>by
     have h3:=congrArg Prod.fst h1;have h4:=congrArg Prod.snd h1;dsimp only at h3 h4;rw[h3,h4]at h2
     exact h2))
    have bz:=dY (λw3 R3 (h1:RS w0 w3 rb tv l s2 R3)(h2:FP W1 w3 rb R R3)=>show Vars w3 rb b5 b13 b14 n j R3/\XE w0 w (w3.setCell ⟨b14,0,none⟩ (.int .i64 nx)) rb tv l R0 b5 b13 b14 n op d RES nx true s2 R3 from by
     have ag:=ae.out.fp h2
     exact⟨ag,HC.out.next (h1.store HC.out.low ag.XC ag.n14 0 _) ((aD.out.trans h2).Kq HC.out.new) (ag.set nx) Pt.out.1 hp2 hp3 bn (bq.mono (by have:=Pt.out.1;omega)) hr⟩)
    have bI:(j:Int)<(nx:Int):=dS
    clear hr ai TC hkd hraw hcj hx hxk hcl hroom hdl hko hc1 hmk ax ak qA qB hk0 hp1 hp2 hp3 bn bq qF qC hen ay;go_wp2_with fail
    refine HM.out.mono ?_;rintro e wi ⟨rfl,rfl⟩;go_wp2_with fail
    refine yN.out.mono ?_;rintro e wi ⟨rfl,rfl⟩;clear HM yN;go_wp2_with fail
    refine av.out.mono ?_;rintro e w3 ⟨rfl,R3,jV,ku⟩;obtain⟨ag,bA⟩:=bz.out w3 R3 jV ku;have k14:=ag.c14.cell;have bJ:=ag.c14.free;have Li:=dY bA;clear jV ku bz ag bA av;go_wp2_with fail
    go_step3
    refine⟨rfl,⟨nx,true,b13,b14,_,_,⟨rfl,rfl,rfl,rfl,rfl,rfl,rfl,rfl,rfl,rfl,rfl,rfl,rfl,rfl,rfl,rfl,rfl,rfl⟩,Li⟩,?_⟩;have hnew:=Li.out.vars.c14.cell;have hold:=HC.out.vars.c14.cell;have hq1:=Li.out.pl;have hq2:=Pt.out.1;show l.length-(intOf ((World.cell? _ ⟨b14,0,none⟩).getD undef)).toNat<l.length-(intOf ((World.cell? _ ⟨b14,0,none⟩).getD undef)).toNat
    rw[hnew,hold];show l.length-((nx:Nat):Int).toNat<l.length-((p:Nat):Int).toNat
    omega
   ·have hr:∀g,Fl.iN l l.length (Fl.iw l l.length d) n op (g+1) p false s=Fl.iN l l.length (Fl.iw l l.length d) n op g (j+1) false (Fl.rQ l s n j (j+1) 8):=λg=>by
     rw[Fl.iN,aj.out,hkd,dW hk0,dW hko,dW qC,dW q7,dW dU,dW (by rw[<-hkd];exact qF)]
    rw[dW qF]at ay
    have av:=dY (ay.out.mono (show∀e w',_->Goes w0 W1 rb tv l R (.int .i64 j) s e w' from λe w' ⟨a,b,h1,h2⟩=>by
     have h3:=congrArg Prod.fst h1;have h4:=congrArg Prod.snd h1;dsimp only at h3 h4;rw[h3,h4]at h2
     exact h2))
    have aL:=dY (λw2 R2 (h1:RS w0 w2 rb tv l s R2)(h2:FP W1 w2 rb R R2)=>show Vars w2 rb b5 b13 b14 n j R2/\_ from⟨ae.out.fp h2,by have hV2:=ae.out.fp h2;have:=abp w0 w2 rb tv l s R2 b5 b13 b14 n j (j+1) h1 hcl hroom hdl hjl dS dS hV2.c5 hV2.c13 hV2.c14 hV2.n14 hV2.XC;rw[show((j+1:Nat):Int)=(j:Int)+1 from dS]at this;exact this⟩);have ah:=dY (λw3 R3 h1 h2=>YU);clear hr ai TC hkd hraw hcj hx hxk hcl hroom hdl hko hc1 hmk ax ak qA qB hk0 qF qC hen ay;go_wp2_with fail
    refine HM.out.mono ?_;rintro e wi ⟨rfl,rfl⟩;go_wp2_with fail
    refine yN.out.mono ?_;rintro e wi ⟨rfl,rfl⟩;clear HM yN;go_wp2_with fail
    refine av.out.mono ?_;rintro e w2 ⟨rfl,R2,hS2,hF2⟩;obtain⟨hV2,aM⟩:=aL.out w2 R2 hS2 hF2;have k5:=hV2.c5.cell;have k13:=hV2.c13.cell;have k14:=hV2.c14.cell;obtain⟨af,aQ⟩:=fw aM hF2;have bK:¬(j:Int)<(j:Int):=dS
    clear hS2 hF2 aL hV2 aM av;go_wp2_with fail
    refine(af.out).mono ?_;rintro e w4 ⟨rfl,w3,R3,jV,ku,rfl⟩;have Li:=dY (ah.out w3 R3 jV (aQ.out.trans ku));clear jV ku ah af;go_wp2_with fail
    go_step3
    exact Qy
 ·intro hlab;have ahZ:=dY hlab;clear hlab;rcases hk with hk|hk
  ·skip
   obtain rfl:KS=9:=by rw[<-HKS.out,hk];rfl
   obtain rfl:OW=10:=by rw[<-HOW.out,hk];rfl
   exact ZS
  ·skip
   obtain rfl:KS=10:=by rw[<-HKS.out,hk];rfl
   obtain rfl:OW=11:=by rw[<-HOW.out,hk];rfl
   exact ZS
end
namespace Fl
open Ar
theorem H7(l:List Tk)(e:Nat):∀(f g:Nat)(o:Option (Nat×Nat))(i:Nat),e<=i+f->e<=i+g->lead l e f o i=lead l e g o i
 |0,0,o,i=>λ_ _=>rfl
 |0,g+1,o,i=>λh _=>by
  rw[lead,lead,dW];have:kd l e i=0:=JG
  rw[this];decide
 |f+1,0,o,i=>λ_ h=>by
  rw[lead,lead,dW];have:kd l e i=0:=JG
  rw[this];decide
 |f+1,g+1,o,i=>λh1 h2=>by
  rw[lead,lead];by_cases hp:gG (kd l e i)=true
  ·rw[dX hp,dX hp];have h0:kd l e i≠0:=λh=>by rw[h]at hp;exact absurd hp dU
   have:=kN (l:=l) (e:=e) (i:=i+1) (ji h0).1;exact H7 l e f g _ _ dS dS
  ·rw[dW hp,dW hp]
def VSt(l:List Tk)(i0 h m:Nat)(O:Option (Nat×Nat))(I:Nat):Prop:=
 i0<=h/\h<=l.length/\m<=h/\((m=i0/\h=i0/\lead l l.length (l.length-h) none h=(O,I))\/(i0<m/\lead l l.length (l.length-h) (some (i0,m-1)) h=(O,I)))
theorem VSt.start{l:List Tk}{i0:Nat}(h:i0<=l.length){O:Option (Nat×Nat)}{I:Nat}(hl:lead l l.length (l.length-i0) none i0=(O,I)):VSt l i0 i0 i0 O I:=⟨eO _,h,eO _,.inl ⟨rfl,rfl,hl⟩⟩
theorem VSt.next{l:List Tk}{i0 h m:Nat}{O:Option (Nat×Nat)}{I:Nat}(hv:VSt l i0 h m O I)(hp:gG (kd l l.length h)=true):VSt l i0 (blanks l l.length (h+1)) (h+1) O I/\h<blanks l l.length (h+1):=by
 obtain⟨h1,h2,h3,h4⟩:=hv;have h0:kd l l.length h≠0:=λh=>by rw[h]at hp;exact absurd hp dU
 have hl:=(ji h0).1;have hb:=kN (l:=l) (e:=l.length) (i:=h+1) hl;have hst:∀o,lead l l.length (l.length-h) o h=lead l l.length (l.length-blanks l l.length (h+1)) (some (j5 o h,h)) (blanks l l.length (h+1)):=λo=>by
  rw[show l.length-h=(l.length-(h+1))+1 by omega,lead,dX hp];exact H7 l l.length _ _ _ _ dS dS
 refine⟨⟨dS,hb.2,hb.1,.inr ⟨dS,?_⟩⟩,dS⟩;rw[lW];rcases h4 with⟨_,e2,h4⟩|⟨_,h4⟩
 ·rw[hst]at h4;have:j5 none h=i0:=e2;rw[this]at h4;exact h4
 ·rw[hst]at h4;exact h4
theorem VSt.stop{l:List Tk}{i0 h m:Nat}{O:Option (Nat×Nat)}{I:Nat}(hv:VSt l i0 h m O I)(hp:gG (kd l l.length h)=false):I=h/\((m=i0/\O=none/\h=i0)\/(i0<m/\O=some (i0,m-1)))/\j5 O I=i0:=by
 have hst:∀o,lead l l.length (l.length-h) o h=(o,h):=λo=>by
  cases hf:l.length-h with
  |zero=>rfl
  |succ f=>rw[lead,dW (by simp[hp])]
 obtain⟨h1,h2,h3,h4⟩:=hv;rcases h4 with⟨e1,e2,h4⟩|⟨e1,h4⟩
 ·rw[hst]at h4;injection h4 with a b
  subst a b;exact⟨rfl,.inl ⟨e1,rfl,e2⟩,e2⟩
 ·rw[hst]at h4;injection h4 with a b
  subst a b;exact⟨rfl,.inr ⟨e1,rfl⟩,rfl⟩
def alX(l:List Tk)(e:Nat):Nat->Option (Nat->Nat->fF->Nat×fF)
 |0=>none
 |d+1=>some (λc op s=>iN l e (iw l e d) c op (e-op) (op+1) false s)
theorem acJ(l:List Tk)(e d:Nat):iw l e d=Ca l e (alX l e d):=by
 cases d<;>rfl
end Fl
section
open Go.RowKit
open Sq
open Ar
open Fl (kx)
def Yk(rb p d i0 h m:Nat)(up:Int)(a:Act):Prop:=a.defers=[]/\a.tmps.size=82/\a.tmps.getD 0 undef=RP rb/\a.tmps.getD 1 undef=.int .i64 up/\a.tmps.getD 2 undef=.int .i64 p/\a.tmps.getD 3 undef=.int .i64 d/\a.tmps.getD 4 undef=undef/\a.tmps.getD 5 undef=undef/\a.tmps.getD 6 undef=undef/\a.tmps.getD 7 undef=undef/\a.tmps.getD 8 undef=.int .i64 0/\a.tmps.getD 9 undef=.int .i64 i0/\a.tmps.getD 10 undef=.int .i64 h/\a.tmps.getD 11 undef=.int .i64 m
theorem Yk.is{rb p d i0 h m:Nat}{up:Int}{a:Act}(hl:Yk rb p d i0 h m up a):∃u:Nat->Value,a={tmps:=#[RP rb,.int .i64 up,.int .i64 p,.int .i64 d,undef,undef,undef,undef,.int .i64 0,.int .i64 i0,.int .i64 h,.int .i64 m,u 12,u 13,u 14,u 15,u 16,u 17,u 18,u 19,u 20,u 21,u 22,u 23,u 24,u 25,u 26,u 27,u 28,u 29,u 30,u 31,u 32,u 33,u 34,u 35,u 36,u 37,u 38,u 39,u 40,u 41,u 42,u 43,u 44,u 45,u 46,u 47,u 48,u 49,u 50,u 51,u 52,u 53,u 54,u 55,u 56,u 57,u 58,u 59,u 60,u 61,u 62,u 63,u 64,u 65,u 66,u 67,u 68,u 69,u 70,u 71,u 72,u 73,u 74,u 75,u 76,u 77,u 78,u 79,u 80,u 81],defers:=[]}:=by
 obtain⟨t,df⟩:=a;obtain⟨h1,h2,g0,g1,g2,g3,g4,g5,g6,g7,g8,g9,g10,g11⟩:=hl;dsimp only at h1 h2 g0 g1 g2 g3 g4 g5 g6 g7 g8 g9 g10 g11;subst h1;refine⟨λk=>t.getD k undef,?_⟩;have h3:=CZ t 82 h2;have h4:(List.range 82).map (λk=>t.getD k undef)=[t.getD 0 undef,t.getD 1 undef,t.getD 2 undef,t.getD 3 undef,t.getD 4 undef,t.getD 5 undef,t.getD 6 undef,t.getD 7 undef,t.getD 8 undef,t.getD 9 undef,t.getD 10 undef,t.getD 11 undef,t.getD 12 undef,t.getD 13 undef,t.getD 14 undef,t.getD 15 undef,t.getD 16 undef,t.getD 17 undef,t.getD 18 undef,t.getD 19 undef,t.getD 20 undef,t.getD 21 undef,t.getD 22 undef,t.getD 23 undef,t.getD 24 undef,t.getD 25 undef,t.getD 26 undef,t.getD 27 undef,t.getD 28 undef,t.getD 29 undef,t.getD 30 undef,t.getD 31 undef,t.getD 32 undef,t.getD 33 undef,t.getD 34 undef,t.getD 35 undef,t.getD 36 undef,t.getD 37 undef,t.getD 38 undef,t.getD 39 undef,t.getD 40 undef,t.getD 41 undef,t.getD 42 undef,t.getD 43 undef,t.getD 44 undef,t.getD 45 undef,t.getD 46 undef,t.getD 47 undef,t.getD 48 undef,t.getD 49 undef,t.getD 50 undef,t.getD 51 undef,t.getD 52 undef,t.getD 53 undef,t.getD 54 undef,t.getD 55 undef,t.getD 56 undef,t.getD 57 undef,t.getD 58 undef,t.getD 59 undef,t.getD 60 undef,t.getD 61 undef,t.getD 62 undef,t.getD 63 undef,t.getD 64 undef,t.getD 65 undef,t.getD 66 undef,t.getD 67 undef,t.getD 68 undef,t.getD 69 undef,t.getD 70 undef,t.getD 71 undef,t.getD 72 undef,t.getD 73 undef,t.getD 74 undef,t.getD 75 undef,t.getD 76 undef,t.getD 77 undef,t.getD 78 undef,t.getD 79 undef,t.getD 80 undef,t.getD 81 undef]:=rfl;rw[h4,g0,g1,g2,g3,g4,g5,g6,g7,g8,g9,g10,g11]at h3;exact congrArg (λt=>({tmps:=t,defers:=[]}:Act)) h3
theorem abv(w0:World)(rb:Nat)(tv:Value)(l:List Tk)(d:Nat)(hT:oV l)(hds:d<=1000)(hV:∀d',d=d'+1->Vk w0 rb tv l d'):Vk w0 rb tv l d:=by
 intro w up p s R hS hu1 hu2 hp hz;have hR:=hS.rt;have hls:=hR.size;have hb0:=Fl.kN (l:=l) hp;have HB0:=dY (hR.blank p hp);obtain⟨RES,aa⟩:=eu (Fl.iw l l.length d up p s);rw[aa];rw[Fl.acJ]at aa;unfold Fl.Ca at aa;dsimp only at aa;obtain⟨i0,hi0⟩:=eu (Fl.blanks l l.length p);rw[hi0]at aa HB0 hb0;obtain⟨OI,ae⟩:=eu (Fl.lead l l.length (l.length-i0) none i0);obtain⟨O,I⟩:=OI;rw[ae]at aa;dsimp only at aa;obtain⟨af,aib,tH⟩:=je (Fl.VSt.start hb0.2 ae) aa hT;have HK:=dY (λj (hj:j<=l.length)=>hR.kind j hj);have Xy:=dY (λj (hj:j<=l.length)=>hR.blank j hj);have Dh:=dY (λk f t=>Yi w0 w rb tv l s R up k f t hS hu1 hu2 hz.room);have Px:=dY (λi (hi:i<l.length) hk=>ai2 rb tv l i w hR hT hi hk);have ng:=dY (λi ho=>Hm rb tv l i w hR hT ho);have yM:=dY (λf t (hf:f<l.length)(h0:0<t)(ht:t<=l.length)=>abo w0 w rb tv l s R up 10 f t hS hu1 hu2 hz.room (by have:=hz.d;omega) hf h0 ht);have uO:=dY (λd' (hd:d=d'+1) op (h1:p<=op)(h2:op<l.length)(hk:Fl.raw l op=8\/Fl.raw l op=9)=>Ol w0 w rb tv l d' s R (hV d' hd) hT up i0 op hS hu1 hu2 (hz.on h1 dS) h2 hk dS);have hpi:=hb0.1;obtain⟨Q,hQ⟩:=eu (Goes w0 w rb tv l R (.int .i64 RES.1) RES.2);have HQ:=dY (fun(w3:World)(t:Nat)(s':Fl.fF)(he:(t,s')=RES)(h:∃R',RS w0 w3 rb tv l s' R'/\FP w w3 rb R R')=>show Q (.returned (.int .i64 t)) w3 by rw[<-hQ,<-he];exact⟨rfl,h⟩);have xn:=dY (show(p,s)=RES->Q (.returned (.int .i64 p)) w from λhe=>by rw[<-hQ,<-he];exact⟨rfl,R,hS,FP.refl w rb R⟩);rw[hQ];obtain⟨yo,TE,TF⟩:=je hls hds hpi;clear hV hT hds hS hu1 hu2 hp hz hR hls hb0 hi0 ae aa hQ hpi
 go_enter func131,ntmps131
 go_wp2;refine sV 0 (λa' w'=>w'=w/\∃(h m:Nat),Yk rb p d i0 h m up a'/\Hid (Fl.VSt l i0 h m O I)) (λa' _=>l.length-(intOf (a'.tmps.getD 10 undef)).toNat) rfl ?_ ?_
 ·rintro a' w' ⟨rfl,h,m,hlive,HVs⟩;obtain⟨u,rfl⟩:=hlive.is;have HI0:=dY (show p<=i0/\i0<=h from⟨TF.out,HVs.out.1⟩);clear hlive HB0 af;have hls:=yo.out;have hds:=TE.out;have ag:=HVs.out.2.1;have hcall:=HK.out h ag;have hkd:=Fl.GR ag;have hk0:=Rf tH.out h;have hkl:kx l h≠21->h<l.length:=λh2=>by
   unfold Fl.kx at h2;split at h2
   ·assumption
   ·exact absurd rfl h2
  have hraw:kx l h≠20->kx l h≠21->Fl.raw l h=kx l h:=λh1 h2=>by
   have:=Fl.ji (l:=l) (e:=l.length) (i:=h) (by rw[hkd,dW (λh=>h.elim h1 h2)];exact hk0);rw[this.2,hkd,dW (λh=>h.elim h1 h2)]
  obtain⟨K,hK⟩:=eu (kx l h);rw[hK]at hcall hkd hk0 hkl hraw;have H1:=dY hcall;have aj:h<=100000:=dS
  obtain⟨Py,I7,Pz,TG⟩:=oK hk0 hkd hkl hraw;clear hcall hK hkd hk0 hkl hraw hls;by_cases GK:K=12
  ·subst GK;have hp2:Fl.gG (Fl.kd l l.length h)=true:=by rw[I7.out];rfl
   exact ZX
  have g12:((K:Int)==12)=false:=eQ
  by_cases Ll:K=14
  ·subst Ll;have hp2:Fl.gG (Fl.kd l l.length h)=true:=by rw[I7.out];rfl
   exact ZX
  have g14:((K:Int)==14)=false:=eQ
  have uN:Fl.gG (Fl.kd l l.length h)=false:=by
   rw[I7.out];split
   ·rfl
   ·unfold Fl.gG;simp;omega
  obtain⟨hI,hO,ah⟩:=HVs.out.stop uN;have hres:=aib.out;rw[ah,hI,I7.out]at hres;clear Xy aib HVs uN ah hI;by_cases PG:K=15
  ·subst PG;rw[dW dU,dX dU]at hres;have H2:=Dh.out 7 i0 (h+1);have vP:=dY (λw3 R3 jV ku=>HQ.out w3 (h+1) _ hres ⟨R3,jV,ku⟩);rw[show((h+1:Nat):Int)=(h:Int)+1 from dS]at H2 vP;have H2:=dY H2;clear HK Dh Px ng yM uO HQ xn tH yo TE TF Py I7 Pz TG hds hres hO;go_wp2_with fail
   exact Ed
  have g15:((K:Int)==15)=false:=eQ
  by_cases q16:K=16
  ·subst q16;rw[dW dU,dX dU]at hres;have H2:=Dh.out 7 i0 (h+1);have vP:=dY (λw3 R3 jV ku=>HQ.out w3 (h+1) _ hres ⟨R3,jV,ku⟩);rw[show((h+1:Nat):Int)=(h:Int)+1 from dS]at H2 vP;have H2:=dY H2;clear HK Dh Px ng yM uO HQ xn tH yo TE TF Py I7 Pz TG hds hres hO;go_wp2_with fail
   exact Ed
  have g16:((K:Int)==16)=false:=eQ
  by_cases Vo:K=17
  ·subst Vo;rw[dW dU,dX dU]at hres;have H2:=Dh.out 7 i0 (h+1);have vP:=dY (λw3 R3 jV ku=>HQ.out w3 (h+1) _ hres ⟨R3,jV,ku⟩);rw[show((h+1:Nat):Int)=(h:Int)+1 from dS]at H2 vP;have H2:=dY H2;clear HK Dh Px ng yM uO HQ xn tH yo TE TF Py I7 Pz TG hds hres hO;go_wp2_with fail
   exact Ed
  have g17:((K:Int)==17)=false:=eQ
  by_cases Xz:K=13
  ·subst Xz;rw[dX dU]at hres;have H2:=Dh.out 8 i0 (h+1);have vP:=dY (λw3 R3 jV ku=>HQ.out w3 (h+1) _ hres ⟨R3,jV,ku⟩);rw[show((h+1:Nat):Int)=(h:Int)+1 from dS]at H2 vP;have H2:=dY H2;clear HK Dh Px ng yM uO HQ xn tH yo TE TF Py I7 Pz TG hds hres hO;go_wp2_with fail
   exact Ed
  have g13:((K:Int)==13)=false:=eQ
  by_cases ai:K=18
  ·subst ai;rw[dW dU,dW dU,dX dU]at hres;have H2:=dY (Px.out h (Pz.out dU) (TG.out dU dU));obtain⟨t,ht⟩:=eu (Fl.text l l.length h);rw[ht]at hres H2;have H3:=dY (Dh.out 7 i0 t);have vP:=dY (λw3 R3 jV ku=>HQ.out w3 t _ hres ⟨R3,jV,ku⟩);clear HK Dh Px ng yM uO HQ xn tH yo TE TF Py I7 Pz TG hds hres hO ht;go_wp2_with fail
   refine H1.out.mono ?_;rintro e wi ⟨rfl,rfl⟩;go_wp2_with fail
   refine H2.out.mono ?_;rintro e wi ⟨rfl,rfl⟩;go_wp2_with fail
   refine H3.out.mono ?_;rintro e w3 ⟨rfl,R3,jV,ku⟩;have HD:=dY (vP.out w3 R3 jV ku);clear jV ku vP H2 H3;go_wp2_with fail
   exact ll
  have g18:((K:Int)==18)=false:=eQ
  by_cases q8:K=8
  ·subst q8;rw[dW dU,dW dU,dW dU,dX dU]at hres;have hhN:=Pz.out dU;have hrw:=TG.out dU dU;have hph:=TF.out;cases d with
   |zero=>
    exact ZT
   |succ d=>
    exact aaD
  have g8:((K:Int)==8)=false:=eQ
  by_cases q9:K=9
  ·subst q9;rw[dW dU,dW dU,dW dU,dX dU]at hres;have hhN:=Pz.out dU;have hrw:=TG.out dU dU;have hph:=TF.out;cases d with
   |zero=>
    exact ZT
   |succ d=>
    exact aaD
  have g9:((K:Int)==9)=false:=eQ
  have hnk:∀k:Nat,k=(if K=20\/K=21 then 0 else K)->k≠13/\Fl.gX k=false/\k≠18/\Fl.opens k=false:=λk hk=>by
   have h1:k≠13/\k≠15/\k≠16/\k≠17/\k≠18/\k≠8/\k≠9:=by split at hk<;>omega
   refine⟨h1.1,?_,h1.2.2.2.2.1,?_⟩
   ·unfold Fl.gX;simp;omega
   ·unfold Fl.opens;simp;omega
  obtain⟨n1,n2,n3,n4⟩:=hnk _ rfl;rw[dW n1,dW (by rw[n2];decide),dW n3,dW (by rw[n4];decide)]at hres;rcases hO with⟨e1,e2,e3⟩|⟨e1,e2⟩
  ·rw[e2]at hres;have hres2:(p,s)=RES:=hres;have HD:=dY (xn.out hres2);subst e1;clear HK Dh Px ng yM uO HQ xn tH yo TE TF Py I7 Pz TG hds hres hres2 e2 e3 hnk n1 n2 n3 n4;go_wp2_with fail
   refine H1.out.mono ?_;rintro e wi ⟨rfl,rfl⟩;go_wp2_with fail
   exact ll
  ·rw[e2]at hres;have hres2:(m-1+1,(⟨Fl.jr s.q up 7 i0 (m-1+1),s.d⟩:Fl.fF))=RES:=hres;rw[show m-1+1=m by omega]at hres2;have gm:((m:Int)==(i0:Int))=false:=by simp;omega
   have H3:=dY (Dh.out 7 i0 m);have vP:=dY (λw3 R3 jV ku=>HQ.out w3 m _ hres2 ⟨R3,jV,ku⟩);clear HK Dh Px ng yM uO HQ xn tH yo TE TF Py I7 Pz TG hds hres hres2 e2 e1 hnk n1 n2 n3 n4;go_wp2_with fail
   refine H1.out.mono ?_;rintro e wi ⟨rfl,rfl⟩;go_wp2_with fail
   refine H3.out.mono ?_;rintro e w3 ⟨rfl,R3,jV,ku⟩;have HD:=dY (vP.out w3 R3 jV ku);clear jV ku vP H3;go_wp2_with fail
   exact ll
 ·intro hlab;have ahZ:=dY hlab;clear hlab;go_wp2_with fail
  refine HB0.out.mono ?_;rintro e wi ⟨rfl,rfl⟩;go_wp2_with fail
  go_step3
  rename_i K hK;exact hK _ _ (ahZ.out _ _ ⟨rfl,i0,i0,⟨rfl,rfl,rfl,rfl,rfl,rfl,rfl,rfl,rfl,rfl,rfl,rfl,rfl,rfl⟩,af⟩)
end
end Go.Proofs.YtmkkdjpebbdikaaGreatDoor

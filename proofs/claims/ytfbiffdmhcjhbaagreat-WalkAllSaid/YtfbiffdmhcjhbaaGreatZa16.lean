import Derived.Test.YtfbiffdmhcjhbaaGreatZa12
import Derived.Test.YtfbiffdmhcjhbaaGreatZa14
set_option linter.all false
set_option maxHeartbeats 16000000
set_option maxRecDepth 100000
set_option synthInstance.maxSize 4000
set_option synthInstance.maxHeartbeats 0
namespace Go.Proofs.YtfbiffdmhcjhbaaGreat
open Go.RowKit Tryz
def pz:=@wp_loop_rounds
def jI:=@rounds_succ
namespace Ps
open Ar Fl
open Rw (R E)
theorem MX{l:List Tk}{B:Bs}{a b depth:Nat}{p:PS}{r:R}(h:sS l B a p)(hB:B.1<=a)(hab:a<b)(hb:b<=l.length)(hread:b<=p.read)(hrl:p.read<=l.length):
 sS l B (bare l (Rw.fE l) depth p r a b).read (bare l (Rw.fE l) depth p r a b)/\(bare l (Rw.fE l) depth p r a b).read<=l.length:=by
 have aa:sS l B p.read {p with s:=err l p.s (holder p) a b 7}:=(zU h hB (fC _) hab hb (by omega) (by omega) (by omega)).le hread;obtain⟨d,hd,hc,hh⟩:=h;obtain⟨hc',hh'⟩:=jT.drop (λo=>decide (r.fo<=o.fo)) hc hh
 have hr:bare l (Rw.fE l) depth p r a b=(match p.st.dropWhile (λo=>decide (r.fo<=o.fo))with
  |[]=>if p.root=true then{p with s:=err l p.s (holder p) a b 7}
   else
    let v:=value l (Rw.fE l) depth {p with st:=[]} p.doc a
    {v.1 with root:=v.2}
  |o::q=>if o.has=true then{p with s:=err l p.s (holder p) a b 7}
   else
    let v:=value l (Rw.fE l) depth {p with st:=o::q} o.cur a
    {v.1 with st:={o with has:=v.2}::q}):=rfl
 rw[hr];cases hdw:p.st.dropWhile (λo=>decide (r.fo<=o.fo))with
 |nil=>
  rw[hdw]at hc' hh';dsimp only;split
  ·exact⟨aa,hrl⟩
  obtain⟨m,e1,e2⟩:=hh';obtain rfl:m=d:=by omega
  obtain⟨P,hP⟩:∃P:PS,{p with st:=[]}=P:=⟨_,rfl⟩
  have hP1:P.s=p.s:=by rw[<-hP]
  have hP2:P.st=[]:=by rw[<-hP]
  have hP3:P.doc=(m:Int):=by rw[<-hP];exact hd
  rw[hP,hd];rw[<-hP1]at e2 hc';obtain⟨v1,v2,v3,v4,v5⟩:=tX (depth:=depth) (p:=P) (i:=a) (k:=m) e2 hB (fC _) (by omega);refine⟨⟨m,by rw[<-hP3];exact v1,?_,?_⟩,v3⟩
  ·dsimp only;rw[v2,hP2];exact Up.keep hc' v4
  dsimp only;rw[v2,hP2];exact⟨m,rfl,v5⟩
 |cons o q=>
  rw[hdw]at hc' hh';dsimp only;split
  ·exact⟨aa,hrl⟩
  rename_i ho;obtain⟨m,e1,e2⟩:=hh'.2 (by simpa using ho);obtain⟨⟨nd,c,k,g1,g2,g3,g4,g5⟩,g6⟩:=hc';obtain rfl:m=c:=by omega
  obtain⟨o1,o2,o3,o4,o5⟩:=o;have e1:o4=(m:Int):=e1;subst e1;obtain⟨v1,v2,v3,v4,v5⟩:=tX (depth:=depth) (p:={p with st:=⟨o1,o2,o3,(m:Int),o5⟩::q}) (i:=a) (k:=m) e2 hB (fC _) (by omega);have hch:kV (value l (Rw.fE l) depth {p with st:=⟨o1,o2,o3,(m:Int),o5⟩::q} (m:Int) a).1.s.t d (⟨o1,o2,o3,(m:Int),(value l (Rw.fE l) depth {p with st:=⟨o1,o2,o3,(m:Int),o5⟩::q} (m:Int) a).2⟩::q):=
   kV.keep (st:=⟨o1,o2,o3,(m:Int),(value l (Rw.fE l) depth {p with st:=⟨o1,o2,o3,(m:Int),o5⟩::q} (m:Int) a).2⟩::q) v4 ⟨⟨nd,m,k,g1,g2,g3,g4,g5⟩,g6⟩
  refine⟨⟨d,by rw[<-hd];exact v1,hch,?_⟩,v3⟩;refine tu hch ?_;show xO l B (if(value l (Rw.fE l) depth {p with st:=⟨o1,o2,o3,(m:Int),o5⟩::q} (m:Int) a).2=true then o1 else(m:Int)) _ _;split
  ·exact⟨nd,g1,Ay v5 (g3.keep v4)⟩
  exact⟨m,g2,v5⟩
theorem MY{l:List Tk}{B:Bs}{e depth:Nat}{p:PS}{r:R}(ht:Rw.jl 0 l)(h:Inv l B e p)(hr:l8 l r)(h5:r.kind=5)(hB:B.1<=r.from')(he:e<=r.from')(hread:p.read=r.au):
 Inv l B (body l (Rw.fE l) depth p r).read (body l (Rw.fE l) depth p r)/\(body l (Rw.fE l) depth p r).read<=l.length:=by
 have hlt:=hr.lt;have hle:=hr.le;have hlo:=hr.body h5;have hge:=jJ l r.from' r.au;have hcn:=wE l hlo;obtain⟨n1,n2,n3,n4⟩:=tq ht hr h5;unfold body;dsimp only;obtain⟨a,ha⟩:=eX (lo l r.from' r.au);rw[ha]at hlo hge hcn n1 n3⊢;obtain⟨b,hb⟩:=eX (back l r.au a);have hbl:=fQ l r.au a;have hbg:=pW l r.au a a (fC _) hlo hcn;rw[hb]at n1 hbl hbg⊢;obtain⟨o1,o2⟩:=nK h (i:=a) (by omega) (by omega);obtain⟨p1,hp1⟩:=eX (gu p a);rw[hp1]at o1 o2⊢;obtain⟨es,hes⟩:=eX (Rw.lC l r);rw[hes]at n1 n2 n3 n4⊢;split
 ·obtain⟨g1,g2⟩:=MX (r:=r) (depth:=depth) o1 (by omega) hbg (by omega) (by omega) (by omega);exact⟨.inr g1,g2⟩
 rename_i hne;obtain⟨e',k1,k2,k3,k4,k5⟩:=rG (depth:=depth) (b:=b) (by omega) es.1 a p1 (holder p1) o1 (by omega) rfl n1 (by omega);obtain⟨q,hq⟩:=eX (places l depth b p1 (holder p1) es.1);rw[hq]at k3 k4 k5⊢;have ae:q.2.read=r.au:=by rw[k4,o2,hread]
 have stay:Inv l B q.2.read q.2/\q.2.read<=l.length:=⟨.inr (k3.le (by omega)),by omega⟩
 split
 ·rename_i hall;split
  ·rename_i hx;obtain⟨_,m1,m2⟩:=k5 hall;obtain⟨t,k,m3,m4⟩:=m2 hne;have hlast:∃z,es.1.getLast?=some z:=by
    cases hz:es.1.getLast? with
    |none=>rw[LJ]at hz;exact absurd hz hne
    |some z=>exact⟨z,rfl⟩
   obtain⟨z,hz⟩:=hlast;have hrest:es.2=e':=by rw[n2 z hz,m1 z hz]
   have hxg:=jJ l es.2 r.au;have hxb:=fQ l r.au (lo l es.2 r.au);obtain⟨d,d1,d2,d3⟩:=k3;obtain⟨x,aa⟩:=eX (lo l es.2 r.au);rw[aa]at hx hxg hxb⊢;rw[m3]at d2 d3⊢;dsimp only;obtain⟨m,e1,e2⟩:=d3.2 m4;obtain⟨⟨nd,c,kk,g1,g2,g3,g4,g5⟩,g6⟩:=d2;obtain rfl:m=c:=by omega
   obtain⟨o1,o2,o3,o4,o5⟩:=t;have e1:o4=(m:Int):=e1;subst e1;obtain⟨v1,v2,v3,v4,v5⟩:=tX (depth:=depth) (p:=q.2) (i:=x) (k:=m) e2 (by omega) (by omega) (by omega);have hch:kV (value l (Rw.fE l) depth q.2 (m:Int) x).1.s.t d (⟨o1,o2,o3,(m:Int),(value l (Rw.fE l) depth q.2 (m:Int) x).2⟩::k):=
    kV.keep (st:=⟨o1,o2,o3,(m:Int),(value l (Rw.fE l) depth q.2 (m:Int) x).2⟩::k) v4 ⟨⟨nd,m,kk,g1,g2,g3,g4,g5⟩,g6⟩
   refine⟨.inr ⟨d,by rw[<-d1];exact v1,hch,tu hch ?_⟩,v3⟩;show xO l B (if(value l (Rw.fE l) depth q.2 (m:Int) x).2=true then o1 else(m:Int)) _ _;split
   ·exact⟨nd,g1,Ay v5 (g3.keep v4)⟩
   exact⟨m,g2,v5⟩
  exact stay
 exact stay
theorem CW{l:List Tk}{B:Bs}{depth:Nat}{p:PS}{r:R}(ht:Rw.jl 0 l)(h:Inv l B p.read p)(hr:l8 l r)(hB:B.1<=r.from')(he:p.read<=r.from'):
 Inv l B (row l (Rw.fE l) depth p r).read (row l (Rw.fE l) depth p r)/\(row l (Rw.fE l) depth p r).read<=l.length:=by
 have hlt:=hr.lt;have hle:=hr.le;have h0:Inv l B p.read {p with read:=r.au}:=h;unfold row;dsimp only;split
 ·rename_i h4;exact MW h0 hr h4 hB he rfl
 split
 ·rename_i h5;exact MY ht h0 hr h5 hB he rfl
 split
 ·split
  ·rename_i hab;have hge:=jJ l r.from' r.au;have hbl:=fQ l r.au (lo l r.from' r.au);obtain⟨o1,o2⟩:=nK h0 (i:=lo l r.from' r.au) (by omega) (by omega);have:=zU (code:=8) o1 (by omega) (fC _) hab (by omega) (by omega) (by omega) (by omega);have e2:(gu {p with read:=r.au} (lo l r.from' r.au)).read=r.au:=o2;refine⟨.inr (this.le ?_),?_⟩
   ·show back l r.au (lo l r.from' r.au)<=(gu {p with read:=r.au} (lo l r.from' r.au)).read;omega
   show(gu {p with read:=r.au} (lo l r.from' r.au)).read<=_;omega
  exact⟨h0.le (by show p.read<=r.au;omega),hle⟩
 exact⟨h0.le (by show p.read<=r.au;omega),hle⟩
theorem tY{l:List Tk}{B:Bs}{depth:Nat}(ht:Rw.jl 0 l):∀(rs:List R)(p:PS),(∀r∈rs,l8 l r/\B.1<=r.from')->Inv l B p.read p->p.read<=l.length->
 Inv l B (jf l (Rw.fE l) depth p rs).read (jf l (Rw.fE l) depth p rs)/\(jf l (Rw.fE l) depth p rs).read<=l.length
 |[],p=>λ_ h hl=>⟨h,hl⟩
 |r::rs,p=>λhrs h hl=>by
  rw[jf];by_cases hr:p.read<=r.from'
  ·rw[eT hr];obtain⟨h1,h2⟩:=CW (depth:=depth) ht h (hrs r (by simp)).1 (hrs r (by simp)).2 hr;exact tY ht rs _ (λx hx=>hrs x (by simp[hx])) h1 h2
  rw[eQ hr];exact tY ht rs p (λx hx=>hrs x (by simp[hx])) h hl
theorem tZ(l:List Tk)(hl:l.length<=32768):Inv l (0,(start l).s) (start l).read (start l):=by
 refine .inl ⟨rfl,rfl,?_⟩;have hn:mU (l.length:Int)=[⟨1,0,l.length,-1,[],false⟩]:=by unfold mU;rw[eQ (by omega)]
 have hx:∀(i:Nat)(x:Nd),(mU (l.length:Int))[i]?=some x->x.k=1:=by
  intro i x hx;rw[hn]at hx;cases i with
  |zero=>
   have hx:(⟨1,0,l.length,-1,[],false⟩:Nd)=x:=by simpa using hx
   subst hx;rfl
  |succ i=>simp at hx
 exact Fe.Ok.start (O6 _ (by omega) (by omega)) (Jr _ _ (by omega) (by omega) (by show(0:Int)<=((0:Nat):Int);omega)) (λi x h hk=>by have:=hx i x h;omega) (λx h=>by have:=hx 0 x h;omega)
theorem MZ(l:List Tk)(depth:Nat)(ht:Rw.jl 0 l)(hl:l.length<=32768):
 Ck (read l depth).t l.length/\Fe.Lf (read l depth).t/\(∀g,Fe.errs l (read l depth).t g=Fe.told (read l depth).d g)/\(∀x∈(read l depth).d,Fe.W l 0 l.length x):=by
 have h:=(tY (depth:=depth) ht (Rw.fE l) (start l) (λr hr=>⟨rows_ok l r hr,gG _⟩) (tZ l hl) (gG _)).1.root;unfold read;refine⟨h.ck,h.lf,λg=>?_,?_⟩
 ·have ht:Fe.errs l _ g+Fe.told (start l).s.d g=Fe.errs l (start l).s.t g+Fe.told _ g:=h.tells g;have h0:Fe.told (start l).s.d g=0:=rfl;have h1:Fe.errs l (start l).s.t g=0:=by
   show Fe.errs l (mU (l.length:Int)) g=0;unfold mU Fe.errs;rw[Ao,Ap];rfl
  omega
 obtain⟨ds,h1,h2⟩:=h.FO;rw[h1];exact λx hx=>h2 x (by simpa [start]using hx)
end Ps
section
open Go.RowKit
open Sg
theorem qh{p:Int×Nat}{x k:Int}(h:p.1=x/\(p.2:Int)=k):Ending.returned (.tuple #[.int .i32 x,.int .i64 k])=.returned (.tuple #[.int .i32 p.1,.int .i64 p.2]):=by rw[h.1,h.2]
theorem PD(b off len cap:Nat)(v0:Int)(b1:Nat)(w:World)(hl:len<=9223372036854775807)(h0:0<=v0)(h1:v0<32)(l1:b1<256)
 (hc1:1<len->w.cell? ⟨b,off+1,none⟩=some (.int .u8 b1)):
 Calls prog 76 #[.slice (some ⟨b,off,none⟩) len cap,.int .i64 2,.int .i32 v0,.int .i32 128] w λe w'=>e=.returned (.tuple #[.int .i32 (FN len v0.toNat b1).1,.int .i64 (FN len v0.toNat b1).2])/\w=w':=by
 obtain⟨v,rfl⟩:=Fv h0;rw[iE];by_cases hn:len<2
 ·go_enter func76,ntmps76
  go_wp2;go_ret2;refine⟨?_,rfl⟩;exact qh (by unfold FN;(repeat' split);all_goals first|exact⟨rfl,rfl⟩|(exfalso;omega))
 have g1:=hc1 (by omega);clear hc1;have hlt:(1:Int)<(len:Int):=by omega
 by_cases k1:b1<128\/191<b1
 ·go_enter func76,ntmps76
  go_wp2;refine pz 2 ?_;rw[jI];go_wp2;all_goals
   go_ret2;refine⟨?_,rfl⟩;exact qh (by unfold FN;(repeat' split);all_goals first|exact⟨rfl,rfl⟩|(exfalso;omega))
 obtain⟨aa,ae⟩:128<=b1/\b1<=191:=by omega
 clear k1
 go_enter func76,ntmps76
 go_wp2;refine pz 2 ?_;rw[jI];go_wp2;rw[jI];go_wp2;all_goals
  go_ret2;refine⟨?_,rfl⟩;exact qh (by unfold FN;(repeat' split);all_goals first|exact⟨rfl,rfl⟩|(exfalso;omega)|(refine⟨?_,rfl⟩;dsimp only;omega))
theorem PE(b off len cap:Nat)(v0:Int)(b1 b2:Nat)(w:World)(hl:len<=9223372036854775807)(h0:0<=v0)(h1:v0<16)(l1:b1<256)(l2:b2<256)
 (hc1:1<len->w.cell? ⟨b,off+1,none⟩=some (.int .u8 b1))
 (hc2:2<len->w.cell? ⟨b,off+2,none⟩=some (.int .u8 b2)):
 Calls prog 76 #[.slice (some ⟨b,off,none⟩) len cap,.int .i64 3,.int .i32 v0,.int .i32 2048] w λe w'=>e=.returned (.tuple #[.int .i32 (CB len v0.toNat b1 b2).1,.int .i64 (CB len v0.toNat b1 b2).2])/\w=w':=by
 obtain⟨v,rfl⟩:=Fv h0;rw[iE];by_cases hn:len<3
 ·go_enter func76,ntmps76
  go_wp2;go_ret2;refine⟨?_,rfl⟩;exact qh (by unfold CB;(repeat' split);all_goals first|exact⟨rfl,rfl⟩|(exfalso;omega))
 have g1:=hc1 (by omega);have g2:=hc2 (by omega);clear hc1 hc2;have hlt:(2:Int)<(len:Int):=by omega
 by_cases k1:b1<128\/191<b1
 ·go_enter func76,ntmps76
  go_wp2;refine pz 3 ?_;rw[jI];go_wp2;all_goals
   go_ret2;refine⟨?_,rfl⟩;exact qh (by unfold CB;(repeat' split);all_goals first|exact⟨rfl,rfl⟩|(exfalso;omega))
 obtain⟨aa,ae⟩:128<=b1/\b1<=191:=by omega
 clear k1;by_cases k2:b2<128\/191<b2
 ·go_enter func76,ntmps76
  go_wp2;refine pz 3 ?_;rw[jI];go_wp2;rw[jI];go_wp2;all_goals
   go_ret2;refine⟨?_,rfl⟩;exact qh (by unfold CB;(repeat' split);all_goals first|exact⟨rfl,rfl⟩|(exfalso;omega))
 obtain⟨af,ag⟩:128<=b2/\b2<=191:=by omega
 clear k2
 go_enter func76,ntmps76
 go_wp2;refine pz 3 ?_;rw[jI];go_wp2;rw[jI];go_wp2;rw[jI];go_wp2;all_goals
  go_ret2;refine⟨?_,rfl⟩;exact qh (by unfold CB;(repeat' split);all_goals first|exact⟨rfl,rfl⟩|(exfalso;omega)|(refine⟨?_,rfl⟩;dsimp only;omega))
theorem PH(b off len cap:Nat)(v0:Int)(b1 b2 b3:Nat)(w:World)(hl:len<=9223372036854775807)(h0:0<=v0)(h1:v0<8)(l1:b1<256)(l2:b2<256)(l3:b3<256)
 (hc1:1<len->w.cell? ⟨b,off+1,none⟩=some (.int .u8 b1))
 (hc2:2<len->w.cell? ⟨b,off+2,none⟩=some (.int .u8 b2))
 (hc3:3<len->w.cell? ⟨b,off+3,none⟩=some (.int .u8 b3)):
 Calls prog 76 #[.slice (some ⟨b,off,none⟩) len cap,.int .i64 4,.int .i32 v0,.int .i32 65536] w λe w'=>e=.returned (.tuple #[.int .i32 (AB len v0.toNat b1 b2 b3).1,.int .i64 (AB len v0.toNat b1 b2 b3).2])/\w=w':=by
 obtain⟨v,rfl⟩:=Fv h0;rw[iE];by_cases hn:len<4
 ·go_enter func76,ntmps76
  go_wp2;go_ret2;refine⟨?_,rfl⟩;exact qh (by unfold AB;(repeat' split);all_goals first|exact⟨rfl,rfl⟩|(exfalso;omega))
 have g1:=hc1 (by omega);have g2:=hc2 (by omega);have g3:=hc3 (by omega);clear hc1 hc2 hc3;have hlt:(3:Int)<(len:Int):=by omega
 by_cases k1:b1<128\/191<b1
 ·go_enter func76,ntmps76
  go_wp2;refine pz 4 ?_;rw[jI];go_wp2;all_goals
   go_ret2;refine⟨?_,rfl⟩;exact qh (by unfold AB;(repeat' split);all_goals first|exact⟨rfl,rfl⟩|(exfalso;omega))
 obtain⟨aa,ae⟩:128<=b1/\b1<=191:=by omega
 clear k1;by_cases k2:b2<128\/191<b2
 ·go_enter func76,ntmps76
  go_wp2;refine pz 4 ?_;rw[jI];go_wp2;rw[jI];go_wp2;all_goals
   go_ret2;refine⟨?_,rfl⟩;exact qh (by unfold AB;(repeat' split);all_goals first|exact⟨rfl,rfl⟩|(exfalso;omega))
 obtain⟨af,ag⟩:128<=b2/\b2<=191:=by omega
 clear k2;by_cases k3:b3<128\/191<b3
 ·go_enter func76,ntmps76
  go_wp2;refine pz 4 ?_;rw[jI];go_wp2;rw[jI];go_wp2;rw[jI];go_wp2;all_goals
   go_ret2;refine⟨?_,rfl⟩;exact qh (by unfold AB;(repeat' split);all_goals first|exact⟨rfl,rfl⟩|(exfalso;omega))
 obtain⟨ah,ai⟩:128<=b3/\b3<=191:=by omega
 clear k3
 go_enter func76,ntmps76
 go_wp2;refine pz 4 ?_;rw[jI];go_wp2;rw[jI];go_wp2;rw[jI];go_wp2;rw[jI];go_wp2;all_goals
  go_ret2;refine⟨?_,rfl⟩;exact qh (by unfold AB;(repeat' split);all_goals first|exact⟨rfl,rfl⟩|(exfalso;omega)|(refine⟨?_,rfl⟩;dsimp only;omega))
end
section
open Go.RowKit
open Sg
theorem Ag(n b off cap x0 x1 x2 x3:Nat)(w:World)(hm:n<=9223372036854775807)(l0:x0<256)(l1:x1<256)(l2:x2<256)(l3:x3<256)
 (h0:0<n->w.cell? ⟨b,off,none⟩=some (.int .u8 x0)) (h1:1<n->w.cell? ⟨b,off+1,none⟩=some (.int .u8 x1)) (h2:2<n->w.cell? ⟨b,off+2,none⟩=some (.int .u8 x2)) (h3:3<n->w.cell? ⟨b,off+3,none⟩=some (.int .u8 x3)):
 Calls prog 61 #[.slice (some ⟨b,off,none⟩) n cap] w λe w'=>e=.returned (.tuple #[.int .i32 (rO n x0 x1 x2 x3).1,.int .i64 (rO n x0 x1 x2 x3).2])/\w=w':=by
 by_cases hz:n=0
 ·subst hz;clear h0 h1 h2 h3;rw[Ef]
  go_enter func61,ntmps61
  go_wp2;go_ret2;exact⟨rfl,rfl⟩
 have hlt:(0:Int)<(n:Int):=by omega
 have hne:((n:Int)==0)=false:=by simp;omega
 have g0:=h0 (by omega);clear h0;have t2:=IL n x0 x1 x2 x3 (by omega);have t3:=AQ n x0 x1 x2 x3 (by omega);have t4:=Eg n x0 x1 x2 x3 (by omega);by_cases c1:x0<128
 ·rw[AP n x0 x1 x2 x3 (by omega) c1];clear h1 h2 h3 t2 t3 t4
  go_enter func61,ntmps61
  go_wp2;go_ret2;exact⟨rfl,rfl⟩
 by_cases c2:x0<192
 ·rw[zw n x0 x1 x2 x3 (by omega) (by omega) (by omega)];clear h1 h2 h3 t2 t3 t4
  go_enter func61,ntmps61
  go_wp2;go_ret2;exact⟨rfl,rfl⟩
 by_cases c3:x0<224
 ·rw[t2 (by omega) c3 l1];clear t2 t3 t4
  go_enter func61,ntmps61
  go_wp2_with fail
  refine(PD b off n cap ((x0:Int)%32) x1 w hm (by omega) (by omega) l1 h1).mono ?_;rintro e w' ⟨rfl,rfl⟩;go_wp2;go_ret2;rw[show((x0:Int)%32).toNat=x0%32 from by omega];exact⟨rfl,rfl⟩
 by_cases c4:x0<240
 ·rw[t3 (by omega) c4 l1 l2];clear t2 t3 t4
  go_enter func61,ntmps61
  go_wp2_with fail
  refine(PE b off n cap ((x0:Int)%16) x1 x2 w hm (by omega) (by omega) l1 l2 h1 h2).mono ?_;rintro e w' ⟨rfl,rfl⟩;go_wp2;go_ret2;rw[show((x0:Int)%16).toNat=x0%16 from by omega];exact⟨rfl,rfl⟩
 by_cases c5:x0<248
 ·rw[t4 (by omega) c5 l1 l2 l3];clear t2 t3 t4
  go_enter func61,ntmps61
  go_wp2_with fail
  refine(PH b off n cap ((x0:Int)%8) x1 x2 x3 w hm (by omega) (by omega) l1 l2 l3 h1 h2 h3).mono ?_;rintro e w' ⟨rfl,rfl⟩;go_wp2;go_ret2;rw[show((x0:Int)%8).toNat=x0%8 from by omega];exact⟨rfl,rfl⟩
 rw[zw n x0 x1 x2 x3 (by omega) (by omega) (by omega)];clear h1 h2 h3 t2 t3 t4
 go_enter func61,ntmps61
 go_wp2;go_ret2;exact⟨rfl,rfl⟩
end
section
open Go.RowKit
open Sg
variable {w:World}{a b off cap n:Nat}{L:List Nat}
theorem wV(i:Nat)(hi:i<n)(hc:n<=cap)(hcm:cap<=maxLen)(hm:n<=16384)(W:World):
 (Instr.slice 23 (.slice (some ⟨b,off,none⟩) n cap) (some (.int .i64 (i:Int))) none none).run prog W=.ok (.slice (some ⟨b,off+i,none⟩) (n-i) (cap-i)) W:=by
 rw[LX W _ _ n cap sG .i64 i (by omega) (by omega),size_bytes];simp only[Result.andThen,sliced];have hne:¬cap=i:=by omega
 simp[hne,addr_add]
theorem Iz(i c:Nat)(t:List Nat)(M cp:Nat)(h1:L.drop i=c::t)(hn:L.length=n)(hm:n<=16384)(hL:∀x∈L,x<256)(hM:n-i=M)(hT:r9 w b off L):
 Calls prog 61 #[.slice (some ⟨b,off+i,none⟩) M cp] w λe w'=>e=.returned (.tuple #[.int .i32 (Sc.jZ (c::t)).1,.int .i64 (Sc.jZ (c::t)).2])/\w=w':=by
 have h2:=Sc.kN h1;have hlen:(c::t).length=M:=by rw[<-h1,iq,hn,hM]
 have hlt:∀j,(c::t).getD j 0<256:=by
  intro j;rw[jS];cases hj:(c::t)[j]? with
  |none=>simp
  |some x=>
   have hx:x∈c::t:=nQ hj;rw[<-h1]at hx;simp only[Option.getD_some];exact hL x (List.mem_of_mem_drop hx)
 have hcell:∀j,j<M->w.cell? ⟨b,off+i+j,none⟩=some (.int .u8 ((c::t).getD j 0:Nat)):=by
  intro j hj;have e:L[i+j]?=some ((c::t).getD j 0):=by
   rw[<-qT,h1,jS,lU (by rw[hlen];exact hj)];rfl
  have:=hT (i+j) _ e;rw[<-LQ]at this;exact this
 have:=Ag M b (off+i) cp ((c::t).getD 0 0) ((c::t).getD 1 0) ((c::t).getD 2 0) ((c::t).getD 3 0) w (by omega) (hlt 0) (hlt 1) (hlt 2) (hlt 3) (λh=>hcell 0 h) (λh=>hcell 1 h) (λh=>hcell 2 h) (λh=>hcell 3 h);unfold Sc.jZ;rw[hlen];exact this
theorem EO(l:List Nat):-1<=(Sc.jZ l).1/\(Sc.jZ l).1<=1114111:=by
 unfold Sc.jZ rO Lib.decodeN;generalize l.getD 0 0=b0,l.getD 1 0=b1,l.getD 2 0=b2,l.getD 3 0=b3;constructor
 ·(repeat' split)<;>(dsimp only;omega)
 (repeat' split)<;>(dsimp only at*;omega)
theorem PI(p op c:Nat)(t:List Nat)(h1:L.drop p=c::t)(hbk:Sc.brk c=false)(hbl:Sc.blk c=false)(hn:L.length=n)(hm:n<=16384)(hc:n<=cap)(hcm:cap<=maxLen)(hL:∀x∈L,x<256)
 (c0:w.cell? ⟨a,0,none⟩=some (.slice (some ⟨b,off,none⟩) n cap)) (c1:w.cell? ⟨a,1,none⟩=some (.int .i64 p)) (c3:w.cell? ⟨a,3,none⟩=some (.int .i64 op)) (hT:r9 w b off L) (T:Nat) (az:p+Sc.pG (decide (0<op)) (Sc.fO (c::t))=T):
 Calls prog 67 #[.pointer (some ⟨a,0,none⟩)] w λe w'=>e=.returned (.int .i64 T)/\Below w.heap.size w w':=by
 have h2:=Sc.kN h1;have hrow:Sc.gL (c::t)≠0:=by rw[(Sc.jm c t hbk).2];omega
 have hin:=Sc.uI (c::t) hrow;have hrl:=Sc.kC (c::t);obtain⟨N,hN⟩:=eX ((Sc.jZ (c::t)).2+Sc.lD (decide (0<op)) ((c::t).getD ((Sc.jZ (c::t)).2-1) 0) (Sc.fO ((c::t).drop (Sc.jZ (c::t)).2)));obtain⟨hpl,aF,hN1⟩:=Sc.Gc (decide (0<op)) (c::t) hrow N hN;rw[hpl]at az;obtain⟨E,hE⟩:=eX (p+N);have hnx:=λW (hb:Below w.heap.size w W)=>Iz (w:=W) p c t (n-p) (cap-p) h1 hn hm hL rfl (hT.below hb)
 obtain⟨r0,hr0⟩:=eX ((Sc.jZ (c::t)).1);obtain⟨K0,aA⟩:=eX ((Sc.jZ (c::t)).2);rw[hr0,aA]at hnx;rw[aA]at hin hN;obtain⟨q0,hq0⟩:∃q0,p+K0=q0+1:=⟨p+K0-1,by omega⟩
 have aG:n=p+(c::t).length:=by simp;omega
 have hst:q0+1+Sc.lD (decide (0<op)) (L.getD q0 0) (Sc.fO (L.drop (q0+1)))=E:=by
  have e1:(c::t).getD (K0-1) 0=L.getD q0 0:=by
   rw[<-h1,jS,jS,qT,show p+(K0-1)=q0 by omega]
  have e2:(c::t).drop K0=L.drop (q0+1):=by rw[<-h1,lH,hq0]
  rw[e1,e2]at hN;omega
 have ah:=eu hnx;have hsl0:=wV (b:=b) (off:=off) p (by omega) hc hcm hm;obtain⟨M0,hM0⟩:=eX (n-p);obtain⟨C0,hC0⟩:=eX (cap-p);rw[hM0,hC0]at hsl0 ah;have e0:(p:Int)+(K0:Int)=(q0:Int)+1:=by omega
 have w0:IntKind.i64.wrap ((q0:Int)+1)=(q0:Int)+1:=jC _ (by omega);have i0:(p:Int)<=(n:Int):=by omega
 have ax:p<=q0/\q0+1<=n:=by omega
 have aZ:p+1<=E/\E<=n:=by simp at hrl aG;omega
 obtain⟨aH,aR,aS,HE,H1,HN⟩:=j6 hst az aF hE h1 hn;obtain⟨HL,aI,HC,HCM⟩:=jk hL hT hc hcm;have HB:=eu (λk=>gB (fu w.heap.size w) k);obtain⟨aT,bf⟩:=fD hbl hrl;clear hnx hst az aF hE h1 hn hL hT hc hcm hN hpl hin hrl hr0 aA hq0 hM0 hC0 hbk hbl hrow h2 aG hN1
 go_enter func67,ntmps67
 go_wp2_with fail
 go_big_quiet (exact(ah.out _ (HB.out _)).mono λ_ _ h=>⟨h.1,_,h.2.symm⟩)
 have hb:=HB.out nq;have c0:=fe hb c0;have c1:=fe hb c1;have c3:=fe hb c3;generalize w.drewN nq=W at*;obtain⟨ai,aJ⟩:=fD (aI.out.below hb) hb;clear hb HB ah aI hsl0
 go_upto_block 0 with fail
 go_cut [5] (λq wx=>q=.int .i64 E/\W=wx)
 case first=>
  go_wp2_with fail
  go_loopw [5] (λis wr=>∃q:Nat,is=.int .i64 ((q:Int)+1)/\p<=q/\q+1<=n/\Hid (q+1+Sc.lD (decide (0<op)) (L.getD q 0) (Sc.fO (L.drop (q+1)))=E)/\W=wr) (λis _=>n+1-(intOf is).toNat)
  case atStart=>exact⟨q0,rfl,ax.1,ax.2,aH,rfl⟩
  case round=>
   obtain⟨q,rfl,hq1,hq2,HQ,rfl⟩:=hrel;clear e0 w0;rcases gY L (q+1)with⟨h1,h2⟩|⟨x,u,h1,h2,h3⟩
   ·have i2:¬((q:Int)+1<(n:Int)):=by have:=HN.out;omega
    have HEq:=eu (show E=q+1 by have:=HQ.out;rw[h1,show Sc.fO []=[]from rfl,show Sc.lD (decide (0<op)) (L.getD q 0) []=0 from rfl]at this;omega);clear h1 h2 HQ;go_wp2_with fail
    go_meet
    exact⟨by rw[HEq.out];rfl,rfl⟩
   have aU:q+1<n:=by have:=HN.out;omega
   have i2:(q:Int)+1<(n:Int):=by omega
   obtain⟨y,hy⟩:=iT L q (by have:=HN.out;omega);have aK:L.getD q 0=y:=by rw[jS,hy];rfl
   have dx:W.cell? ⟨b,off+(q+1),none⟩=some (.int .u8 x):=ai.out.at_ h1;have dy:=ai.out q y hy;obtain⟨M,hM⟩:=eX (n-(q+1));obtain⟨C,hC⟩:=eX (cap-(q+1));have hsl:=wV (b:=b) (off:=off) (q+1) aU HC.out HCM.out hm;have hnx:=Iz (w:=W) (q+1) x u M C h1 HN.out hm HL.out hM ai.out;have hB:=ru (cap:=cap) (q+1) x u HN.out (by omega) ai.out h1;have ag:=I7 (a:=a) (cap:=cap) (q+1) op x u h1 HN.out hm c0 c3 ai.out;rw[hM,hC,show((q+1:Nat):Int)=(q:Int)+1 from by omega]at hsl;rw[show((q+1:Nat):Int)=(q:Int)+1 from by omega]at hB ag;have hz:=oQ x u;have aa:=EO (x::u);have hstp:=Sc.yo (decide (0<op)) y (x::u);have hgo:=Sc.Cg (decide (0<op)) y (x::u);rw[show Sc.vZ (decide (0<op)) (Sc.blk y) (x::u)=(decide ((Sc.jZ (x::u)).1<0)||Sc.brk x||Sc.zu (decide (0<op)) (x::u)||(x==35&&Sc.blk y)||(decide (0<op)&&Sc.Li x))from rfl]at hstp hgo;have hrow:=Sc.kC (x::u);have hQ:=HQ.out;rw[aK,h1]at hQ;obtain⟨r,hr⟩:=eX ((Sc.jZ (x::u)).1);obtain⟨K,hK⟩:=eX ((Sc.jZ (x::u)).2);obtain⟨Z,hZ⟩:=eX (Sc.kF (x::u));obtain⟨Co,aL⟩:=eX (Sc.zu (decide (0<op)) (x::u));obtain⟨By,aM⟩:=eX (Sc.blk y);obtain⟨Fx,aN⟩:=eX (Sc.Li x);obtain⟨Kx,hKx⟩:=eX (Sc.brk x);have hbl:=nJ y W;have hfl:=EH x W;rw[hr,hK]at hnx hgo;rw[hr]at aa hstp;rw[aL]at ag hstp hgo;rw[hKx]at hstp hgo hz;rw[aM]at hstp hgo hbl;rw[aN]at hstp hgo hfl;rw[hZ]at hB hz;obtain⟨S,hS⟩:=eX ((decide (r<0)||Kx||Co||(x==35&&By)||(decide (0<op)&&Fx)));rw[hS]at hstp hgo;have ae:=eu hS;have ay:=eu (λh:S=true=>show E=q+1 by rw[hstp h]at hQ;omega)
   have aO:=eu (λh:S=false=>show 1<=K/\q+1+K<=n/\q+K+1+Sc.lD (decide (0<op)) (L.getD (q+K) 0) (Sc.fO (L.drop (q+K+1)))=E by
    obtain⟨g1,g2,g3⟩:=hgo h;have hl:n=q+1+(x::u).length:=by have:=HN.out;simp;omega
    have e1:(x::u).getD (K-1) 0=L.getD (q+K) 0:=by
     rw[<-h1,jS,jS,qT,show q+1+(K-1)=q+K by omega]
    have e2:(x::u).drop K=L.drop (q+K+1):=by rw[<-h1,lH,show q+1+K=q+K+1 by omega]
    rw[g1,e1,e2]at hQ
    exact⟨g2,by omega,by omega⟩)
   obtain⟨aV,ah,af,aj,ak,aP⟩:=j6 hsl hnx hB ag hbl hfl;have gZ:decide (0<Z)=Kx:=by
    cases hb:Kx with
    |true=>exact iO (by have:=mt hz.1 (by rw[hb];simp);omega)
    |false=>exact iF (by have:=hz.2 hb;omega)
   have HZ:=eu gZ;clear h1 h2 h3 hy aK hM hC hnx hB ag hz hstp hgo hrow hQ HQ hr hK hZ aL aM aN hKx hbl hfl hS gZ hsl;have hsl:=aV.out;go_wp2_with fail
   refine ah.out.mono ?_;rintro e w1 ⟨rfl,rfl⟩;clear hsl ah;go_upto_region 5 with fail
   go_cut [97] (λs wx=>s=.bool S/\W=wx)
   case first=>
    by_cases q1:r<0
    ·have HE2:=eu (show S=true by rw[<-ae.out,iO q1];simp);clear aa;go_wp2_with fail
     go_meet
     exact⟨by rw[HE2.out],rfl⟩
    have g1:¬(r<0):=q1;cases Kx with
    |true=>
     have gz:(0:Int)<(Z:Int):=by have:=zq HZ.out;omega
     have HE2:=eu (show S=true by rw[<-ae.out];simp);clear aa q1;go_wp2_with fail
     refine af.out.mono ?_;rintro e w1 ⟨rfl,rfl⟩;go_wp2_with fail
     go_meet
     exact⟨by rw[HE2.out],rfl⟩
    |false=>
     obtain rfl:Z=0:=by have:=OL HZ.out;omega
     cases Co with
     |true=>
      have HE2:=eu (show S=true by rw[<-ae.out];simp);clear aa q1;go_wp2_with fail
      refine af.out.mono ?_;rintro e w1 ⟨rfl,rfl⟩;go_wp2_with fail
      refine aj.out.mono ?_;rintro e w1 ⟨rfl,rfl⟩;go_wp2_with fail
      go_meet
      exact⟨by rw[HE2.out],rfl⟩
     |false=>
      by_cases q2:x=35
      ·have g2:((x:Int)==35)=true:=by simp;omega
       cases By with
       |true=>
        have HE2:=eu (show S=true by rw[<-ae.out,q2];simp);clear aa q1 q2;go_wp2_with fail
        refine af.out.mono ?_;rintro e w1 ⟨rfl,rfl⟩;go_wp2_with fail
        refine aj.out.mono ?_;rintro e w1 ⟨rfl,rfl⟩;go_wp2_with fail
        refine ak.out.mono ?_;rintro e w1 ⟨rfl,rfl⟩;go_wp2_with fail
        go_meet
        exact⟨by rw[HE2.out],rfl⟩
       |false=>
        by_cases q3:0<op
        ·have g3:(0:Int)<(op:Int):=by omega
         have HE2:=eu (show S=Fx by rw[<-ae.out,iO q3,iF q1];simp);clear aa q1 q2 q3;go_wp2_with fail
         refine af.out.mono ?_;rintro e w1 ⟨rfl,rfl⟩;go_wp2_with fail
         refine aj.out.mono ?_;rintro e w1 ⟨rfl,rfl⟩;go_wp2_with fail
         refine ak.out.mono ?_;rintro e w1 ⟨rfl,rfl⟩;go_wp2_with fail
         refine aP.out.mono ?_;rintro e w1 ⟨rfl,rfl⟩;go_wp2_with fail
         go_meet
         exact⟨by rw[HE2.out],rfl⟩
        obtain rfl:op=0:=by omega
        have HE2:=eu (show S=false by rw[<-ae.out,iF q1];simp);clear aa q1 q2 q3;go_wp2_with fail
        refine af.out.mono ?_;rintro e w1 ⟨rfl,rfl⟩;go_wp2_with fail
        refine aj.out.mono ?_;rintro e w1 ⟨rfl,rfl⟩;go_wp2_with fail
        refine ak.out.mono ?_;rintro e w1 ⟨rfl,rfl⟩;go_wp2_with fail
        go_meet
        exact⟨by rw[HE2.out],rfl⟩
      have g2:((x:Int)==35)=false:=by simp;omega
      have g2':(x==35)=false:=by simp;omega
      by_cases q3:0<op
      ·have g3:(0:Int)<(op:Int):=by omega
       have HE2:=eu (show S=Fx by rw[<-ae.out,iO q3,iF q1,g2'];simp);clear aa q1 q2 q3 g2';go_wp2_with fail
       refine af.out.mono ?_;rintro e w1 ⟨rfl,rfl⟩;go_wp2_with fail
       refine aj.out.mono ?_;rintro e w1 ⟨rfl,rfl⟩;go_wp2_with fail
       refine aP.out.mono ?_;rintro e w1 ⟨rfl,rfl⟩;go_wp2_with fail
       go_meet
       exact⟨by rw[HE2.out],rfl⟩
      obtain rfl:op=0:=by omega
      have HE2:=eu (show S=false by rw[<-ae.out,iF q1,g2'];simp);clear aa q1 q2 q3 g2';go_wp2_with fail
      refine af.out.mono ?_;rintro e w1 ⟨rfl,rfl⟩;go_wp2_with fail
      refine aj.out.mono ?_;rintro e w1 ⟨rfl,rfl⟩;go_wp2_with fail
      go_meet
      exact⟨by rw[HE2.out],rfl⟩
   case rest=>
    obtain⟨rfl,rfl⟩:=hcut;cases S with
    |true=>
     have HEq:=eu (ay.out rfl);go_wp2_with fail
     go_meet
     exact⟨by rw[HEq.out];rfl,rfl⟩
    |false=>
     obtain⟨g1,g2,g3⟩:=aO.out rfl;have HR:=eu g3;obtain⟨Q,hQ⟩:=eX (q+K);rw[hQ]at HR;have e1:(q:Int)+1+(K:Int)=(Q:Int)+1:=by omega
     have w1:IntKind.i64.wrap ((Q:Int)+1)=(Q:Int)+1:=jC _ (by omega);have j1:p<=Q/\Q+1<=n/\q<Q:=by omega
     clear g1 g2 g3 hQ aO ay aa dx dy;go_wp2_with fail
     go_roundw
     case rel=>exact⟨Q,by go_num,j1.1,j1.2.1,HR,trivial⟩
     case measure=>simp[intOf];omega
 case rest=>
  obtain⟨rfl,rfl⟩:=hcut;obtain⟨Q0,rfl⟩:∃Q0,E=Q0+1:=⟨E-1,by omega⟩
  have htr:p+Sc.trim ((Sc.fO (c::t)).take (Q0+1-p))=T:=by rw[show Q0+1-p=N by have:=HE.out;omega];exact aR.out
  have aW:=eu htr;have aX:p<=Q0/\Q0+1<=n:=by omega
  have aY:=eu (show Q0+1-p<=Sc.gL (c::t)by have:=HE.out;have:=aS.out;omega);clear htr e0 w0 c3 aH;go_wp2_with fail
  go_loopw [5] (λis wr=>∃q:Nat,is=.int .i64 ((q:Int)+1)/\p<=q/\q<=Q0/\Hid (p+Sc.trim ((Sc.fO (c::t)).take (q+1-p))=T)/\W=wr) (λis _=>(intOf is).toNat)
  case atStart=>exact⟨Q0,rfl,aX.1,fC _,aW,rfl⟩
  case round=>
   obtain⟨q,rfl,hq1,hq2,HQ,rfl⟩:=hrel;have hrl:(Sc.fO (c::t)).length=Sc.gL (c::t):=Sc.iV _;have aB:=aY.out;by_cases aC:p<q
   ·obtain⟨m,rfl⟩:∃m,q=m+1:=⟨q-1,by omega⟩
    obtain⟨z,hz⟩:=iT L (m+1) (by have:=HN.out;omega);have dz:=ai.out (m+1) z hz;have hgd:(Sc.fO (c::t)).getD (m+1-p) 0=z:=by
     rw[Sc.tQ _ _ (by omega),<-H1.out,jS,qT,show p+(m+1-p)=m+1 by omega,hz];rfl
    have av:=Sc.yL (Sc.fO (c::t)) (m+1-p) (by omega);rw[hgd,show m+1-p+1=m+1+1-p by omega]at av;have hQ:=HQ.out;rw[av]at hQ;have hbz:=nJ z W;have i2:(p:Int)<(m:Int)+1:=by omega
    have i3:(m:Int)+1<(n:Int):=by omega
    obtain⟨Bz,aD⟩:=eX (Sc.blk z);rw[aD]at hbz hQ;have aQ:=eu hbz;cases Bz with
    |true=>
     have HR:=eu (show p+Sc.trim ((Sc.fO (c::t)).take (m+1-p))=T by rw[eT rfl]at hQ;exact hQ);have j1:p<=m:=by omega
     clear hrl aB hz hgd av hQ hbz aD HQ aC;go_wp2_with fail
     refine aQ.out.mono ?_;rintro e w1 ⟨rfl,rfl⟩;go_wp2_with fail
     go_roundw
     case rel=>exact⟨m,by go_num,j1,by omega,HR,trivial⟩
     case measure=>simp[intOf];omega
    |false=>
     have HR:=eu (show T=m+1+1 by rw[eQ (by simp)]at hQ;omega);clear hrl aB hz hgd av hQ hbz aD HQ aC;go_wp2_with fail
     refine aQ.out.mono ?_;rintro e w1 ⟨rfl,rfl⟩;go_wp2_with fail
     go_ret;exact⟨by rw[HR.out];rfl,aJ.out⟩
   obtain rfl:q=p:=by omega
   have HR:=eu (show T=q+1 by
    have h:=HQ.out
    rw[show q+1-q=1 by omega,Sc.JI _ (by omega) (by
     rw[Sc.tQ _ _ (by omega)];exact aT.out)]at h
    exact h.symm)
   clear hrl aB HQ aC;go_wp2_with fail
   go_ret;exact⟨by rw[HR.out];rfl,aJ.out⟩
end
end Go.Proofs.YtfbiffdmhcjhbaaGreat

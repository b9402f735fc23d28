import Derived.Test.YtfbiffdmhcjhbaaGreatZa42
import Derived.Test.YtfbiffdmhcjhbaaGreatZa43
set_option linter.all false
set_option maxHeartbeats 16000000
set_option maxRecDepth 100000
set_option synthInstance.maxSize 4000
set_option synthInstance.maxHeartbeats 0
namespace Go.Proofs.YtfbiffdmhcjhbaaGreat
open Go.RowKit Tryz
section
open Go.RowKit
open Sq
open Ar
open Fl (Tk)
structure Tr(b:ByteArray)(d:Nat)(l:List Tk)(T:List Nd):Prop where
 ck:Ck T l.length
 O4:Rw.jl 0 l
 len:l.length<=b.size
 sz:T.length<=1+5*l.length
 kids:∀x∈T,x.ks.length<=T.length
 toks:l=Sc.tokens (Sc.fP b)
 tree:T=(Ps.tree (Sc.fP b) d).2.1
theorem Oa(b:ByteArray)(d:Nat)(hb:b.size<=16384)(h1:1<=d)(h50:d<=50):Tr b d (Sc.tokens (Sc.fP b)) (Ps.tree (Sc.fP b) d).2.1:=by
 have htl:=xE (Sc.fP b);have hti:=Rw.qN (Sc.fP b);have hnl:=Sc.ll b;have e:(Ps.tree (Sc.fP b) d).2.1=(Ps.read (Sc.tokens (Sc.fP b)) d).t:=by unfold Ps.tree;rw[eQ (by omega)]
 obtain⟨l,hl⟩:=eX (Sc.tokens (Sc.fP b));rw[e,hl];rw[hl]at htl hti;have hrd:=(Ps.MZ l d hti (by omega)).1;have h3:=Ps.tY (depth:=d) hti (Rw.fE l) (Ps.start l) (λr hr=>⟨Ps.rows_ok l r hr,gG _⟩) (Ps.tZ l (by omega)) (gG _);have h4:=Ps.sI (depth:=d) hti (Rw.fE l) (Ps.start l) (λr hr=>⟨Ps.rows_ok l r hr,gG _⟩) (Ps.tZ l (by omega)) (by show(mU (l.length:Int)).length<=1+5*0;unfold mU;rw[eQ (by omega)];exact fC _);refine⟨hrd,hti,by omega,?_,Ft.Bd hrd,hl.symm,?_⟩
 ·unfold Ps.read;omega
 rw[e,hl]
theorem Ob(w:World)(bv:Value)(b:ByteArray)(d:Nat)(hb:ou w bv b)(hz:b.size<=16384)(h1:1<=d)(h50:d<=50):
 Calls prog 7 #[bv,.int .i64 d] w λe w'=>∃ta tc na nc dv,e=.returned (.tuple #[.slice ta (Sc.tokens (Sc.fP b)).length tc,.agg #[.slice na (Ps.tree (Sc.fP b) d).2.1.length nc],dv])/\Reads iZ w' (.slice ta (Sc.tokens (Sc.fP b)).length tc) (Sc.tokens (Sc.fP b))/\iR w' (.slice na (Ps.tree (Sc.fP b) d).2.1.length nc) (Ps.tree (Sc.fP b) d).2.1/\Below w.heap.size w w':=by
 refine(Rc w bv b d hb hz h1 h50).mono ?_;rintro e w' ⟨tv,nv,dv,L,rfl,ht,hO,hL,hd,hB⟩;have e1:(Ps.tree (Sc.fP b) d).1=Sc.tokens (Sc.fP b):=by unfold Ps.tree;rw[eQ (by omega)]
 have hR:=Reads.fJ (E:=iZ) ht;rw[e1]at hR;have hN:=hO.nodes;rw[hL]at hN;obtain⟨ta,tc,rfl⟩:=hR.shape;obtain⟨na,nc,rfl⟩:=hN.shape;exact⟨ta,tc,na,nc,dv,rfl,hR,hN,hB⟩
theorem Le(x n:Int)(w:World)(h1:1<=n)(h2:n<=100000):
 Calls prog 8 #[.int .i64 x,.int .i64 n] w λe w'=>e=.returned (.int .i64 (pg x n))/\w=w':=by
 have hb1:=Am x (show 0<n by omega);have hb2:-n<x.tmod n:=by
  have:=Am (-x) (show 0<n by omega);rw[Lv]at this;omega
 have hz:(n==0)=false:=by simp;omega
 have hn1:n≠0:=by omega
 unfold pg;by_cases hc:x.tmod n<0
 ·rw[eT hc]
  go_enter func8,ntmps8
  go_wp2;go_ret;exact⟨rfl,rfl⟩
 rw[eQ hc]
 go_enter func8,ntmps8
 go_wp2;go_ret;exact⟨rfl,rfl⟩
theorem Ho(x:Int)(n:Nat)(m:Int)(hm:m=(n:Int))(h1:1<=n)(h2:n<=100000):∃k:Nat,k<n/\((k:Int)=pg x n)/\∀w:World,Calls prog 8 #[.int .i64 x,.int .i64 m] w λe w'=>e=.returned (.int .i64 (k:Int))/\w=w':=by
 subst hm;have hb:=zN x n (by omega);refine⟨(pg x n).toNat,by omega,by omega,λw=>?_⟩;have:=Le x n w (by omega) (by omega);rw[show((pg x n).toNat:Int)=pg x n from by omega];exact this
theorem RE:(Wk.Ak (Sc.tokens [97]) (Ps.tree [97] 5).2.1 9=-1)/\(Wk.Ak (Sc.tokens [97]) (Ps.tree [97] 5).2.1 0=2):=by decide+kernel
theorem NP(w:World):Calls prog 4 #[] w λe w'=>e=.returned (.bool true)/\Below w.heap.size w w':=by
 obtain⟨Q,hQ⟩:=eX ((λe (w':World)=>e=Ending.returned (.bool true)/\Below w.heap.size w w'));have HQ:=eu (λw' (h:Below w.heap.size w w')=>show Q (.returned (.bool true)) w' from by rw[<-hQ];exact⟨rfl,h⟩);rw[hQ];obtain⟨w1,hw1⟩:=eX (w.alloc (.cells #[.int .u8 97] 5 (1,2)));have hb1:Below w.heap.size w w1:=hw1▸eZ w _;have hbs:ou w1 (.slice (some ⟨w.heap.size,0,none⟩) 1 1) ⟨#[97]⟩:=by rw[<-hw1];exact JD w [97] _ 1 _ rfl (by decide) rfl
 have HT:=eu (Ob w1 _ _ 5 hbs (by decide) (by decide) (by decide));have hna:Sc.fP ⟨#[97]⟩=[97]:=rfl;rw[hna]at HT;have htr:=Oa ⟨#[97]⟩ 5 (by decide) (by decide) (by decide);rw[hna]at htr;obtain⟨i1,i2⟩:=RE;obtain⟨l,hl⟩:=eX (Sc.tokens [97]);obtain⟨T,hT⟩:=eX ((Ps.tree [97] 5).2.1);rw[hl,hT]at HT htr i1 i2;have hsz:=htr.sz;have hln:=htr.len;have ah:(⟨#[97]⟩:ByteArray).size=1:=rfl;have av:=eu htr;obtain⟨NL,aa⟩:=eX (l.length);obtain⟨NN,ae⟩:=eX (T.length);obtain⟨ax,ay⟩:=fD aa ae;rw[aa,ae]at HT;have aB:NL<=1:=by omega
 have aC:NN<=6:=by omega
 obtain⟨HI1,HI2,HW1,HB1⟩:=jk i1 i2 hw1 hb1;have hcv:=Lib.run_convert_bytes_const (P:=prog) w 23 5 #[.int .u8 97] 1 1 underlying23 underlying5;clear hQ hw1 hb1 hbs hna htr hl hT aa ae hsz hln ah i1 i2
 go_enter func4,ntmps4
 go_wp2_with fail
 rw[HW1.out];refine HT.out.mono ?_;rintro e w2 ⟨ta,tc,na,nc,dv,rfl,hR,hN,hb2⟩;obtain⟨bt,hbt⟩:=eX (w2.heap.size);obtain⟨w3,hw3⟩:=eX (w2.alloc (.cells #[.slice na NN nc] 31));have hb3:Below w2.heap.size w2 w3:=hw3▸eZ w2 _;have c3:w3.cell? ⟨bt,0,none⟩=some (.slice na NN nc):=by rw[<-hw3,<-hbt];exact at_new rfl
 have ai:=eu (λW (hW:Below w3.heap.size w3 W) a=>RO W (.slice ta NL tc) (.slice na NN nc) l 0 T a ((hR.below hb3).below hW) av.out.O4 (by rw[ax.out];omega) ((hN.below hb3).below hW) (by rw[ay.out];omega));have HB3:=eu (eU (eU HB1.out hb2) hb3);obtain⟨az,HW3,aA⟩:=gW c3 hw3 hbt;clear hR hN hb2 hb3 hw3 hbt HW1 HT hcv;go_wp2_with fail
 rw[aA.out,HW3.out];clear HW3;refine(Da na NN nc w3).mono ?_;rintro e w4 ⟨rfl,hb4⟩;have af:=eu hb4;clear c3 hb4;go_wp2_with fail
 refine(ai.out w4 af.out 9).mono ?_;rintro e w5 ⟨rfl,hb5⟩;rw[HI1.out];have ag:=eu (eU af.out hb5);have c5:=fe ag.out az.out;clear hb5 af;go_wp2_with fail
 refine(Da na NN nc w5).mono ?_;rintro e w6 ⟨rfl,hb6⟩;have aj:=eu (eU ag.out hb6);clear c5 hb6 ag;go_wp2_with fail
 refine(ai.out w6 aj.out 0).mono ?_;rintro e w7 ⟨rfl,ak⟩;rw[HI2.out];have HD:=eu (HQ.out w7 (eU (eU HB3.out aj.out) ak));clear ak;go_wp2_with fail
 first|exact HD.out|(go_ret;exact HD.out)
end
section
open Go.RowKit
open Sq
open Ar
open Fl (Tk)
theorem Jn(w:World)(va vb:Value)(A:List Int)(hA:Reads encI w va A)(hB:Reads encI w vb A)(hl:A.length<=1000000):
 Calls prog 12 #[va,vb] w λe w'=>e=.returned (.bool true)/\Below w.heap.size w w':=by
 obtain⟨aa,ac,rfl⟩:=hA.shape;obtain⟨ba,bc,rfl⟩:=hB.shape;have HA:=eu (λW (hW:Below w.heap.size w W) j x hj=>qZ (hA.below hW) j x hj);have HB:=eu (λW (hW:Below w.heap.size w W) j x hj=>qZ (hB.below hW) j x hj);obtain⟨N,hN⟩:=eX (A.length);have HN:=eu hN;rw[hN]at hl⊢;have hQ:∀w',Below w.heap.size w w'->(λe (w':World)=>e=Ending.returned (.bool true)/\Below w.heap.size w w') (.returned (.bool true)) w':=λw' h=>⟨rfl,h⟩
 obtain⟨Q,ae⟩:=eX ((λe (w':World)=>e=Ending.returned (.bool true)/\Below w.heap.size w w'));rw[ae]at hQ⊢;have HQ:=eu hQ;have n1:(N==N)=true:=by simp
 have n2:((N:Int)==(N:Int))=true:=by simp
 have n3:((N:Int) !=(N:Int))=false:=by simp
 clear hQ ae hN hA hB
 go_enter func12,ntmps12
 go_wp2_with fail
 go_loopw [5] (λiv wr=>∃(i:Nat),iv=.int .i64 i/\i<=N/\Hid (Below w.heap.size w wr)) (λiv _=>N-(intOf iv).toNat)
 case atStart=>exact⟨0,rfl,gG _,eu (fu _ _)⟩
 case round=>
  obtain⟨i,rfl,hi,HW⟩:=hrel;by_cases hlt:i<N
  ·obtain⟨x,hx⟩:=iT A i (by rw[HN.out];exact hlt);obtain⟨b1,o1,rfl,c1⟩:=HA.out wr HW.out i x hx;obtain⟨b2,o2,rfl,c2⟩:=HB.out wr HW.out i x hx;have g1:(i:Int)<(N:Int):=by omega
   have m1:(x==x)=true:=by simp
   have m2:(x !=x)=false:=by simp
   have HX:=eu (λq=>gB HW.out q);clear hx;go_wp2_with fail
   go_big_quiet (fail)
   have af:=eu (HX.out nq);go_wp2_with fail
   go_roundw
   case rel=>exact⟨i+1,by go_num,by omega,af⟩
   case measure=>simp[intOf];omega
  obtain rfl:i=N:=by omega
  have HD:=eu (HQ.out wr HW.out);clear hlt HQ;go_wp2_with fail
  first|exact HD.out|(go_ret;exact HD.out)
theorem NQ(w:World)(nv:Value)(l:List Nd)(hN:iR w nv l)(hl:l.length<=1000000):
 Calls prog 20 #[.agg #[nv]] w λe w'=>e=.returned (.int .i64 (Wk.lG l l.length:Nat))/\Below w.heap.size w w':=by
 obtain⟨na,nc,rfl⟩:=hN.shape;have HX:=eu (λW (hW:Below w.heap.size w W) j x hj=>(hN.below hW).at_ j x hj);obtain⟨NN,aa⟩:=eX (l.length);have af:=eu aa;rw[aa]at hl⊢;have hQ:∀w',Below w.heap.size w w'->(λe (w':World)=>e=Ending.returned (.int .i64 (Wk.lG l NN:Nat))/\Below w.heap.size w w') (.returned (.int .i64 (Wk.lG l NN:Nat))) w':=λw' h=>⟨rfl,h⟩
 obtain⟨Q,ae⟩:=eX ((λe (w':World)=>e=Ending.returned (.int .i64 (Wk.lG l NN:Nat))/\Below w.heap.size w w'));rw[ae]at hQ⊢;have HQ:=eu hQ;obtain⟨w1,hw1⟩:=eX (w.alloc (.cells #[.slice na NN nc] 31));have hb1:Below w.heap.size w w1:=hw1▸eZ w _;obtain⟨bx,hbx⟩:=eX (w.heap.size);have hx1:w1.cell? ⟨bx,0,none⟩=some (.slice na NN nc):=by rw[<-hw1,<-hbx];exact at_new rfl
 obtain⟨HW1,ag,HB1⟩:=gW hw1 hbx hb1;have ah:=eu (λW (hW:Below w1.heap.size w1 W)=>fe hW hx1);clear hQ ae aa hw1 hbx hb1 hN
 go_enter func20,ntmps20
 go_upto_region 1 with fail
 rw[HW1.out,ag.out];clear HW1 hx1;go_wp2_with fail
 go_loopw [3,4] (λev iv wr=>∃(i c:Nat),iv=.int .i64 i/\i<=NN/\ev=.int .i64 c/\c<=i/\Hid (c=Wk.lG l i)/\Hid (Below w1.heap.size w1 wr)) (λ_ iv _=>NN-(intOf iv).toNat)
 case atStart=>exact⟨0,0,rfl,gG _,rfl,fC _,eu rfl,eu (fu _ _)⟩
 case round=>
  obtain⟨i,c,rfl,hi,rfl,hc,HC,HB⟩:=hrel;have hcx:=ah.out wr HB.out;by_cases hlt:i<NN
  ·obtain⟨x,hx⟩:=iT l i (by rw[af.out];omega);obtain⟨nb,no,ka,kc,rfl,c0,-,-,-,-,-,-⟩:=HX.out wr (eU HB1.out HB.out) i x hx;have gi:(i:Int)<(NN:Int):=by omega
   have hst:=Wk.xM hx;by_cases h11:x.k=11
   ·rw[eT h11]at hst;have HS:=eu (show c+1=Wk.lG l (i+1)by rw[hst,<-HC.out]);have g11:(x.k==11)=true:=by simp[h11]
    clear hst hx h11;go_wp2_with fail
    go_roundw
    case rel=>exact⟨i+1,c+1,by go_num,by omega,by go_num,by omega,HS,HB⟩
    case measure=>simp[intOf];omega
   rw[eQ h11]at hst;have HS:=eu (show c=Wk.lG l (i+1)by rw[hst,<-HC.out];rfl);have g11:(x.k==11)=false:=by simp[h11]
   clear hst hx h11;go_wp2_with fail
   go_roundw
   case rel=>exact⟨i+1,c,by go_num,by omega,rfl,by omega,HS,HB⟩
   case measure=>simp[intOf];omega
  obtain rfl:i=NN:=by omega
  have HD:=eu (HQ.out wr (eU HB1.out HB.out));rw[<-HC.out]at HD;clear hlt HQ;go_wp2_with fail
  first|exact HD.out|(go_ret;exact HD.out)
theorem Qa(w:World)(tv kv:Value)(l:List Tk)(k u:Int)(f t:Nat)(y:Bool)(hR:Reads iZ w tv l)(hl:l.length<=100000)(hft:f<=t)(htl:t<=l.length):
 Calls prog 16 #[tv,.agg #[.int .i64 k,.int .i64 f,.int .i64 t,.int .i64 u,kv,.bool y]] w λe w'=>e=.returned (.agg #[.int .i64 ((Wk.nV l f t).1:Nat),.int .i64 ((Wk.nV l f t).2:Nat)])/\Below w.heap.size w w':=by
 obtain⟨ta,tc,rfl⟩:=hR.shape;have HX:=eu (λW (hW:Below w.heap.size w W) j x hj=>iG (hR.below hW) j x hj);obtain⟨NL,ag⟩:=eX (l.length);have aa:=eu ag;rw[ag]at hl htl⊢;have ai:=λW (hW:Below w.heap.size w W)=>hR.below hW
 rw[ag]at ai;clear ag hR;have g1:¬((f:Int)<0):=by omega
 have g2:¬((f:Int)>(t:Int)):=by omega
 have g3:¬((t:Int)>(NL:Int)):=by omega
 have g22:¬(t<f):=by omega
 have ak:¬(NL<t):=by omega
 obtain⟨w1,hw1⟩:=eX (w.alloc (.cells #[.int .i64 k,.int .i64 f,.int .i64 t,.int .i64 u,kv,.bool y] 47));obtain⟨w2,hw2⟩:=eX (w1.alloc (.cells #[.int .i64 0,.int .i64 0] 44));have hb1:Below w.heap.size w w1:=hw1▸eZ w _;have hb2:Below w1.heap.size w1 w2:=hw2▸eZ w1 _;have hb:Below w.heap.size w w2:=eU hb1 hb2;have hs1:w1.heap.size=w.heap.size+1:=by rw[<-hw1];simp
 have x1:w2.cell? ⟨w.heap.size,1,none⟩=some (.int .i64 f):=by rw[<-hw2];refine gX ?_;rw[<-hw1];exact at_new rfl
 have x2:w2.cell? ⟨w.heap.size,2,none⟩=some (.int .i64 t):=by rw[<-hw2];refine gX ?_;rw[<-hw1];exact at_new rfl
 obtain⟨bs,hbs⟩:=eX (w1.heap.size);have s0:w2.cell? ⟨bs,0,none⟩=some (.int .i64 0):=by rw[<-hw2,<-hbs];exact at_new rfl
 have s1:w2.cell? ⟨bs,1,none⟩=some (.int .i64 0):=by rw[<-hw2,<-hbs];exact at_new rfl
 have f0:w2.frozen? ⟨bs,0,none⟩=false:=by rw[<-hw2,<-hbs];exact(pP rfl).2
 have f1:w2.frozen? ⟨bs,1,none⟩=false:=by rw[<-hw2,<-hbs];exact(pP rfl).2
 have hblk:w2.heap[bs]?=some (.cells #[.int .i64 0,.int .i64 0] 44 (0,0)):=by rw[<-hw2,<-hbs];exact qj _ _
 have ah:w.heap.size<=bs:=by omega
 have HS:=eu (fun(A B:Value)=>show((w2.setCell ⟨bs,0,none⟩ A).setCell ⟨bs,1,none⟩ B).cell? ⟨bs,0,none⟩=some A/\((w2.setCell ⟨bs,0,none⟩ A).setCell ⟨bs,1,none⟩ B).cell? ⟨bs,1,none⟩=some B/\Below w.heap.size w ((w2.setCell ⟨bs,0,none⟩ A).setCell ⟨bs,1,none⟩ B)from by
  have h0:(w2.setCell ⟨bs,0,none⟩ A).heap[bs]?=some (.cells ((#[.int .i64 0,.int .i64 0]:Array Value).setIfInBounds 0 A) 44 (0,0)):=mr hblk A;have h1:((w2.setCell ⟨bs,0,none⟩ A).setCell ⟨bs,1,none⟩ B).heap[bs]?=some (.cells (((#[.int .i64 0,.int .i64 0]:Array Value).setIfInBounds 0 A).setIfInBounds 1 B) 44 (0,0)):=mr h0 B
  exact⟨(gQ h1 0).trans rfl,(gQ h1 1).trans rfl,(hb.setCell (p:=⟨bs,0,none⟩) ah A).setCell (p:=⟨bs,1,none⟩) ah B⟩)
 obtain⟨HW1,HW2,av⟩:=gW hw1 hw2 hbs;clear hblk;have af:=eu (show w.heap.size+1=bs by omega);have HB:=eu hb;clear hw1 hw2 hbs hb1 hb2 hs1;by_cases h1:f<t
 ·obtain⟨j,hj⟩:=eX (t-1);obtain⟨x,hx⟩:=iT l f (by rw[aa.out];omega);obtain⟨z,hz⟩:=iT l j (by rw[aa.out];omega);obtain⟨b,o,rfl,-,c1,-⟩:=HX.out w2 hb f x hx;obtain⟨b',o',e',-,-,c2⟩:=HX.out w2 hb j z hz;injection e' with e'
  injection e' with e1 e2
  subst e1 e2;have gf:(f:Int)<(NL:Int):=by omega
  have gj:(j:Int)<(NL:Int):=by omega
  have aj:(f:Int)<(t:Int):=by omega
  have gw:IntKind.i64.wrap ((t:Int)-1)=(j:Int):=by
   rw[show(t:Int)-1=(j:Int)by omega];exact jC _ (by omega)
  have hsp:Wk.nV l f t=(x.2.1,z.2.2):=by unfold Wk.nV;rw[eT h1,sD hx,hj,oC hz]
  rw[hsp];clear hb hj hx hz hsp
  go_enter func16,ntmps16
  go_upto_region 1 with fail
  rw[HW1.out,af.out,HW2.out];go_upto_region 2 with fail
  go_region
  obtain⟨r0,r1,rb⟩:=HS.out (.int .i64 x.2.1) (.int .i64 z.2.2);have ae:=eu rb;clear rb;go_wp2_with fail
  refine o8 (v:=.agg #[.int .i64 x.2.1,.int .i64 z.2.2]) ?_ rfl ⟨rfl,ae.out.drew⟩;simp[results,results16,go_sem,r0,r1]
 have aj:¬(f:Int)<(t:Int):=by omega
 have hsp:Wk.nV l f t=(Wk.pE l f,Wk.pE l f):=by unfold Wk.nV;rw[eQ h1]
 rw[hsp];clear hsp;have tail:∀V:Nat,Wk.pE l f=V->True:=λ_ _=>trivial
 clear tail;by_cases hfl:f<NL
 ·obtain⟨x,hx⟩:=iT l f (by rw[aa.out];omega);obtain⟨b,o,rfl,-,c1,-⟩:=HX.out w2 hb f x hx;have hbg:Wk.pE l f=x.2.1:=by unfold Wk.pE;rw[aa.out,eT hfl,sD hx]
  rw[hbg];have gf:(f:Int)<(NL:Int):=by omega
  clear hbg hx hb
  go_enter func16,ntmps16
  go_upto_region 1 with fail
  rw[HW1.out,af.out,HW2.out];obtain⟨r0,r1,rb⟩:=HS.out (.int .i64 (x.2.1:Nat)) (.int .i64 (x.2.1:Nat));have ae:=eu rb;clear rb;go_wp2_with fail
  refine o8 (v:=.agg #[.int .i64 (x.2.1:Nat),.int .i64 (x.2.1:Nat)]) ?_ rfl ⟨rfl,ae.out⟩;simp[results,results16,go_sem,r0,r1]
 have gf:¬((f:Int)<(NL:Int)):=by omega
 by_cases h0:0<NL
 ·obtain⟨j,hj⟩:=eX (NL-1);obtain⟨z,hz⟩:=iT l j (by rw[aa.out];omega);obtain⟨b,o,rfl,-,-,c2⟩:=HX.out w2 hb j z hz;have hbg:Wk.pE l f=z.2.2:=by
   unfold Wk.pE;rw[aa.out,eQ hfl,eT (by omega),show f-1=j by omega,oC hz]
  rw[hbg];have gj:(j:Int)<(NL:Int):=by omega
  have g0:(0:Int)<(NL:Int):=by omega
  have gw:IntKind.i64.wrap ((NL:Int)-1)=(j:Int):=by rw[show(NL:Int)-1=(j:Int)by omega];exact jC _ (by omega)
  clear hbg hz hb hj
  go_enter func16,ntmps16
  go_upto_region 1 with fail
  rw[HW1.out,af.out,HW2.out];obtain⟨r0,r1,rb⟩:=HS.out (.int .i64 (z.2.2:Nat)) (.int .i64 (z.2.2:Nat));have ae:=eu rb;clear rb;go_wp2_with fail
  refine o8 (v:=.agg #[.int .i64 (z.2.2:Nat),.int .i64 (z.2.2:Nat)]) ?_ rfl ⟨rfl,ae.out⟩;simp[results,results16,go_sem,r0,r1]
 have hbg:Wk.pE l f=0:=by unfold Wk.pE;rw[aa.out,eQ hfl,eQ (by omega)]
 rw[hbg];have g0:¬((0:Int)<(NL:Int)):=by omega
 clear hbg hb
 go_enter func16,ntmps16
 go_upto_region 1 with fail
 rw[HW1.out,af.out,HW2.out];obtain⟨r0,r1,rb⟩:=HS.out (.int .i64 0) (.int .i64 0);have ae:=eu rb;clear rb;go_wp2_with fail
 refine o8 (v:=.agg #[.int .i64 0,.int .i64 0]) ?_ rfl ⟨rfl,ae.out⟩;simp[results,results16,go_sem,r0,r1]
end
section
open Go.RowKit
open Sq
open Ar
open Fl (Tk)
theorem Rk(w:World)(nv:Value)(l:List Nd)(k:Int)(hN:iR w nv l)(hg:Ar.bu l)(hl:l.length<=1000000):
 Calls prog 14 #[.agg #[nv],.int .i64 k] w λe w'=>∃v,e=.returned v/\w'.ownsRow w.heap.size 3 1 v (Wk.kW l k).length (encI.all (Wk.kW l k).reverse)/\Below w.heap.size w w':=by
 obtain⟨na,nc,rfl⟩:=hN.shape;have HX:=eu (λW (hW:Below w.heap.size w W) j x hj=>(hN.below hW).at_ j x hj);have hol:=zZ hg k;have hpast:=λh=>BU (l:=l) (k:=k) h
 have hnone:=λh=>Wk.xh (l:=l) (k:=k) h
 have HG:=eu hg;obtain⟨R,hR⟩:=eX (Wk.kW l k);obtain⟨Q,hQ⟩:=eX ((λe (w':World)=>∃v,e=Ending.returned v/\w'.ownsRow w.heap.size 3 1 v (Wk.kW l k).length (encI.all (Wk.kW l k).reverse)/\Below w.heap.size w w'))
 have HQ:=eu (λv w' (P:List Int)(hP:P=R.reverse)(h:w'.ownsRow w.heap.size 3 encI.k v P.length (encI.all P))(hb:Below w.heap.size w w')=>show Q (.returned v) w' from by
  rw[<-hQ];refine⟨v,rfl,?_,hb⟩;rw[hR,<-hP];rw[hP,iI]at h
  rw[hP];exact h)
 rw[hQ];rw[hR]at hol hpast hnone;have HR:=eu hR;obtain⟨NN,ag⟩:=eX (l.length);have aC:=eu ag;rw[ag]at hl hol hpast⊢;obtain⟨w1,hw1⟩:=eX (w.alloc (.cells #[.slice na NN nc] 31));have hb1:Below w.heap.size w w1:=hw1▸eZ w _;obtain⟨bx,hbx⟩:=eX (w.heap.size);have x1:w1.cell? ⟨bx,0,none⟩=some (.slice na NN nc):=by rw[<-hw1,<-hbx];exact at_new rfl
 have av:=eu (λW (hW:Below w1.heap.size w1 W)=>fe hW x1);obtain⟨HW1,ah,HB1⟩:=gW hw1 hbx hb1;have aD:=eu (show w.heap.size<=w1.heap.size from hb1.size);clear hQ hR ag hw1 hbx hb1 hN hg;by_cases hk:k<0\/(NN:Int)<=k
 ·have hR0:([]:List Int)=R.reverse:=by
   rcases hk with hk|hk
   ·rw[hnone hk];rfl
   rw[hpast hk];rfl
  have HD:=eu (HQ.out (.slice none 0 0) w1 [] hR0 (jq encI _ _) HB1.out);clear hR0 hpast hnone;by_cases hk0:k<0
  ·clear hk
   go_enter func14,ntmps14
   go_upto_region 1 with fail
   rw[HW1.out,ah.out];clear HW1;go_wp2_with fail
   first|exact HD.out|(go_ret;exact HD.out)
  have n1:decide (k<0)=false:=iF hk0;have n2:k>=(NN:Int):=by omega
  clear hk
  go_enter func14,ntmps14
  go_upto_region 1 with fail
  rw[HW1.out,ah.out];clear HW1;go_wp2_with fail
  first|exact HD.out|(go_ret;exact HD.out)
 have n1:decide (k<0)=false:=iF (by omega);have n1':¬(k<0):=by omega
 have n2:¬(k>=(NN:Int)):=by omega
 have hk1:k<(NN:Int):=by omega
 have hk2:-1<=k:=by omega
 clear hk hpast hnone
 go_enter func14,ntmps14
 go_upto_region 1 with fail
 rw[HW1.out,ah.out];clear HW1;go_wp2_with fail
 clear x1 n1 n1' n2
 go_loopw [5,6] (λpv kv wr=>∃(j:Int)(P:List Int),kv=.int .i64 j/\-1<=j/\j<(NN:Int)/\Hid ((Wk.kW l j).reverse++P=R.reverse)/\Hid (wr.ownsRow w1.heap.size 3 encI.k pv P.length (encI.all P))/\Hid (Below w1.heap.size w1 wr)) (λ_ kv _=>(intOf kv+1).toNat)
 case atStart=>exact⟨k,[],rfl,hk2,hk1,eu (by rw[HR.out,kH]),eu (jq encI _ _),eu (fu _ _)⟩
 case round=>
  obtain⟨j,P,rfl,hj1,hj2,HP,HO,HB⟩:=hrel;have c1:=av.out wr HB.out;by_cases hj0:0<=j
  ·obtain⟨i,rfl⟩:∃i:Nat,j=(i:Int):=⟨j.toNat,by omega⟩
   obtain⟨x,hx⟩:=iT l i (by rw[aC.out];omega);have hu:=HG.out.up i x hx;have hou:=Wk.BI HG.out hx;have hP2:=HP.out;rw[hou,xY,lT]at hP2;have aF:=eu hP2;have hpl:P.length+1<=NN:=by
    have h9:=congrArg List.length hP2;rw[ig,ig,iI,iI,Ot]at h9;omega
   have ax:=eu (show[(i:Int)].length+P.length<=maxLen by simp only[maxLen,Ot];omega);have ay:=eu (show([(i:Int)].length+P.length)*8<=140737488355328 by rw[Ot];omega);obtain⟨wa,ae⟩:=eX (wr.alloc (.cells #[.int .i64 (i:Nat)] 3));have af:Below wr.heap.size wr wa:=ae▸eZ wr _;obtain⟨bl,hbl⟩:=eX (wr.heap.size);have hown:wa.ownsRow w1.heap.size 3 encI.k (.slice (some ⟨bl,0,none⟩) 1 1) [(i:Int)].length (encI.all [(i:Int)]):=by
    rw[<-ae,<-hbl];exact World.ownsRow_lit wr #[.int .i64 (i:Nat)] 1 HB.out.size (by decide) rfl
   have ai:=eu hown;have az:=eu ((Reads.fJ (E:=encI) HO.out).below af);have aA:=eu (eU HB.out af);have aj:=eu (eU HB.out af).size;obtain⟨aG,aH⟩:=fD ae hbl;have aI:-1<=x.u:=hu.1;have hu2:x.u<(i:Int):=hu.2
   have aL:(0:Int)<=(i:Int):=by omega
   have aB:=eu hx;clear hou hu hx hP2 hpl ae af hbl hown HP c1;go_upto_region 6 with(at_builtin;(try rw[aG.out,aH.out]);go_must (refine De Od rfl (.tmp 26) (.tmp 27) rfl w1.heap.size _ [(i:Int)] rfl ai.out _ P rfl az.out ax.out ay.out aj.out ?_;intro v4 w4 aa hg4))
   have hb4:Below w1.heap.size w1 w4:=aA.out.grown hg4 aj.out (λq hq=>(ai.out.lt q hq).1);have c4:=av.out w4 hb4;obtain⟨nb,no,ka,kc,rfl,-,-,-,cu,-,-,-⟩:=HX.out w4 (eU HB1.out hb4) i x aB.out;have gi:(i:Int)<(NN:Int):=by omega
   obtain⟨aJ,aK⟩:=fD aa hb4;clear aa hg4 hb4 HO HB ax ay ai az aA aj aB;go_wp2_with fail
   go_roundw
   case rel=>exact⟨x.u,_,rfl,aI,by omega,aF,aJ,aK⟩
   case measure=>simp[intOf];omega
  have hj:j=-1:=by omega
  subst hj;have ak:=HP.out;rw[Wk.xh (by decide)]at ak;have HD:=eu (HQ.out u5 wr P ak (O3 HO.out aD.out) (eU HB1.out HB.out));clear hj0 ak hj1 hj2;go_wp2_with fail
  first|exact HD.out|(go_ret;exact HD.out)
end
end Go.Proofs.YtfbiffdmhcjhbaaGreat

import Derived.Test.YtmkkdjpebbdikaaGreatDoorZn13
import Derived.Test.YtmkkdjpebbdikaaGreatDoorZn14
set_option linter.all false
set_option maxHeartbeats 16000000
set_option maxRecDepth 100000
namespace Go.Proofs.YtmkkdjpebbdikaaGreatDoor
open Go.RowKit Go.Proofs.Tryz
section
open Go.RowKit
open Sq
open Fl (raw)
def uG(l:List Tk)(a n:Nat):Nat:=if(List.range n).any (λx=>raw l (a+x)==13)=true then 8 else 7
theorem xg{l:List Tk}{a n k:Nat}(hk:k<n)(h:raw l (a+k)=13):uG l a n=8:=by
 unfold uG;rw[eY];rw[Rk];exact⟨k,Hq.2 hk,by simp[h]⟩
theorem zk{l:List Tk}{a n:Nat}(h:∀k,k<n->raw l (a+k)≠13):uG l a n=7:=by
 unfold uG;rw[eX];intro h2;rw[Rk]at h2;obtain⟨k,h3,h4⟩:=h2;exact h k (Hq.1 h3) (by simpa using h4)
theorem Qj(rb:Nat)(v:Value)(l:List Tk)(a b:Nat)(w:World)(hR:RT w rb v l)(hab:a<=b)(hb:b<=l.length):
 Calls prog 189 #[RP rb,.int .i64 a,.int .i64 b] w λe w'=>e=.returned (.int .i64 (uG l a (b-a):Nat))/\Below w.heap.size w w':=by
 obtain⟨hc,h,hs⟩:=hR;obtain⟨ad,cap,rfl⟩:=h.shape;obtain⟨u,hu,aa⟩:=Dq (P:=prog) Q9 h hab hb;have hlen:((l.drop a).take (b-a)).length=b-a:=by rw[kD,iT];omega
 have hget:∀k x,((l.drop a).take (b-a))[k]?=some x->k<b-a/\raw l (a+k)=x.1:=by
  intro k x hx;have hk:=(gD.1 hx).1;rw[hlen]at hk;rw[rD hk,sJ]at hx;exact⟨hk,Fl.rM hx⟩
 obtain⟨ts,hts⟩:=fq ((l.drop a).take (b-a));rw[hts]at aa hlen hget;obtain⟨ua,uc,rfl⟩:=aa.shape;have HT:=eZ (λW (hW:Below w.heap.size w W) j x (hj:ts[j]?=some x)=>iZ (aa.below hW) j x hj);have HG:=eZ hget;obtain⟨M,hM⟩:=fq (b-a);rw[hM]at hlen HG⊢;have HY:=eZ (λk (hk:k<M) h=>xg (l:=l) (a:=a) hk h);have HN:=eZ (λh=>zk (l:=l) (a:=a) (n:=M) h);obtain⟨T,hT⟩:=fq (uG l a M);rw[hT]at HY HN⊢;rw[hlen]at hu;have HL:=eZ hlen;have hMs:M<=100000:=by omega
 obtain⟨N,hN⟩:=fq (l.length);rw[hN]at hc hb hs hu;clear h aa hget hlen hT hts hN hM
 go_enter func189,ntmps189
 go_wp2_with fail
 go_loopw [17] (λiv wr=>∃k:Nat,iv=.int .i64 k/\k<=M/\Hid (∀j,j<k->raw l (a+j)≠13)/\Below w.heap.size w wr) (λiv _=>M-(intOf iv).toNat)
 case atStart=>exact⟨0,rfl,ic _,eZ (λj h=>absurd h (qJ j)),fI _ _⟩
 case round=>
  obtain⟨k,rfl,hk,HA,hB⟩:=hrel;have HB:=eZ hB;by_cases hlt:k<M
  ·obtain⟨x,hx⟩:=jB ts k (by rw[HL.out];exact hlt);obtain⟨xb,off,rfl,c0,c1,c2⟩:=HT.out wr hB k x hx;have hr:=(HG.out k x hx).2;have hi:(k:Int)<(M:Int):=by omega
   obtain⟨K,hK⟩:=fq (x.1);rw[hK]at c0 hr;by_cases q:K=13
   ·have hT:=HY.out k hlt (by rw[hr];exact q);have g:((K:Int)==13)=true:=by simp;omega
    clear hr hx hK HT HG HY HN HL HA hB q;subst hT;go_wp2_with fail
    go_ret;exact⟨rfl,fD HB.out (fo _ _)⟩
   have HA2:=eZ (show∀j,j<k+1->raw l (a+j)≠13 from λj hj=>by
    by_cases e:j=k
    ·rw[e,hr];exact q
    exact HA.out j (by omega))
   have g:((K:Int)==13)=false:=by simp;omega
   clear hr hx hK HT HG HY HN HL HA hB q;go_wp2_with fail
   go_roundw
   case rel=>exact⟨k+1,by go_num,by omega,HA2,fD HB.out (fo _ _)⟩
   case measure=>simp[intOf];omega
  obtain rfl:k=M:=by omega
  have hT:=HN.out HA.out;have hne:¬((k:Int)<(k:Int)):=by omega
  clear HT HG HY HN HL HA hB hlt;subst hT;go_wp2_with fail
  go_ret;exact⟨rfl,HB.out⟩
end
section
open Go.RowKit
open Sq
open Ar
def vD(l:List Nd)(p:Nd):Int:=match p.ks.getLast? with
 |none=>p.f
 |some z=>Q3 l z
theorem Md{l:List Nd}(h:Ar.eu l)(i:Nat)(p:Nd)(hp:l[i]?=some p)(f:Int):Dy l p f=decide (vD l p<=f):=by
 unfold Dy vD;cases hl:p.ks.getLast? with
 |none=>
  dsimp only;rw[Vf];by_cases c:f<p.f
  ·simp[c]
  simp[c];omega
 |some z=>
  dsimp only;have hz:z∈p.ks:=KM hl;have hk:=h.kid i p hp z hz;obtain⟨y,hy⟩:=jB l z.toNat (by omega);have he:=h.ext i p hp z hz y hy;have ha:Q3 l z=y.t:=by unfold Q3;rw[hy]
  simp only[ha];by_cases c:f<y.t
  ·simp[c]
  have c1:¬f<p.f:=by omega
  simp[c,c1];omega
theorem Qk{l:List Nd}(h:Ar.eu l)(i:Nat)(p:Nd)(hp:l[i]?=some p)(kind f t:Int):
 iH l i kind f t=(decide (1<=kind)&&decide (kind<=11)&&(decide (vD l p<=f)&&decide (f<=t)&&decide (t<=firstT l))):=by
 have hi:=(gD.1 hp).1;rw[LG l i kind f t p (by rw[jk];exact hp),Md h i p hp];have e1:decide ((i:Int)<0)=false:=jE (by omega);have e2:decide ((l.length:Int)<=(i:Int))=false:=jE (by omega);rw[e1,e2];by_cases c1:kind<1<;>by_cases c2:11<kind<;>by_cases c3:t<f<;>by_cases c4:firstT l<t<;>by_cases c5:vD l p<=f<;>simp[c1,c2,c3,c4,c5]<;>omega
theorem Ua{l:List Nd}(up kind f t:Int)(h:BM l.length up=false):iH l up kind f t=false:=by
 refine PI l up kind f t ?_;unfold BM at h;by_cases c1:up<0
 ·simp[c1]
 have c2:(l.length:Int)<=up:=by
  by_cases c:up<(l.length:Int)
  ·simp[c]at h;omega
  omega
 simp[c2]
theorem X7(v:Value)(l:List Nd)(i:Nat)(p:Nd)(w:World)(h:iM w v l)(hG:Ar.eu l)(hs:l.length<=9000)(hk:∀x∈l,x.ks.length<=9000)(hp:l[i]?=some p):
 Calls prog 184 #[.agg #[v],.int .i64 i] w (λe w'=>e=.returned (.int .i64 (vD l p))/\Below w.heap.size w w'):=by
 obtain⟨a,cap,rfl⟩:=h.shape;obtain⟨R,hR⟩:=fq (vD l p);rw[hR];have hi:=(gD.1 hp).1;have HX:=eZ (λW (hb:Below w.heap.size w W)=>h.below hb);have hkp:=hk p (iK hp);obtain⟨N,hN⟩:=fq (l.length);rw[hN]at hs hi HX⊢;have HN:=eZ hN;obtain⟨Bt,af⟩:=fq (w.heap.size);obtain⟨w1,hw1⟩:=fq (w.alloc (.cells #[.slice a N cap] 31));have hb1:Below w.heap.size w w1:=hw1▸fo w _;have ct:w1.cell? ⟨Bt,0,none⟩=some (.slice a N cap):=by rw[<-hw1,<-af];exact at_new rfl
 have hX1:=HX.out w1 hb1;rw[<-HN.out]at hX1;obtain⟨b,off,ka,kc,rfl,p0,p1,p2,p3,p4,p5,hkr⟩:=hX1.at_ i p hp;obtain⟨xb,hxb⟩:=fq (w1.heap.size);obtain⟨w2,hw2⟩:=fq (w1.alloc (.cells #[.int .i64 p.k,.int .i64 p.f,.int .i64 p.t,.int .i64 p.u,.slice ka p.ks.length kc,.bool p.y] 38));have hb2:Below w1.heap.size w1 w2:=hw2▸fo w1 _;have blk:w2.heap[xb]?=some (.cells #[.int .i64 p.k,.int .i64 p.f,.int .i64 p.t,.int .i64 p.u,.slice ka p.ks.length kc,.bool p.y] 38 (0,0)):=by rw[<-hw2,<-hxb];exact j5 _ _
 have ag:=fu hb2 ct;obtain⟨HB2,ae,ak,HW1,ah,HW2⟩:=kJ (fD hb1 hb2) blk (hkr.below hb2) hw1 af hw2;obtain⟨ai,HG,HP,HR⟩:=oN hxb hG hp hR;have hii:(i:Int)<(N:Int):=by omega
 clear h hG hk hp hR hN af hw1 hb1 hX1 hxb hw2 hb2 blk hkr
 go_enter func184,ntmps184
 go_upto_region 1 with fail
 rw[HW1.out,ah.out];clear HW1 ah;go_upto_region 2 with fail
 rw[HW2.out,ai.out];clear HW2 ai p0 p1 p2 p3 p4 p5 ct;have n1:=gG ae.out 1;have n4:=gG ae.out 4;have hr:=HR.out;unfold vD at hr;cases hks:p.ks with
 |nil=>
  rw[hks]at hr;have hr:p.f=R:=hr;have aa:w2.cell? ⟨xb,4,none⟩=some (.slice ka 0 kc):=by rw[n4,hks];rfl
  clear n4 hks;subst hr;go_upto_region 3 with fail
  go_big_quiet (fail)
  have n1':(w2.drewN nq).cell? ⟨xb,1,none⟩=some (.int .i64 p.f):=(World.cell?_drewN _ _ _).trans n1;have hq:=ji HB2.out nq;obtain⟨W,hW⟩:=fq (w2.drewN nq);rw[hW]at n1' hq;rw[hW];have HD:=eZ hq;clear hW hq n1 ag aa;go_wp2_with fail
  go_ret;exact⟨rfl,HD.out⟩
 |cons k0 kr=>
  obtain⟨m,hm1⟩:∃m,p.ks.length=m+1:=⟨kr.length,by rw[hks];rfl⟩
  obtain⟨z,hz⟩:=jB p.ks m (by omega);have hlast:p.ks.getLast?=some z:=by rw[List.getLast?_eq_getElem?,hm1];exact hz
  rw[hlast]at hr;have hr:Q3 l z=R:=hr;have aj:=HG.out.kid i p HP.out z (iK hz);rw[HN.out]at aj;obtain⟨zn,rfl⟩:∃zn:Nat,z=(zn:Int):=⟨z.toNat,by omega⟩
  obtain⟨c,hc⟩:=jB l zn (by rw[HN.out];omega);have hat:Q3 l (zn:Int)=c.t:=by unfold Q3;rw[jk,hc]
  rw[hat]at hr;subst hr;obtain⟨kb,ko,hka,z0⟩:=D8 ak.out m _ hz;subst hka;have yc:=HX.out w2 HB2.out;rw[<-HN.out]at yc;obtain⟨b9,av,_,_,he,-,-,c2,-,-,-,-⟩:=yc.at_ zn c hc;injection he with he
  injection he with e2 e3
  subst e2 e3;have aa:w2.cell? ⟨xb,4,none⟩=some (.slice (some ⟨kb,ko,none⟩) (m+1) kc):=by rw[n4,<-hm1];rfl
  have g0:(0:Int)<(m:Int)+1:=by omega
  have g0':decide ((0:Int)<(m:Int)+1)=true:=lI g0;have gw:IntKind.i64.wrap ((m:Int)+1-1)=(m:Int):=by
   have:(m:Int)+1-1=(m:Int):=by omega
   rw[this];exact qL _ (by omega)
  have ax:IntKind.i64.wrap (m:Int)=(m:Int):=qL _ (by omega);have g1:(m:Int)<(m:Int)+1:=by omega
  have g2:(zn:Int)<(N:Int):=by omega
  have hhas:BM N (zn:Int)=true:=by unfold BM;simp;omega
  have hH:=J7 (some ⟨b,off,none⟩) N cap (zn:Int) w2.drew (by omega);rw[hhas]at hH;have HH:=eZ hH;clear n4 hks hlast aj hz hc hat yc hm1 hH hhas n1;go_upto_region 3 with fail
  refine iA 10 (by kernel_rfl) (by kernel_rfl) ?_;simp only[uA,vG,wh,lQ]
  repeat (go_big_quiet_step (fail))
  refine EX ?_;go_wp2_with fail
  refine HH.out.mono ?_;rintro e w3 ⟨rfl,hb3⟩;have ay:w3.cell? ⟨Bt,0,none⟩=some (.slice (some ⟨b,off,none⟩) N cap):=fu hb3 (fE ag);have n43:w3.cell? ⟨xb,4,none⟩=some (.slice (some ⟨kb,ko,none⟩) (m+1) kc):=fu hb3 (fE aa);have az:w3.cell? ⟨kb,ko+m,none⟩=some (.int .i64 (zn:Int)):=fu hb3 (fE z0);have c23:=fu hb3 (fE c2);have HB3:=eZ (fD HB2.out.drew hb3);clear hb3 ag aa z0 c2;go_wp2_with fail
  go_big_quiet (fail)
  have HD:=eZ (ji HB3.out nq);go_wp2_with fail
  go_ret;exact⟨rfl,HD.out⟩
theorem X8(v:Value)(l:List Nd)(up kind f t:Int)(w:World)(h:iM w v l)(hG:Ar.eu l)(hs:l.length<=9000)(hk:∀x∈l,x.ks.length<=9000):
 Calls prog 176 #[.agg #[v],.agg #[.int .i64 up,.int .i64 t,.int .i64 kind,.int .i64 f]] w (λe w'=>e=.returned (.bool (iH l up kind f t))/\Below w.heap.size w w'):=by
 obtain⟨a,cap,rfl⟩:=h.shape;obtain⟨R,hR⟩:=fq (iH l up kind f t);have hno:=Ua (l:=l) up kind f t;have ai:=fun(i:Nat)(p:Nd)(e:up=(i:Int))(hp:l[i]?=some p)=>show iH l up kind f t=(decide (1<=kind)&&decide (kind<=11)&&(decide (vD l p<=f)&&decide (f<=t)&&decide (t<=firstT l)))from by rw[e];exact Qk hG i p hp kind f t
 rw[hR]at hno ai⊢;obtain⟨y,hy,av⟩:=PH hG.pos;rw[av]at ai;have HX:=eZ (λW (hb:Below w.heap.size w W)=>h.below hb);have aj:=eZ (λW i p (hb:Below w.heap.size w W)=>X7 (.slice a l.length cap) l i p W (h.below hb) hG hs hk);have hpos:=hG.pos;obtain⟨N,hN⟩:=fq (l.length);rw[hN]at hs HX aj hno hpos⊢;obtain⟨HN,ax,ay,HY⟩:=oN hN hno ai hy;obtain⟨Bt,ak⟩:=fq (w.heap.size);obtain⟨Ba,hBa⟩:=fq (w.heap.size+1);obtain⟨w1,hw1⟩:=fq ((w.alloc (.cells #[.slice a N cap] 31)).alloc (.cells #[.int .i64 up,.int .i64 t,.int .i64 kind,.int .i64 f] 188));have hb1:Below w.heap.size w w1:=hw1▸gX (fo w _) _;have ct:w1.cell? ⟨Bt,0,none⟩=some (.slice a N cap):=by rw[<-hw1,<-ak];exact gI (at_new rfl)
 have hsz:(w.alloc (.cells #[.slice a N cap] 31)).heap.size=Ba:=by rw[size_alloc];exact hBa
 have a0:w1.cell? ⟨Ba,0,none⟩=some (.int .i64 up):=by rw[<-hw1,<-hsz];exact at_new rfl
 have a1:w1.cell? ⟨Ba,1,none⟩=some (.int .i64 t):=by rw[<-hw1,<-hsz];exact at_new rfl
 have a2:w1.cell? ⟨Ba,2,none⟩=some (.int .i64 kind):=by rw[<-hw1,<-hsz];exact at_new rfl
 have a3:w1.cell? ⟨Ba,3,none⟩=some (.int .i64 f):=by rw[<-hw1,<-hsz];exact at_new rfl
 have HB1:=eZ hb1;have HH:=eZ (λW=>J7 a N cap up W (by omega));obtain⟨HW1,az,aA⟩:=jF hw1 ak hBa;clear h hG hk hR hN ak hBa hw1 hb1 hsz hno ai hy av
 go_enter func176,ntmps176
 go_upto_region 1 with fail
 rw[HW1.out,aA.out,az.out];clear HW1 az aA;go_wp2_with fail
 refine(HH.out _).mono ?_;rintro e w2 ⟨rfl,hb2⟩;have aa:=fu hb2 ct;have ae:=fu hb2 a0;have a12:=fu hb2 a1;have a22:=fu hb2 a2;have a32:=fu hb2 a3;have HB2:=eZ (fD HB1.out hb2);clear hb2 ct a0 a1 a2 a3;cases hh:BM N up with
 |false=>
  obtain rfl:R=false:=ax.out hh;clear hh;go_wp2_with fail
  go_ret;exact⟨rfl,HB2.out⟩
 |true=>
  obtain⟨i,rfl⟩:∃i:Nat,up=(i:Int):=⟨up.toNat,by unfold BM at hh;simp at hh;omega⟩
  have hi:i<N:=by unfold BM at hh;simp at hh;omega
  obtain⟨p,hp⟩:=jB l i (by rw[HN.out];exact hi);have hy0:=ay.out i p rfl hp;clear hh;by_cases q1:1<=kind
  case neg=>
   obtain rfl:R=false:=by rw[hy0];simp[q1]
   have d1:decide (kind<1)=true:=lI (by omega);have d1':kind<1:=by omega
   clear hy0 hp q1;go_wp2_with fail
   go_ret;exact⟨rfl,HB2.out⟩
  have d1:decide (kind<1)=false:=jE (by omega);by_cases q2:kind<=11
  case neg=>
   obtain rfl:R=false:=by rw[hy0];simp[q2]
   have d2:decide (11<kind)=true:=lI (by omega);have aB:11<kind:=by omega
   clear hy0 hp q2;go_wp2_with fail
   go_ret;exact⟨rfl,HB2.out⟩
  have d2:decide (11<kind)=false:=jE (by omega);have hye:R=(decide (vD l p<=f)&&decide (f<=t)&&decide (t<=y.t)):=by rw[hy0];simp[q1,q2]
  clear hy0;have hF:=aj.out w2.drew i p HB2.out.drew hp;obtain⟨fr,hfr⟩:=fq (vD l p);rw[hfr]at hF hye;have HF:=eZ hF;have hX2:=HX.out w2 HB2.out;rw[<-HN.out]at hX2;obtain⟨b,off,_,_,rfl,-,-,y2,-,-,-,-⟩:=hX2.at_ 0 y HY.out;simp only[KO,qI]at y2;have hN0:(0:Int)<(N:Int):=by omega
  clear hp hF hfr hX2 HH aj HX ax ay q1 q2;by_cases q3:fr<=f
  case neg=>
   obtain rfl:R=false:=by rw[hye];simp[q3]
   have d3:decide (fr<=f)=false:=jE q3;clear hye q3;go_wp2_with fail
   refine BJ (S:=λwx=>wx.cell? ⟨Bt,0,none⟩=some (.slice (some ⟨b,off,none⟩) N cap)/\wx.cell? ⟨Ba,0,none⟩=some (.int .i64 (i:Int))/\wx.cell? ⟨Ba,1,none⟩=some (.int .i64 t)/\wx.cell? ⟨Ba,3,none⟩=some (.int .i64 f)/\wx.cell? ⟨b,off+2,none⟩=some (.int .i64 y.t)) (by kernel_rfl) (⟨aa,ae,a12,a32,y2⟩) (λhH=>?_);refine gY 0 (.agg #[.slice (some ⟨b,off,none⟩) N cap]) rfl (by kernel_rfl) rfl fC (λW hW=>?_) hH ?_
   ·obtain⟨z1,z2,z3,z4,z5⟩:=hW;go_simp
   refine gY 1 (.pointer (some ⟨Ba,0,none⟩)) rfl (by kernel_rfl) rfl fC (λW hW=>by go_simp) hH ?_;refine gY 2 (.pointer (some ⟨Ba,0,none⟩)) rfl (by kernel_rfl) rfl fC (λW hW=>by go_simp) hH ?_;refine gY 3 (.int .i64 (i:Int)) rfl (by kernel_rfl) rfl fC (λW hW=>?_) hH ?_
   ·obtain⟨z1,z2,z3,z4,z5⟩:=hW;go_simp
   refine gY 5 (.pointer (some ⟨Ba,3,none⟩)) rfl (by kernel_rfl) rfl fC (λW hW=>by go_simp) hH ?_;refine gY 6 (.int .i64 f) rfl (by kernel_rfl) rfl fC (λW hW=>?_) hH ?_
   ·obtain⟨z1,z2,z3,z4,z5⟩:=hW;go_simp
   refine vB 4 (by kernel_rfl) rfl λK hK=>?_
   go_simp;refine HF.out.mono ?_;rintro e w3 ⟨rfl,hb3⟩;have af:=fu hb3 (fE ae);have ag:=fu hb3 (fE a12);have a33:=fu hb3 (fE a32);have ah:=fu hb3 (fE aa);have y23:=fu hb3 (fE y2);have HB3:=eZ (fD HB2.out.drew hb3);clear hb3;try go_wp2_with fail
   refine hK.out _ _ (⟨ah,af,ag,a33,y23⟩) (λhH2=>?_);clear hK K;try simp only[Act.put,fK,fP,fO]
   refine gY 7 (.bool false) rfl (by kernel_rfl) rfl fC (λW hW=>by go_simp) hH2 ?_;refine gY 8 (.bool false) rfl (by kernel_rfl) rfl fC (λW hW=>by go_simp) hH2 ?_;refine l6 (i:=9) (oi:=⟨_,_,_,_,_,_⟩) (v:=undef) rfl (by kernel_rfl) (by kernel_rfl) (by kernel_rfl) fC (Or.inr ⟨rfl,rfl⟩) hH2 ?_;try simp only[Act.put,fK,fP,fO]
   refine l6 (i:=10) (oi:=⟨_,_,_,_,_,_⟩) (v:=undef) rfl (by kernel_rfl) (by kernel_rfl) (by kernel_rfl) fC (Or.inr ⟨rfl,rfl⟩) hH2 ?_;try simp only[Act.put,fK,fP,fO]
   refine l6 (i:=11) (oi:=⟨_,_,_,_,_,_⟩) (v:=undef) rfl (by kernel_rfl) (by kernel_rfl) (by kernel_rfl) fC (Or.inr ⟨rfl,rfl⟩) hH2 ?_;try simp only[Act.put,fK,fP,fO]
   refine l6 (i:=12) (oi:=⟨_,_,_,_,_,_⟩) (v:=undef) rfl (by kernel_rfl) (by kernel_rfl) (by kernel_rfl) fC (Or.inr ⟨rfl,rfl⟩) hH2 ?_;try simp only[Act.put,fK,fP,fO]
   refine l6 (i:=13) (oi:=⟨_,_,_,_,_,_⟩) (v:=undef) rfl (by kernel_rfl) (by kernel_rfl) (by kernel_rfl) fC (Or.inr ⟨rfl,rfl⟩) hH2 ?_;try simp only[Act.put,fK,fP,fO]
   refine l6 (i:=14) (oi:=⟨_,_,_,_,_,_⟩) (v:=undef) rfl (by kernel_rfl) (by kernel_rfl) (by kernel_rfl) fC (Or.inr ⟨rfl,rfl⟩) hH2 ?_;try simp only[Act.put,fK,fP,fO]
   refine gY 15 (.bool false) rfl (by kernel_rfl) rfl fC (λW hW=>by go_simp) hH2 ?_;refine gY 16 (.bool false) rfl (by kernel_rfl) rfl fC (λW hW=>by go_simp) hH2 ?_;refine l6 (i:=17) (oi:=⟨_,_,_,_,_,_⟩) (v:=undef) rfl (by kernel_rfl) (by kernel_rfl) (by kernel_rfl) fC (Or.inr ⟨rfl,rfl⟩) hH2 ?_;try simp only[Act.put,fK,fP,fO]
   refine l6 (i:=18) (oi:=⟨_,_,_,_,_,_⟩) (v:=undef) rfl (by kernel_rfl) (by kernel_rfl) (by kernel_rfl) fC (Or.inr ⟨rfl,rfl⟩) hH2 ?_;try simp only[Act.put,fK,fP,fO]
   refine l6 (i:=19) (oi:=⟨_,_,_,_,_,_⟩) (v:=undef) rfl (by kernel_rfl) (by kernel_rfl) (by kernel_rfl) fC (Or.inr ⟨rfl,rfl⟩) hH2 ?_;try simp only[Act.put,fK,fP,fO]
   refine l6 (i:=20) (oi:=⟨_,_,_,_,_,_⟩) (v:=undef) rfl (by kernel_rfl) (by kernel_rfl) (by kernel_rfl) fC (Or.inr ⟨rfl,rfl⟩) hH2 ?_;try simp only[Act.put,fK,fP,fO]
   refine l6 (i:=21) (oi:=⟨_,_,_,_,_,_⟩) (v:=undef) rfl (by kernel_rfl) (by kernel_rfl) (by kernel_rfl) fC (Or.inr ⟨rfl,rfl⟩) hH2 ?_;try simp only[Act.put,fK,fP,fO]
   refine l6 (i:=22) (oi:=⟨_,_,_,_,_,_⟩) (v:=undef) rfl (by kernel_rfl) (by kernel_rfl) (by kernel_rfl) fC (Or.inr ⟨rfl,rfl⟩) hH2 ?_;try simp only[Act.put,fK,fP,fO]
   refine l6 (i:=23) (oi:=⟨_,_,_,_,_,_⟩) (v:=undef) rfl (by kernel_rfl) (by kernel_rfl) (by kernel_rfl) fC (Or.inr ⟨rfl,rfl⟩) hH2 ?_;try simp only[Act.put,fK,fP,fO]
   refine l6 (i:=24) (oi:=⟨_,_,_,_,_,_⟩) (v:=undef) rfl (by kernel_rfl) (by kernel_rfl) (by kernel_rfl) fC (Or.inr ⟨rfl,rfl⟩) hH2 ?_;try simp only[Act.put,fK,fP,fO]
   refine l6 (i:=25) (oi:=⟨_,_,_,_,_,_⟩) (v:=undef) rfl (by kernel_rfl) (by kernel_rfl) (by kernel_rfl) fC (Or.inr ⟨rfl,rfl⟩) hH2 ?_;try simp only[Act.put,fK,fP,fO]
   refine gY 26 (.bool false) rfl (by kernel_rfl) rfl fC (λW hW=>by go_simp) hH2 ?_;refine gY 27 (.bool false) rfl (by kernel_rfl) rfl fC (λW hW=>by go_simp) hH2 ?_;refine yM (by kernel_rfl) ?_ _;go_wp2_with fail
   go_ret;exact⟨rfl,HB3.out⟩
  have d3:decide (fr<=f)=true:=lI q3;by_cases q4:f<=t
  case neg=>
   obtain rfl:R=false:=by rw[hye];simp[q4]
   have d4:decide (f<=t)=false:=jE q4;clear hye q3 q4;go_wp2_with fail
   refine BJ (S:=λwx=>wx.cell? ⟨Bt,0,none⟩=some (.slice (some ⟨b,off,none⟩) N cap)/\wx.cell? ⟨Ba,0,none⟩=some (.int .i64 (i:Int))/\wx.cell? ⟨Ba,1,none⟩=some (.int .i64 t)/\wx.cell? ⟨Ba,3,none⟩=some (.int .i64 f)/\wx.cell? ⟨b,off+2,none⟩=some (.int .i64 y.t)) (by kernel_rfl) (⟨aa,ae,a12,a32,y2⟩) (λhH=>?_);refine gY 0 (.agg #[.slice (some ⟨b,off,none⟩) N cap]) rfl (by kernel_rfl) rfl fC (λW hW=>?_) hH ?_
   ·obtain⟨z1,z2,z3,z4,z5⟩:=hW;go_simp
   refine gY 1 (.pointer (some ⟨Ba,0,none⟩)) rfl (by kernel_rfl) rfl fC (λW hW=>by go_simp) hH ?_;refine gY 2 (.pointer (some ⟨Ba,0,none⟩)) rfl (by kernel_rfl) rfl fC (λW hW=>by go_simp) hH ?_;refine gY 3 (.int .i64 (i:Int)) rfl (by kernel_rfl) rfl fC (λW hW=>?_) hH ?_
   ·obtain⟨z1,z2,z3,z4,z5⟩:=hW;go_simp
   refine gY 5 (.pointer (some ⟨Ba,3,none⟩)) rfl (by kernel_rfl) rfl fC (λW hW=>by go_simp) hH ?_;refine gY 6 (.int .i64 f) rfl (by kernel_rfl) rfl fC (λW hW=>?_) hH ?_
   ·obtain⟨z1,z2,z3,z4,z5⟩:=hW;go_simp
   refine vB 4 (by kernel_rfl) rfl λK hK=>?_
   go_simp;refine HF.out.mono ?_;rintro e w3 ⟨rfl,hb3⟩;have af:=fu hb3 (fE ae);have ag:=fu hb3 (fE a12);have a33:=fu hb3 (fE a32);have ah:=fu hb3 (fE aa);have y23:=fu hb3 (fE y2);have HB3:=eZ (fD HB2.out.drew hb3);clear hb3;try go_wp2_with fail
   refine hK.out _ _ (⟨ah,af,ag,a33,y23⟩) (λhH2=>?_);clear hK K;try simp only[Act.put,fK,fP,fO]
   refine gY 7 (.bool true) rfl (by kernel_rfl) rfl fC (λW hW=>by go_simp) hH2 ?_;refine gY 8 (.bool true) rfl (by kernel_rfl) rfl fC (λW hW=>by go_simp) hH2 ?_;refine gY 9 (.pointer (some ⟨Ba,3,none⟩)) rfl (by kernel_rfl) rfl fC (λW hW=>by go_simp) hH2 ?_;refine gY 10 (.int .i64 f) rfl (by kernel_rfl) rfl fC (λW hW=>?_) hH2 ?_
   ·obtain⟨z1,z2,z3,z4,z5⟩:=hW;go_simp
   refine gY 11 (.pointer (some ⟨Ba,0,none⟩)) rfl (by kernel_rfl) rfl fC (λW hW=>by go_simp) hH2 ?_;refine gY 12 (.pointer (some ⟨Ba,1,none⟩)) rfl (by kernel_rfl) rfl fC (λW hW=>by go_simp) hH2 ?_;refine gY 13 (.int .i64 t) rfl (by kernel_rfl) rfl fC (λW hW=>?_) hH2 ?_
   ·obtain⟨z1,z2,z3,z4,z5⟩:=hW;go_simp
   refine gY 14 (.bool false) rfl (by kernel_rfl) rfl fC (λW hW=>by go_simp) hH2 ?_;refine gY 15 (.bool false) rfl (by kernel_rfl) rfl fC (λW hW=>by go_simp) hH2 ?_;refine gY 16 (.bool false) rfl (by kernel_rfl) rfl fC (λW hW=>by go_simp) hH2 ?_;refine l6 (i:=17) (oi:=⟨_,_,_,_,_,_⟩) (v:=undef) rfl (by kernel_rfl) (by kernel_rfl) (by kernel_rfl) fC (Or.inr ⟨rfl,rfl⟩) hH2 ?_;try simp only[Act.put,fK,fP,fO]
   refine l6 (i:=18) (oi:=⟨_,_,_,_,_,_⟩) (v:=undef) rfl (by kernel_rfl) (by kernel_rfl) (by kernel_rfl) fC (Or.inr ⟨rfl,rfl⟩) hH2 ?_;try simp only[Act.put,fK,fP,fO]
   refine l6 (i:=19) (oi:=⟨_,_,_,_,_,_⟩) (v:=undef) rfl (by kernel_rfl) (by kernel_rfl) (by kernel_rfl) fC (Or.inr ⟨rfl,rfl⟩) hH2 ?_;try simp only[Act.put,fK,fP,fO]
   refine l6 (i:=20) (oi:=⟨_,_,_,_,_,_⟩) (v:=undef) rfl (by kernel_rfl) (by kernel_rfl) (by kernel_rfl) fC (Or.inr ⟨rfl,rfl⟩) hH2 ?_;try simp only[Act.put,fK,fP,fO]
   refine l6 (i:=21) (oi:=⟨_,_,_,_,_,_⟩) (v:=undef) rfl (by kernel_rfl) (by kernel_rfl) (by kernel_rfl) fC (Or.inr ⟨rfl,rfl⟩) hH2 ?_;try simp only[Act.put,fK,fP,fO]
   refine l6 (i:=22) (oi:=⟨_,_,_,_,_,_⟩) (v:=undef) rfl (by kernel_rfl) (by kernel_rfl) (by kernel_rfl) fC (Or.inr ⟨rfl,rfl⟩) hH2 ?_;try simp only[Act.put,fK,fP,fO]
   refine l6 (i:=23) (oi:=⟨_,_,_,_,_,_⟩) (v:=undef) rfl (by kernel_rfl) (by kernel_rfl) (by kernel_rfl) fC (Or.inr ⟨rfl,rfl⟩) hH2 ?_;try simp only[Act.put,fK,fP,fO]
   refine l6 (i:=24) (oi:=⟨_,_,_,_,_,_⟩) (v:=undef) rfl (by kernel_rfl) (by kernel_rfl) (by kernel_rfl) fC (Or.inr ⟨rfl,rfl⟩) hH2 ?_;try simp only[Act.put,fK,fP,fO]
   refine l6 (i:=25) (oi:=⟨_,_,_,_,_,_⟩) (v:=undef) rfl (by kernel_rfl) (by kernel_rfl) (by kernel_rfl) fC (Or.inr ⟨rfl,rfl⟩) hH2 ?_;try simp only[Act.put,fK,fP,fO]
   refine gY 26 (.bool false) rfl (by kernel_rfl) rfl fC (λW hW=>by go_simp) hH2 ?_;refine gY 27 (.bool false) rfl (by kernel_rfl) rfl fC (λW hW=>by go_simp) hH2 ?_;refine yM (by kernel_rfl) ?_ _;go_wp2_with fail
   go_ret;exact⟨rfl,HB3.out⟩
  have d4:decide (f<=t)=true:=lI q4;by_cases q5:t<=y.t
  case neg=>
   obtain rfl:R=false:=by rw[hye];simp[q5]
   have d5:decide (t<=y.t)=false:=jE q5;clear hye q3 q4 q5;go_wp2_with fail
   refine BJ (S:=λwx=>wx.cell? ⟨Bt,0,none⟩=some (.slice (some ⟨b,off,none⟩) N cap)/\wx.cell? ⟨Ba,0,none⟩=some (.int .i64 (i:Int))/\wx.cell? ⟨Ba,1,none⟩=some (.int .i64 t)/\wx.cell? ⟨Ba,3,none⟩=some (.int .i64 f)/\wx.cell? ⟨b,off+2,none⟩=some (.int .i64 y.t)) (by kernel_rfl) (⟨aa,ae,a12,a32,y2⟩) (λhH=>?_);refine gY 0 (.agg #[.slice (some ⟨b,off,none⟩) N cap]) rfl (by kernel_rfl) rfl fC (λW hW=>?_) hH ?_
   ·obtain⟨z1,z2,z3,z4,z5⟩:=hW;go_simp
   refine gY 1 (.pointer (some ⟨Ba,0,none⟩)) rfl (by kernel_rfl) rfl fC (λW hW=>by go_simp) hH ?_;refine gY 2 (.pointer (some ⟨Ba,0,none⟩)) rfl (by kernel_rfl) rfl fC (λW hW=>by go_simp) hH ?_;refine gY 3 (.int .i64 (i:Int)) rfl (by kernel_rfl) rfl fC (λW hW=>?_) hH ?_
   ·obtain⟨z1,z2,z3,z4,z5⟩:=hW;go_simp
   refine gY 5 (.pointer (some ⟨Ba,3,none⟩)) rfl (by kernel_rfl) rfl fC (λW hW=>by go_simp) hH ?_;refine gY 6 (.int .i64 f) rfl (by kernel_rfl) rfl fC (λW hW=>?_) hH ?_
   ·obtain⟨z1,z2,z3,z4,z5⟩:=hW;go_simp
   refine vB 4 (by kernel_rfl) rfl λK hK=>?_
   go_simp;refine HF.out.mono ?_;rintro e w3 ⟨rfl,hb3⟩;have af:=fu hb3 (fE ae);have ag:=fu hb3 (fE a12);have a33:=fu hb3 (fE a32);have ah:=fu hb3 (fE aa);have y23:=fu hb3 (fE y2);have HB3:=eZ (fD HB2.out.drew hb3);clear hb3;try go_wp2_with fail
   refine hK.out _ _ (⟨ah,af,ag,a33,y23⟩) (λhH2=>?_);clear hK K;try simp only[Act.put,fK,fP,fO]
   refine gY 7 (.bool true) rfl (by kernel_rfl) rfl fC (λW hW=>by go_simp) hH2 ?_;refine gY 8 (.bool true) rfl (by kernel_rfl) rfl fC (λW hW=>by go_simp) hH2 ?_;refine gY 9 (.pointer (some ⟨Ba,3,none⟩)) rfl (by kernel_rfl) rfl fC (λW hW=>by go_simp) hH2 ?_;refine gY 10 (.int .i64 f) rfl (by kernel_rfl) rfl fC (λW hW=>?_) hH2 ?_
   ·obtain⟨z1,z2,z3,z4,z5⟩:=hW;go_simp
   refine gY 11 (.pointer (some ⟨Ba,0,none⟩)) rfl (by kernel_rfl) rfl fC (λW hW=>by go_simp) hH2 ?_;refine gY 12 (.pointer (some ⟨Ba,1,none⟩)) rfl (by kernel_rfl) rfl fC (λW hW=>by go_simp) hH2 ?_;refine gY 13 (.int .i64 t) rfl (by kernel_rfl) rfl fC (λW hW=>?_) hH2 ?_
   ·obtain⟨z1,z2,z3,z4,z5⟩:=hW;go_simp
   refine gY 14 (.bool true) rfl (by kernel_rfl) rfl fC (λW hW=>by go_simp) hH2 ?_;refine gY 15 (.bool true) rfl (by kernel_rfl) rfl fC (λW hW=>by go_simp) hH2 ?_;refine gY 16 (.bool true) rfl (by kernel_rfl) rfl fC (λW hW=>by go_simp) hH2 ?_;refine gY 17 (.pointer (some ⟨Ba,0,none⟩)) rfl (by kernel_rfl) rfl fC (λW hW=>by go_simp) hH2 ?_;refine gY 18 (.pointer (some ⟨Ba,1,none⟩)) rfl (by kernel_rfl) rfl fC (λW hW=>by go_simp) hH2 ?_;refine gY 19 (.int .i64 t) rfl (by kernel_rfl) rfl fC (λW hW=>?_) hH2 ?_
   ·obtain⟨z1,z2,z3,z4,z5⟩:=hW;go_simp
   refine gY 20 (.pointer (some ⟨Bt,0,none⟩)) rfl (by kernel_rfl) rfl fC (λW hW=>by go_simp) hH2 ?_;refine gY 21 (.slice (some ⟨b,off,none⟩) N cap) rfl (by kernel_rfl) rfl fC (λW hW=>?_) hH2 ?_
   ·obtain⟨z1,z2,z3,z4,z5⟩:=hW;go_simp
   refine gY 22 (.pointer (some ⟨b,off,none⟩)) rfl (by kernel_rfl) rfl fC (λW hW=>by go_simp) hH2 ?_;refine gY 23 (.pointer (some ⟨b,off+2,none⟩)) rfl (by kernel_rfl) rfl fC (λW hW=>by go_simp) hH2 ?_;refine gY 24 (.int .i64 y.t) rfl (by kernel_rfl) rfl fC (λW hW=>?_) hH2 ?_
   ·obtain⟨z1,z2,z3,z4,z5⟩:=hW;go_simp
   refine gY 25 (.bool false) rfl (by kernel_rfl) rfl fC (λW hW=>by go_simp) hH2 ?_;refine gY 26 (.bool false) rfl (by kernel_rfl) rfl fC (λW hW=>by go_simp) hH2 ?_;refine gY 27 (.bool false) rfl (by kernel_rfl) rfl fC (λW hW=>by go_simp) hH2 ?_;refine yM (by kernel_rfl) ?_ _;go_wp2_with fail
   go_ret;exact⟨rfl,HB3.out⟩
  case pos=>
   have d5:decide (t<=y.t)=true:=lI q5;obtain rfl:R=true:=by rw[hye];simp[q3,q4,q5]
   clear hye q3 q4 q5;go_wp2_with fail
   refine BJ (S:=λwx=>wx.cell? ⟨Bt,0,none⟩=some (.slice (some ⟨b,off,none⟩) N cap)/\wx.cell? ⟨Ba,0,none⟩=some (.int .i64 (i:Int))/\wx.cell? ⟨Ba,1,none⟩=some (.int .i64 t)/\wx.cell? ⟨Ba,3,none⟩=some (.int .i64 f)/\wx.cell? ⟨b,off+2,none⟩=some (.int .i64 y.t)) (by kernel_rfl) (⟨aa,ae,a12,a32,y2⟩) (λhH=>?_);refine gY 0 (.agg #[.slice (some ⟨b,off,none⟩) N cap]) rfl (by kernel_rfl) rfl fC (λW hW=>?_) hH ?_
   ·obtain⟨z1,z2,z3,z4,z5⟩:=hW;go_simp
   refine gY 1 (.pointer (some ⟨Ba,0,none⟩)) rfl (by kernel_rfl) rfl fC (λW hW=>by go_simp) hH ?_;refine gY 2 (.pointer (some ⟨Ba,0,none⟩)) rfl (by kernel_rfl) rfl fC (λW hW=>by go_simp) hH ?_;refine gY 3 (.int .i64 (i:Int)) rfl (by kernel_rfl) rfl fC (λW hW=>?_) hH ?_
   ·obtain⟨z1,z2,z3,z4,z5⟩:=hW;go_simp
   refine gY 5 (.pointer (some ⟨Ba,3,none⟩)) rfl (by kernel_rfl) rfl fC (λW hW=>by go_simp) hH ?_;refine gY 6 (.int .i64 f) rfl (by kernel_rfl) rfl fC (λW hW=>?_) hH ?_
   ·obtain⟨z1,z2,z3,z4,z5⟩:=hW;go_simp
   refine vB 4 (by kernel_rfl) rfl λK hK=>?_
   go_simp;refine HF.out.mono ?_;rintro e w3 ⟨rfl,hb3⟩;have af:=fu hb3 (fE ae);have ag:=fu hb3 (fE a12);have a33:=fu hb3 (fE a32);have ah:=fu hb3 (fE aa);have y23:=fu hb3 (fE y2);have HB3:=eZ (fD HB2.out.drew hb3);clear hb3;try go_wp2_with fail
   refine hK.out _ _ (⟨ah,af,ag,a33,y23⟩) (λhH2=>?_);clear hK K;try simp only[Act.put,fK,fP,fO]
   refine gY 7 (.bool true) rfl (by kernel_rfl) rfl fC (λW hW=>by go_simp) hH2 ?_;refine gY 8 (.bool true) rfl (by kernel_rfl) rfl fC (λW hW=>by go_simp) hH2 ?_;refine gY 9 (.pointer (some ⟨Ba,3,none⟩)) rfl (by kernel_rfl) rfl fC (λW hW=>by go_simp) hH2 ?_;refine gY 10 (.int .i64 f) rfl (by kernel_rfl) rfl fC (λW hW=>?_) hH2 ?_
   ·obtain⟨z1,z2,z3,z4,z5⟩:=hW;go_simp
   refine gY 11 (.pointer (some ⟨Ba,0,none⟩)) rfl (by kernel_rfl) rfl fC (λW hW=>by go_simp) hH2 ?_;refine gY 12 (.pointer (some ⟨Ba,1,none⟩)) rfl (by kernel_rfl) rfl fC (λW hW=>by go_simp) hH2 ?_;refine gY 13 (.int .i64 t) rfl (by kernel_rfl) rfl fC (λW hW=>?_) hH2 ?_
   ·obtain⟨z1,z2,z3,z4,z5⟩:=hW;go_simp
   refine gY 14 (.bool true) rfl (by kernel_rfl) rfl fC (λW hW=>by go_simp) hH2 ?_;refine gY 15 (.bool true) rfl (by kernel_rfl) rfl fC (λW hW=>by go_simp) hH2 ?_;refine gY 16 (.bool true) rfl (by kernel_rfl) rfl fC (λW hW=>by go_simp) hH2 ?_;refine gY 17 (.pointer (some ⟨Ba,0,none⟩)) rfl (by kernel_rfl) rfl fC (λW hW=>by go_simp) hH2 ?_;refine gY 18 (.pointer (some ⟨Ba,1,none⟩)) rfl (by kernel_rfl) rfl fC (λW hW=>by go_simp) hH2 ?_;refine gY 19 (.int .i64 t) rfl (by kernel_rfl) rfl fC (λW hW=>?_) hH2 ?_
   ·obtain⟨z1,z2,z3,z4,z5⟩:=hW;go_simp
   refine gY 20 (.pointer (some ⟨Bt,0,none⟩)) rfl (by kernel_rfl) rfl fC (λW hW=>by go_simp) hH2 ?_;refine gY 21 (.slice (some ⟨b,off,none⟩) N cap) rfl (by kernel_rfl) rfl fC (λW hW=>?_) hH2 ?_
   ·obtain⟨z1,z2,z3,z4,z5⟩:=hW;go_simp
   refine gY 22 (.pointer (some ⟨b,off,none⟩)) rfl (by kernel_rfl) rfl fC (λW hW=>by go_simp) hH2 ?_;refine gY 23 (.pointer (some ⟨b,off+2,none⟩)) rfl (by kernel_rfl) rfl fC (λW hW=>by go_simp) hH2 ?_;refine gY 24 (.int .i64 y.t) rfl (by kernel_rfl) rfl fC (λW hW=>?_) hH2 ?_
   ·obtain⟨z1,z2,z3,z4,z5⟩:=hW;go_simp
   refine gY 25 (.bool true) rfl (by kernel_rfl) rfl fC (λW hW=>by go_simp) hH2 ?_;refine gY 26 (.bool true) rfl (by kernel_rfl) rfl fC (λW hW=>by go_simp) hH2 ?_;refine gY 27 (.bool true) rfl (by kernel_rfl) rfl fC (λW hW=>by go_simp) hH2 ?_;refine yM (by kernel_rfl) ?_ _;go_wp2_with fail
   go_ret;exact⟨rfl,HB3.out⟩
end
section
open Go.RowKit
open Sq
open Fl (raw kx iQ cnt ends opens ig gW begins kd back fZ balanced jY text zP E9 mH vC iX)
theorem Ub(rb:Nat)(v:Value)(l:List Tk)(i:Nat)(w:World)(hR:RT w rb v l)(hT:nO l)(h0:kd l l.length i≠0)(hc:cnt (raw l i)=true)(h7:kd l l.length i≠7)(he:ends (kd l l.length i)=false):
 Calls prog 174 #[RP rb,.int .i64 i] w λe w'=>e=.returned (.int .i64 (jY l l.length i:Nat))/\w=w':=by
 have hi:=(Fl.jc h0).1;have aa:∀k,k=i->¬(kd l l.length k=0\/kd l l.length k=7\/ends (kd l l.length k)=true):=λk e h=>by
  subst e;rcases h with h|h|h
  ·exact h0 h
  ·exact h7 h
  rw[he]at h;cases h
 have HK:=eZ (λj (hj:j<=l.length)=>hR.kind j hj);have HM:=eZ (λk=>Nl k w);have HE:=eZ (λk=>XI k w);have ah:=eZ (λj (hj:j<=l.length)=>Nr hT hj);have ag:=eZ (λj (hj:j<=l.length)(h:kd l l.length j≠0)=>Ns hj h)
 have ai:=eZ (λj (hj:j<=l.length)(h:kd l l.length j=0)=>show kx l j=20\/kx l j=21 by
  have h1:=Nr hT hj;rw[lI h]at h1;unfold Fl.mk at h1
  simpa using h1)
 have aj:=eZ (λj (h:opens (kd l l.length j)=true)=>CE rb v l j w hR hT h);have ak:=eZ (λj (h:opens (kd l l.length j)=true)=>Fl.kV h);have av:=eZ (λj (hj:j<=l.length)(hij:i<j)=>hR.counted j (i+1) hj (by omega) (by omega) ⟨i+1,by omega,by omega,by rw[jH];exact hc⟩);have ax:=eZ (λj (h:kd l l.length j=0\/kd l l.length j=7\/ends (kd l l.length j)=true)=>Fl.I7 h);have ay:=eZ (λj (h:opens (kd l l.length j)=true)=>Fl.LD h);have az:=eZ (λj h0 h7 he ho=>Fl.PE (l:=l) (k:=j) h0 h7 he ho);have aA:=eZ (λj (h:kd l l.length j≠0)=>(Fl.jc h).1);have HF:=eZ aa;unfold jY;obtain⟨G,hG⟩:=fq (iX l l.length (l.length-i) i 0);rw[hG];have HG:=eZ hG;have hs:=hR.size;obtain⟨N,hN⟩:=fq (l.length);rw[hN]at HK ah ag ai aj ak av ax ay az aA HF HG hs hi;clear hR hT hc h0 h7 he hG hN aa
 go_enter func174,ntmps174
 go_wp2_with fail
 go_step3
 go_wp2_with fail
 go_step3
 go_wp2_with fail
 go_loopw [1] (λiv wr=>∃j:Nat,iv=.int .i64 j/\i<=j/\j<=N/\Hid (iX l N (N-j) j 0=G)/\w=wr) (λiv _=>N-(intOf iv).toNat)
 case atStart=>exact⟨i,rfl,fB _,by omega,HG,rfl⟩
 case round=>
  obtain⟨j,rfl,hij,af,HB,rfl⟩:=hrel;have hcall:=HK.out j af;have hme:=HE.out (kx l j);have hmm:=HM.out (kx l j);rw[ah.out j af]at hmm;by_cases hst:kd l N j=0\/kd l N j=7\/ends (kd l N j)=true
  ·have hlt:i<j:=by
    by_cases e:j=i
    ·exact absurd hst (HF.out j e)
    omega
   have hgj:G=j:=by rw[<-HB.out];exact ax.out j hst
   subst hgj;have H3:=eZ (av.out G af hlt);have hall:(kx l G=7)\/(kx l G≠7/\ends (kx l G)=true)\/(kx l G≠7/\ends (kx l G)=false/\kd l N G=0):=by
    by_cases hz:kd l N G=0
    ·rcases ai.out G af hz with h|h<;>rw[h]<;>exact .inr (.inr ⟨by decide,rfl,hz⟩)
    rw[ag.out G af hz];rcases hst with h|h|h
    ·exact absurd h hz
    ·exact .inl h
    exact .inr (.inl ⟨λh2=>by rw[h2]at h;exact absurd h (by decide),h⟩)
   obtain⟨K,hK⟩:=fq (kx l G);rw[hK]at hcall hme hmm hall;have H1:=eZ hcall;clear hcall HK HM HE ah ag ai aj ak av ax ay az aA HF HG HB hK hst;rcases hall with rfl|⟨q7,qe⟩|⟨q7,qe,qz⟩
   ·clear hme hmm;go_wp2_with fail
    refine H1.out.mono ?_;rintro e w1 ⟨rfl,rfl⟩;go_wp2_with fail
    refine H3.out.mono ?_;rintro e w1 ⟨rfl,rfl⟩;go_wp2_with fail
    rw[vJ];go_ret;exact⟨rfl,rfl⟩
   ·have g7:((K:Int)==7)=false:=by simp;omega
    rw[qe]at hme;have H2:=eZ hme;clear hme hmm q7 qe;go_wp2_with fail
    refine H1.out.mono ?_;rintro e w1 ⟨rfl,rfl⟩;go_wp2_with fail
    refine H2.out.mono ?_;rintro e w1 ⟨rfl,rfl⟩;go_wp2_with fail
    refine H3.out.mono ?_;rintro e w1 ⟨rfl,rfl⟩;go_wp2_with fail
    rw[vJ];go_ret;exact⟨rfl,rfl⟩
   have g7:((K:Int)==7)=false:=by simp;omega
   rw[qe]at hme;rw[lI qz]at hmm;obtain⟨H2,H4⟩:=fT hme hmm;clear hme hmm q7 qe qz;go_wp2_with fail
   refine H1.out.mono ?_;rintro e w1 ⟨rfl,rfl⟩;go_wp2_with fail
   refine H2.out.mono ?_;rintro e w1 ⟨rfl,rfl⟩;go_wp2_with fail
   refine H4.out.mono ?_;rintro e w1 ⟨rfl,rfl⟩;go_wp2_with fail
   refine H3.out.mono ?_;rintro e w1 ⟨rfl,rfl⟩;go_wp2_with fail
   rw[vJ];go_ret;exact⟨rfl,rfl⟩
  have hz:kd l N j≠0:=λh=>hst (.inl h)
  have k7:kd l N j≠7:=λh=>hst (.inr (.inl h))
  have ke:ends (kd l N j)=false:=by
   cases h:ends (kd l N j)with
   |true=>exact absurd (.inr (.inr h)) hst
   |false=>rfl
  rw[jE hz]at hmm;have hkx:=ag.out j af hz;have hjl:=aA.out j hz;rw[hkx]at hcall hme;rw[ke]at hme;have hbr:=aj.out j;have hbi:=ak.out j;have hsb:=ay.out j;have hso:=az.out j hz k7 ke;rw[HB.out]at hsb hso;obtain⟨K,hK⟩:=fq (kd l N j);rw[hkx]at hmm;rw[hK]at hcall hme hmm k7 hbr hbi hsb hso;have g7:((K:Int)==7)=false:=by simp;omega
  obtain⟨H1,H2,H4⟩:=jF hcall hme hmm;clear hcall hme hmm HK HM HE ah ag ai aj ak av ax ay az aA HF HG HB hst hz ke hkx;by_cases q8:K=8\/K=9
  ·have ho:opens K=true:=by rcases q8 with rfl|rfl<;>rfl
   have H5:=eZ (hbr ho);have ae:=hbi ho;have HB2:=eZ (hsb ho);obtain⟨b,hb⟩:=fq (balanced l N j);rw[hb]at H5 ae HB2;have hb1:=ae.1;have hb2:=ae.2.1;clear hbr hbi hsb hso ae hb ho hK k7;rcases q8 with rfl|rfl
   all_goals
    go_wp2_with fail
    refine H1.out.mono ?_;rintro e w1 ⟨rfl,rfl⟩;go_wp2_with fail
    refine H2.out.mono ?_;rintro e w1 ⟨rfl,rfl⟩;go_wp2_with fail
    refine H4.out.mono ?_;rintro e w1 ⟨rfl,rfl⟩;go_wp2_with fail
    refine H5.out.mono ?_;rintro e w1 ⟨rfl,rfl⟩;go_wp2_with fail
    go_roundw
    case rel=>exact⟨b,rfl,by omega,hb2,HB2,trivial⟩
    case measure=>simp[intOf];omega
  have ho:opens K=false:=by unfold opens;simp;omega
  have HB2:=eZ (hso ho);have g8:((K:Int)==8)=false:=by simp;omega
  have g9:((K:Int)==9)=false:=by simp;omega
  clear hbr hbi hsb hso ho hK k7 q8;go_wp2_with fail
  refine H1.out.mono ?_;rintro e w1 ⟨rfl,rfl⟩;go_wp2_with fail
  refine H2.out.mono ?_;rintro e w1 ⟨rfl,rfl⟩;go_wp2_with fail
  refine H4.out.mono ?_;rintro e w1 ⟨rfl,rfl⟩;go_wp2_with fail
  go_roundw
  case rel=>exact⟨j+1,by go_num,by omega,by omega,HB2,trivial⟩
  case measure=>simp[intOf];omega
theorem WH(rb:Nat)(v:Value)(l:List Tk)(p0:Nat)(w:World)(hR:RT w rb v l)(hT:nO l)(hp0:p0<=l.length):
 Calls prog 181 #[RP rb,.int .i64 p0] w λe w'=>e=.returned (.int .i64 (mH l p0))/\w=w':=by
 have HK:=eZ (λj (hj:j<=l.length)=>hR.kind j hj);have HI:=eZ (λj (hj:j<=l.length)=>hR.idle j hj);have aa:=eZ (λj (hj:j<=l.length)=>Fl.iY (l:=l) (e:=l.length) hj)
 have HKK:=eZ (λj (hj:j<=l.length)=>show(kx l j≠21->j<l.length)/\(kx l j≠20->kx l j≠21->kd l l.length j=kx l j)/\(kx l j=20\/kx l j=21->kd l l.length j=0)by
  refine⟨λh=>?_,λh1 h2=>?_,λh=>?_⟩
  ·unfold kx at h;split at h
   ·assumption
   exact absurd rfl h
  ·rw[Fl.B5 hj,eX (λh=>h.elim h1 h2)]
  rw[Fl.B5 hj,eY h])
 have ag:=eZ (λi h=>Fl.I8 (l:=l) (i:=i) h);have ae:=eZ (λi h h2=>Fl.I9 (l:=l) (i:=i) h h2);have ah:=eZ (λi h h2=>Fl.GN (l:=l) (i:=i) h h2);obtain⟨V,hV⟩:=fq (mH l p0);rw[hV];have az:=eZ hV;have hs:=hR.size;obtain⟨N,hN⟩:=fq (l.length);rw[hN]at hs hp0 HK HI aa HKK ag ae ah;clear hN hV hR hT
 go_enter func181,ntmps181
 go_wp2;refine VA 0 (λa' w'=>w'=w/\∃(p:Nat)(u5 u6 u7 u8 u9 aA aB aC aD aF aG u16 aH aI aJ u20 u21 u22 u23 u24 u25 u26 u27 u28:Value),a'={tmps:=#[RP rb,.int .i64 p,undef,undef,.int .i64 0,u5,u6,u7,u8,u9,aA,aB,aC,aD,aF,aG,u16,aH,aI,aJ,u20,u21,u22,u23,u24,u25,u26,u27,u28],defers:=[]}/\p<=N/\Hid (mH l p=V)) (λa' _=>N-(intOf (a'.tmps.getD 1 undef)).toNat) rfl ?_ ?_
 ·obtain⟨p,hpe⟩:=fq (p0);rw[hpe]at hp0 az⊢;have hp:=hp0;have HV:=az;clear hp0 az hpe;have hcall:=HK.out p hp;have hkk:=HKK.out p hp;obtain⟨K,hK⟩:=fq (kx l p);rw[hK]at hcall hkk;have H1:=eZ hcall;have hV:=HV.out;have hpl:K=12\/K=14\/K=15\/K=16\/K=17\/K=13->p<N:=λh=>hkk.1 (by omega)
  clear hcall HV;by_cases aj:K=12
  ·subst aj;have hkd:kd l N p=12:=hkk.2.1 (by decide) (by decide);have ai:=hpl (by omega);have H2:=eZ (HI.out (p+1) (by omega));have hin:=aa.out (p+1) (by omega);have hcp:=ag.out p (by rw[hkd];rfl);obtain⟨t,ht⟩:=fq (fZ l N (p+1));rw[ht]at H2 hin hcp;have HJ:=eZ (hcp.symm.trans hV);rw[show((p+1:Nat):Int)=(p:Int)+1 from by omega]at H2;clear HK HKK HI aa ag ae ah hkk hV hkd hcp ht hK hpl;go_wp2_with fail
   go_step3
   go_wp2_with fail
   refine H1.out.mono ?_;rintro e w1 ⟨rfl,rfl⟩;go_wp2_with fail
   refine H2.out.mono ?_;rintro e w1 ⟨rfl,rfl⟩;go_wp2_with fail
   go_step3
   refine⟨rfl,rfl,t,_,_,_,_,_,_,_,_,_,_,_,_,_,_,_,_,_,_,_,_,_,_,_,_,rfl,by omega,HJ⟩
  have g12:((K:Int)==12)=false:=by simp;omega
  by_cases ak:K=14
  ·subst ak;have hkd:kd l N p=14:=hkk.2.1 (by decide) (by decide);have ai:=hpl (by omega);have H2:=eZ (HI.out (p+1) (by omega));have hin:=aa.out (p+1) (by omega);have hcp:=ag.out p (by rw[hkd];rfl);obtain⟨t,ht⟩:=fq (fZ l N (p+1));rw[ht]at H2 hin hcp;have HJ:=eZ (hcp.symm.trans hV);rw[show((p+1:Nat):Int)=(p:Int)+1 from by omega]at H2;clear HK HKK HI aa ag ae ah hkk hV hkd hcp ht hK hpl;go_wp2_with fail
   go_step3
   go_wp2_with fail
   refine H1.out.mono ?_;rintro e w1 ⟨rfl,rfl⟩;go_wp2_with fail
   refine H2.out.mono ?_;rintro e w1 ⟨rfl,rfl⟩;go_wp2_with fail
   go_step3
   refine⟨rfl,rfl,t,_,_,_,_,_,_,_,_,_,_,_,_,_,_,_,_,_,_,_,_,_,_,_,_,rfl,by omega,HJ⟩
  have g14:((K:Int)==14)=false:=by simp;omega
  have af:gW (kd l N p)=false:=by
   by_cases hm:K=20\/K=21
   ·rw[hkk.2.2 hm];rfl
   rw[hkk.2.1 (by omega) (by omega)];unfold gW;simp;omega
  by_cases av:K=15
  ·subst av;have hkd:kd l N p=15:=hkk.2.1 (by decide) (by decide);have ai:=hpl (by omega);have H2:=eZ (HI.out (p+1) (by omega));have hin:=aa.out (p+1) (by omega);have hcp:=ae.out p af (by rw[hkd];rfl);rw[hV]at hcp;obtain⟨t,ht⟩:=fq (fZ l N (p+1));rw[ht]at H2 hin hcp;have hk2:=HKK.out t hin.2;have hc2:=HK.out t hin.2;rw[show((p+1:Nat):Int)=(p:Int)+1 from by omega]at H2;obtain⟨J,hJ⟩:=fq (kx l t);rw[hJ]at hk2 hc2;have H3:=eZ hc2;by_cases q6:J=6
   ·subst q6;have h6:kd l N t=6:=hk2.2.1 (by decide) (by decide);rw[eY h6]at hcp;subst hcp;clear HK HKK HI aa ag ae ah hkk hV hkd ht hK hpl hk2 hc2 hJ h6 af;go_wp2_with fail
    go_step3
    go_wp2_with fail
    refine H1.out.mono ?_;rintro e w1 ⟨rfl,rfl⟩;go_wp2_with fail
    refine H2.out.mono ?_;rintro e w1 ⟨rfl,rfl⟩;go_wp2_with fail
    refine H3.out.mono ?_;rintro e w1 ⟨rfl,rfl⟩;go_wp2_with fail
    simp only[Exit.jump];go_ret;exact⟨rfl,rfl⟩
   have h6:kd l N t≠6:=λh=>by
    by_cases hm:J=20\/J=21
    ·rw[hk2.2.2 hm]at h;cases h
    rw[hk2.2.1 (by omega) (by omega)]at h;omega
   rw[eX h6]at hcp;subst hcp;have g6:((J:Int)==6)=false:=by simp;omega
   clear HK HKK HI aa ag ae ah hkk hV hkd ht hK hpl hk2 hc2 hJ h6 af q6;go_wp2_with fail
   go_step3
   go_wp2_with fail
   refine H1.out.mono ?_;rintro e w1 ⟨rfl,rfl⟩;go_wp2_with fail
   refine H2.out.mono ?_;rintro e w1 ⟨rfl,rfl⟩;go_wp2_with fail
   refine H3.out.mono ?_;rintro e w1 ⟨rfl,rfl⟩;go_wp2_with fail
   simp only[Exit.jump];go_ret;exact⟨rfl,rfl⟩
  have g15:((K:Int)==15)=false:=by simp;omega
  by_cases q16:K=16
  ·subst q16;have hkd:kd l N p=16:=hkk.2.1 (by decide) (by decide);have ai:=hpl (by omega);have H2:=eZ (HI.out (p+1) (by omega));have hin:=aa.out (p+1) (by omega);have hcp:=ae.out p af (by rw[hkd];rfl);rw[hV]at hcp;obtain⟨t,ht⟩:=fq (fZ l N (p+1));rw[ht]at H2 hin hcp;have hk2:=HKK.out t hin.2;have hc2:=HK.out t hin.2;rw[show((p+1:Nat):Int)=(p:Int)+1 from by omega]at H2;obtain⟨J,hJ⟩:=fq (kx l t);rw[hJ]at hk2 hc2;have H3:=eZ hc2;by_cases q6:J=6
   ·subst q6;have h6:kd l N t=6:=hk2.2.1 (by decide) (by decide);rw[eY h6]at hcp;subst hcp;clear HK HKK HI aa ag ae ah hkk hV hkd ht hK hpl hk2 hc2 hJ h6 af;go_wp2_with fail
    go_step3
    go_wp2_with fail
    refine H1.out.mono ?_;rintro e w1 ⟨rfl,rfl⟩;go_wp2_with fail
    refine H2.out.mono ?_;rintro e w1 ⟨rfl,rfl⟩;go_wp2_with fail
    refine H3.out.mono ?_;rintro e w1 ⟨rfl,rfl⟩;go_wp2_with fail
    simp only[Exit.jump];go_ret;exact⟨rfl,rfl⟩
   have h6:kd l N t≠6:=λh=>by
    by_cases hm:J=20\/J=21
    ·rw[hk2.2.2 hm]at h;cases h
    rw[hk2.2.1 (by omega) (by omega)]at h;omega
   rw[eX h6]at hcp;subst hcp;have g6:((J:Int)==6)=false:=by simp;omega
   clear HK HKK HI aa ag ae ah hkk hV hkd ht hK hpl hk2 hc2 hJ h6 af q6;go_wp2_with fail
   go_step3
   go_wp2_with fail
   refine H1.out.mono ?_;rintro e w1 ⟨rfl,rfl⟩;go_wp2_with fail
   refine H2.out.mono ?_;rintro e w1 ⟨rfl,rfl⟩;go_wp2_with fail
   refine H3.out.mono ?_;rintro e w1 ⟨rfl,rfl⟩;go_wp2_with fail
   simp only[Exit.jump];go_ret;exact⟨rfl,rfl⟩
  have g16:((K:Int)==16)=false:=by simp;omega
  by_cases ax:K=17
  ·subst ax;have hkd:kd l N p=17:=hkk.2.1 (by decide) (by decide);have ai:=hpl (by omega);have H2:=eZ (HI.out (p+1) (by omega));have hin:=aa.out (p+1) (by omega);have hcp:=ae.out p af (by rw[hkd];rfl);rw[hV]at hcp;obtain⟨t,ht⟩:=fq (fZ l N (p+1));rw[ht]at H2 hin hcp;have hk2:=HKK.out t hin.2;have hc2:=HK.out t hin.2;rw[show((p+1:Nat):Int)=(p:Int)+1 from by omega]at H2;obtain⟨J,hJ⟩:=fq (kx l t);rw[hJ]at hk2 hc2;have H3:=eZ hc2;by_cases q6:J=6
   ·subst q6;have h6:kd l N t=6:=hk2.2.1 (by decide) (by decide);rw[eY h6]at hcp;subst hcp;clear HK HKK HI aa ag ae ah hkk hV hkd ht hK hpl hk2 hc2 hJ h6 af;go_wp2_with fail
    go_step3
    go_wp2_with fail
    refine H1.out.mono ?_;rintro e w1 ⟨rfl,rfl⟩;go_wp2_with fail
    refine H2.out.mono ?_;rintro e w1 ⟨rfl,rfl⟩;go_wp2_with fail
    refine H3.out.mono ?_;rintro e w1 ⟨rfl,rfl⟩;go_wp2_with fail
    simp only[Exit.jump];go_ret;exact⟨rfl,rfl⟩
   have h6:kd l N t≠6:=λh=>by
    by_cases hm:J=20\/J=21
    ·rw[hk2.2.2 hm]at h;cases h
    rw[hk2.2.1 (by omega) (by omega)]at h;omega
   rw[eX h6]at hcp;subst hcp;have g6:((J:Int)==6)=false:=by simp;omega
   clear HK HKK HI aa ag ae ah hkk hV hkd ht hK hpl hk2 hc2 hJ h6 af q6;go_wp2_with fail
   go_step3
   go_wp2_with fail
   refine H1.out.mono ?_;rintro e w1 ⟨rfl,rfl⟩;go_wp2_with fail
   refine H2.out.mono ?_;rintro e w1 ⟨rfl,rfl⟩;go_wp2_with fail
   refine H3.out.mono ?_;rintro e w1 ⟨rfl,rfl⟩;go_wp2_with fail
   simp only[Exit.jump];go_ret;exact⟨rfl,rfl⟩
  have g17:((K:Int)==17)=false:=by simp;omega
  by_cases ay:K=13
  ·subst ay;have hkd:kd l N p=13:=hkk.2.1 (by decide) (by decide);have ai:=hpl (by omega);have H2:=eZ (HI.out (p+1) (by omega));have hin:=aa.out (p+1) (by omega);have hcp:=ae.out p af (by rw[hkd];rfl);rw[hV]at hcp;obtain⟨t,ht⟩:=fq (fZ l N (p+1));rw[ht]at H2 hin hcp;have hk2:=HKK.out t hin.2;have hc2:=HK.out t hin.2;rw[show((p+1:Nat):Int)=(p:Int)+1 from by omega]at H2;obtain⟨J,hJ⟩:=fq (kx l t);rw[hJ]at hk2 hc2;have H3:=eZ hc2;by_cases q6:J=6
   ·subst q6;have h6:kd l N t=6:=hk2.2.1 (by decide) (by decide);rw[eY h6]at hcp;subst hcp;clear HK HKK HI aa ag ae ah hkk hV hkd ht hK hpl hk2 hc2 hJ h6 af;go_wp2_with fail
    go_step3
    go_wp2_with fail
    refine H1.out.mono ?_;rintro e w1 ⟨rfl,rfl⟩;go_wp2_with fail
    refine H2.out.mono ?_;rintro e w1 ⟨rfl,rfl⟩;go_wp2_with fail
    refine H3.out.mono ?_;rintro e w1 ⟨rfl,rfl⟩;go_wp2_with fail
    simp only[Exit.jump];go_ret;exact⟨rfl,rfl⟩
   have h6:kd l N t≠6:=λh=>by
    by_cases hm:J=20\/J=21
    ·rw[hk2.2.2 hm]at h;cases h
    rw[hk2.2.1 (by omega) (by omega)]at h;omega
   rw[eX h6]at hcp;subst hcp;have g6:((J:Int)==6)=false:=by simp;omega
   clear HK HKK HI aa ag ae ah hkk hV hkd ht hK hpl hk2 hc2 hJ h6 af q6;go_wp2_with fail
   go_step3
   go_wp2_with fail
   refine H1.out.mono ?_;rintro e w1 ⟨rfl,rfl⟩;go_wp2_with fail
   refine H2.out.mono ?_;rintro e w1 ⟨rfl,rfl⟩;go_wp2_with fail
   refine H3.out.mono ?_;rintro e w1 ⟨rfl,rfl⟩;go_wp2_with fail
   simp only[Exit.jump];go_ret;exact⟨rfl,rfl⟩
  have g13:((K:Int)==13)=false:=by simp;omega
  have hns:ig (kd l N p)=false:=by
   by_cases hm:K=20\/K=21
   ·rw[hkk.2.2 hm];rfl
   rw[hkk.2.1 (by omega) (by omega)];unfold ig;simp;omega
  have hcp:=ah.out p af hns;rw[hV]at hcp;by_cases q6:K=6
  ·subst q6;have h6:kd l N p=6:=hkk.2.1 (by decide) (by decide);rw[eY h6]at hcp;subst hcp;clear HK HKK HI aa ag ae ah hkk hV hK hpl h6 af hns;go_wp2_with fail
   go_step3
   go_wp2_with fail
   refine H1.out.mono ?_;rintro e w1 ⟨rfl,rfl⟩;go_wp2_with fail
   refine H1.out.mono ?_;rintro e w1 ⟨rfl,rfl⟩;go_wp2_with fail
   simp only[Exit.jump];go_ret;exact⟨rfl,rfl⟩
  have h6:kd l N p≠6:=λh=>by
   by_cases hm:K=20\/K=21
   ·rw[hkk.2.2 hm]at h;cases h
   rw[hkk.2.1 (by omega) (by omega)]at h;omega
  rw[eX h6]at hcp;subst hcp;have g6:((K:Int)==6)=false:=by simp;omega
  clear HK HKK HI aa ag ae ah hkk hV hK hpl h6 af hns q6 aj ak av q16 ax ay;go_wp2_with fail
  go_step3
  go_wp2_with fail
  refine H1.out.mono ?_;rintro e w1 ⟨rfl,rfl⟩;go_wp2_with fail
  refine H1.out.mono ?_;rintro e w1 ⟨rfl,rfl⟩;go_wp2_with fail
  simp only[Exit.jump];go_ret;exact⟨rfl,rfl⟩
 rintro a' w' ⟨rfl,p,u5,u6,u7,u8,u9,aA,aB,aC,aD,aF,aG,u16,aH,aI,aJ,u20,u21,u22,u23,u24,u25,u26,u27,u28,rfl,hp,HV⟩;have hcall:=HK.out p hp;have hkk:=HKK.out p hp;obtain⟨K,hK⟩:=fq (kx l p);rw[hK]at hcall hkk;have H1:=eZ hcall;have hV:=HV.out;have hpl:K=12\/K=14\/K=15\/K=16\/K=17\/K=13->p<N:=λh=>hkk.1 (by omega)
 clear hcall HV;by_cases aj:K=12
 ·subst aj;have hkd:kd l N p=12:=hkk.2.1 (by decide) (by decide);have ai:=hpl (by omega);have H2:=eZ (HI.out (p+1) (by omega));have hin:=aa.out (p+1) (by omega);have hcp:=ag.out p (by rw[hkd];rfl);obtain⟨t,ht⟩:=fq (fZ l N (p+1));rw[ht]at H2 hin hcp;have HJ:=eZ (hcp.symm.trans hV);rw[show((p+1:Nat):Int)=(p:Int)+1 from by omega]at H2;clear HK HKK HI aa ag ae ah hkk hV hkd hcp ht hK hpl;go_wp2_with fail
  refine H1.out.mono ?_;rintro e w1 ⟨rfl,rfl⟩;go_wp2_with fail
  refine H2.out.mono ?_;rintro e w1 ⟨rfl,rfl⟩;go_wp2_with fail
  go_step3
  refine⟨rfl,⟨rfl,t,_,_,_,_,_,_,_,_,_,_,_,_,_,_,_,_,_,_,_,_,_,_,_,_,rfl,by omega,HJ⟩,?_⟩;simp[intOf];omega
 have g12:((K:Int)==12)=false:=by simp;omega
 by_cases ak:K=14
 ·subst ak;have hkd:kd l N p=14:=hkk.2.1 (by decide) (by decide);have ai:=hpl (by omega);have H2:=eZ (HI.out (p+1) (by omega));have hin:=aa.out (p+1) (by omega);have hcp:=ag.out p (by rw[hkd];rfl);obtain⟨t,ht⟩:=fq (fZ l N (p+1));rw[ht]at H2 hin hcp;have HJ:=eZ (hcp.symm.trans hV);rw[show((p+1:Nat):Int)=(p:Int)+1 from by omega]at H2;clear HK HKK HI aa ag ae ah hkk hV hkd hcp ht hK hpl;go_wp2_with fail
  refine H1.out.mono ?_;rintro e w1 ⟨rfl,rfl⟩;go_wp2_with fail
  refine H2.out.mono ?_;rintro e w1 ⟨rfl,rfl⟩;go_wp2_with fail
  go_step3
  refine⟨rfl,⟨rfl,t,_,_,_,_,_,_,_,_,_,_,_,_,_,_,_,_,_,_,_,_,_,_,_,_,rfl,by omega,HJ⟩,?_⟩;simp[intOf];omega
 have g14:((K:Int)==14)=false:=by simp;omega
 have af:gW (kd l N p)=false:=by
  by_cases hm:K=20\/K=21
  ·rw[hkk.2.2 hm];rfl
  rw[hkk.2.1 (by omega) (by omega)];unfold gW;simp;omega
 by_cases av:K=15
 ·subst av;have hkd:kd l N p=15:=hkk.2.1 (by decide) (by decide);have ai:=hpl (by omega);have H2:=eZ (HI.out (p+1) (by omega));have hin:=aa.out (p+1) (by omega);have hcp:=ae.out p af (by rw[hkd];rfl);rw[hV]at hcp;obtain⟨t,ht⟩:=fq (fZ l N (p+1));rw[ht]at H2 hin hcp;have hk2:=HKK.out t hin.2;have hc2:=HK.out t hin.2;rw[show((p+1:Nat):Int)=(p:Int)+1 from by omega]at H2;obtain⟨J,hJ⟩:=fq (kx l t);rw[hJ]at hk2 hc2;have H3:=eZ hc2;by_cases q6:J=6
  ·subst q6;have h6:kd l N t=6:=hk2.2.1 (by decide) (by decide);rw[eY h6]at hcp;subst hcp;clear HK HKK HI aa ag ae ah hkk hV hkd ht hK hpl hk2 hc2 hJ h6 af;go_wp2_with fail
   refine H1.out.mono ?_;rintro e w1 ⟨rfl,rfl⟩;go_wp2_with fail
   refine H2.out.mono ?_;rintro e w1 ⟨rfl,rfl⟩;go_wp2_with fail
   refine H3.out.mono ?_;rintro e w1 ⟨rfl,rfl⟩;go_wp2_with fail
   simp only[Exit.jump];go_ret;exact⟨rfl,rfl⟩
  have h6:kd l N t≠6:=λh=>by
   by_cases hm:J=20\/J=21
   ·rw[hk2.2.2 hm]at h;cases h
   rw[hk2.2.1 (by omega) (by omega)]at h;omega
  rw[eX h6]at hcp;subst hcp;have g6:((J:Int)==6)=false:=by simp;omega
  clear HK HKK HI aa ag ae ah hkk hV hkd ht hK hpl hk2 hc2 hJ h6 af q6;go_wp2_with fail
  refine H1.out.mono ?_;rintro e w1 ⟨rfl,rfl⟩;go_wp2_with fail
  refine H2.out.mono ?_;rintro e w1 ⟨rfl,rfl⟩;go_wp2_with fail
  refine H3.out.mono ?_;rintro e w1 ⟨rfl,rfl⟩;go_wp2_with fail
  simp only[Exit.jump];go_ret;exact⟨rfl,rfl⟩
 have g15:((K:Int)==15)=false:=by simp;omega
 by_cases q16:K=16
 ·subst q16;have hkd:kd l N p=16:=hkk.2.1 (by decide) (by decide);have ai:=hpl (by omega);have H2:=eZ (HI.out (p+1) (by omega));have hin:=aa.out (p+1) (by omega);have hcp:=ae.out p af (by rw[hkd];rfl);rw[hV]at hcp;obtain⟨t,ht⟩:=fq (fZ l N (p+1));rw[ht]at H2 hin hcp;have hk2:=HKK.out t hin.2;have hc2:=HK.out t hin.2;rw[show((p+1:Nat):Int)=(p:Int)+1 from by omega]at H2;obtain⟨J,hJ⟩:=fq (kx l t);rw[hJ]at hk2 hc2;have H3:=eZ hc2;by_cases q6:J=6
  ·subst q6;have h6:kd l N t=6:=hk2.2.1 (by decide) (by decide);rw[eY h6]at hcp;subst hcp;clear HK HKK HI aa ag ae ah hkk hV hkd ht hK hpl hk2 hc2 hJ h6 af;go_wp2_with fail
   refine H1.out.mono ?_;rintro e w1 ⟨rfl,rfl⟩;go_wp2_with fail
   refine H2.out.mono ?_;rintro e w1 ⟨rfl,rfl⟩;go_wp2_with fail
   refine H3.out.mono ?_;rintro e w1 ⟨rfl,rfl⟩;go_wp2_with fail
   simp only[Exit.jump];go_ret;exact⟨rfl,rfl⟩
  have h6:kd l N t≠6:=λh=>by
   by_cases hm:J=20\/J=21
   ·rw[hk2.2.2 hm]at h;cases h
   rw[hk2.2.1 (by omega) (by omega)]at h;omega
  rw[eX h6]at hcp;subst hcp;have g6:((J:Int)==6)=false:=by simp;omega
  clear HK HKK HI aa ag ae ah hkk hV hkd ht hK hpl hk2 hc2 hJ h6 af q6;go_wp2_with fail
  refine H1.out.mono ?_;rintro e w1 ⟨rfl,rfl⟩;go_wp2_with fail
  refine H2.out.mono ?_;rintro e w1 ⟨rfl,rfl⟩;go_wp2_with fail
  refine H3.out.mono ?_;rintro e w1 ⟨rfl,rfl⟩;go_wp2_with fail
  simp only[Exit.jump];go_ret;exact⟨rfl,rfl⟩
 have g16:((K:Int)==16)=false:=by simp;omega
 by_cases ax:K=17
 ·subst ax;have hkd:kd l N p=17:=hkk.2.1 (by decide) (by decide);have ai:=hpl (by omega);have H2:=eZ (HI.out (p+1) (by omega));have hin:=aa.out (p+1) (by omega);have hcp:=ae.out p af (by rw[hkd];rfl);rw[hV]at hcp;obtain⟨t,ht⟩:=fq (fZ l N (p+1));rw[ht]at H2 hin hcp;have hk2:=HKK.out t hin.2;have hc2:=HK.out t hin.2;rw[show((p+1:Nat):Int)=(p:Int)+1 from by omega]at H2;obtain⟨J,hJ⟩:=fq (kx l t);rw[hJ]at hk2 hc2;have H3:=eZ hc2;by_cases q6:J=6
  ·subst q6;have h6:kd l N t=6:=hk2.2.1 (by decide) (by decide);rw[eY h6]at hcp;subst hcp;clear HK HKK HI aa ag ae ah hkk hV hkd ht hK hpl hk2 hc2 hJ h6 af;go_wp2_with fail
   refine H1.out.mono ?_;rintro e w1 ⟨rfl,rfl⟩;go_wp2_with fail
   refine H2.out.mono ?_;rintro e w1 ⟨rfl,rfl⟩;go_wp2_with fail
   refine H3.out.mono ?_;rintro e w1 ⟨rfl,rfl⟩;go_wp2_with fail
   simp only[Exit.jump];go_ret;exact⟨rfl,rfl⟩
  have h6:kd l N t≠6:=λh=>by
   by_cases hm:J=20\/J=21
   ·rw[hk2.2.2 hm]at h;cases h
   rw[hk2.2.1 (by omega) (by omega)]at h;omega
  rw[eX h6]at hcp;subst hcp;have g6:((J:Int)==6)=false:=by simp;omega
  clear HK HKK HI aa ag ae ah hkk hV hkd ht hK hpl hk2 hc2 hJ h6 af q6;go_wp2_with fail
  refine H1.out.mono ?_;rintro e w1 ⟨rfl,rfl⟩;go_wp2_with fail
  refine H2.out.mono ?_;rintro e w1 ⟨rfl,rfl⟩;go_wp2_with fail
  refine H3.out.mono ?_;rintro e w1 ⟨rfl,rfl⟩;go_wp2_with fail
  simp only[Exit.jump];go_ret;exact⟨rfl,rfl⟩
 have g17:((K:Int)==17)=false:=by simp;omega
 by_cases ay:K=13
 ·subst ay;have hkd:kd l N p=13:=hkk.2.1 (by decide) (by decide);have ai:=hpl (by omega);have H2:=eZ (HI.out (p+1) (by omega));have hin:=aa.out (p+1) (by omega);have hcp:=ae.out p af (by rw[hkd];rfl);rw[hV]at hcp;obtain⟨t,ht⟩:=fq (fZ l N (p+1));rw[ht]at H2 hin hcp;have hk2:=HKK.out t hin.2;have hc2:=HK.out t hin.2;rw[show((p+1:Nat):Int)=(p:Int)+1 from by omega]at H2;obtain⟨J,hJ⟩:=fq (kx l t);rw[hJ]at hk2 hc2;have H3:=eZ hc2;by_cases q6:J=6
  ·subst q6;have h6:kd l N t=6:=hk2.2.1 (by decide) (by decide);rw[eY h6]at hcp;subst hcp;clear HK HKK HI aa ag ae ah hkk hV hkd ht hK hpl hk2 hc2 hJ h6 af;go_wp2_with fail
   refine H1.out.mono ?_;rintro e w1 ⟨rfl,rfl⟩;go_wp2_with fail
   refine H2.out.mono ?_;rintro e w1 ⟨rfl,rfl⟩;go_wp2_with fail
   refine H3.out.mono ?_;rintro e w1 ⟨rfl,rfl⟩;go_wp2_with fail
   simp only[Exit.jump];go_ret;exact⟨rfl,rfl⟩
  have h6:kd l N t≠6:=λh=>by
   by_cases hm:J=20\/J=21
   ·rw[hk2.2.2 hm]at h;cases h
   rw[hk2.2.1 (by omega) (by omega)]at h;omega
  rw[eX h6]at hcp;subst hcp;have g6:((J:Int)==6)=false:=by simp;omega
  clear HK HKK HI aa ag ae ah hkk hV hkd ht hK hpl hk2 hc2 hJ h6 af q6;go_wp2_with fail
  refine H1.out.mono ?_;rintro e w1 ⟨rfl,rfl⟩;go_wp2_with fail
  refine H2.out.mono ?_;rintro e w1 ⟨rfl,rfl⟩;go_wp2_with fail
  refine H3.out.mono ?_;rintro e w1 ⟨rfl,rfl⟩;go_wp2_with fail
  simp only[Exit.jump];go_ret;exact⟨rfl,rfl⟩
 have g13:((K:Int)==13)=false:=by simp;omega
 have hns:ig (kd l N p)=false:=by
  by_cases hm:K=20\/K=21
  ·rw[hkk.2.2 hm];rfl
  rw[hkk.2.1 (by omega) (by omega)];unfold ig;simp;omega
 have hcp:=ah.out p af hns;rw[hV]at hcp;by_cases q6:K=6
 ·subst q6;have h6:kd l N p=6:=hkk.2.1 (by decide) (by decide);rw[eY h6]at hcp;subst hcp;clear HK HKK HI aa ag ae ah hkk hV hK hpl h6 af hns;go_wp2_with fail
  refine H1.out.mono ?_;rintro e w1 ⟨rfl,rfl⟩;go_wp2_with fail
  refine H1.out.mono ?_;rintro e w1 ⟨rfl,rfl⟩;go_wp2_with fail
  simp only[Exit.jump];go_ret;exact⟨rfl,rfl⟩
 have h6:kd l N p≠6:=λh=>by
  by_cases hm:K=20\/K=21
  ·rw[hkk.2.2 hm]at h;cases h
  rw[hkk.2.1 (by omega) (by omega)]at h;omega
 rw[eX h6]at hcp;subst hcp;have g6:((K:Int)==6)=false:=by simp;omega
 clear HK HKK HI aa ag ae ah hkk hV hK hpl h6 af hns q6 aj ak av q16 ax ay;go_wp2_with fail
 refine H1.out.mono ?_;rintro e w1 ⟨rfl,rfl⟩;go_wp2_with fail
 refine H1.out.mono ?_;rintro e w1 ⟨rfl,rfl⟩;go_wp2_with fail
 simp only[Exit.jump];go_ret;exact⟨rfl,rfl⟩
end
end Go.Proofs.YtmkkdjpebbdikaaGreatDoor

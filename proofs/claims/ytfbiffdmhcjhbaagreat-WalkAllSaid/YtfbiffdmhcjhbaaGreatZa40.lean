import Derived.Test.YtfbiffdmhcjhbaaGreatZa29
import Derived.Test.YtfbiffdmhcjhbaaGreatZa39
set_option linter.all false
set_option maxHeartbeats 16000000
set_option maxRecDepth 100000
set_option synthInstance.maxSize 4000
set_option synthInstance.maxHeartbeats 0
namespace Go.Proofs.YtfbiffdmhcjhbaaGreat
open Go.RowKit Tryz
section
open Go.RowKit
open Sq
open Ar
open Fl (Tk)
def zY(X:List Tk×List Nd×List Fl.Dg)(w:World)(e:Ending)(w':World):Prop:=
 ∃tv nv dv L,e=.returned (.tuple #[tv,.agg #[nv],dv])/\w'.ownsRow w.heap.size 73 3 tv X.1.length (iZ.all X.1)/\OT w' w.heap.size nv L/\L.map Ln.nd=X.2.1/\w'.ownsRow w.heap.size 89 3 dv X.2.2.length (gD.all X.2.2)/\Below w.heap.size w w'
theorem OT.base'{w:World}{B B':Nat}{v:Value}{L:List Ln}(h:OT w B v L)(hB:B'<=B):OT w B' v L:=
 ⟨iK h.row hB,λi p hp=>iK (h.kids i p hp) hB,h.apart⟩
theorem vN{w:World}{B T s n k o:Nat}{v u:Value}{xs:List Value}(h:w.ownsRow B T s v n xs)(hk:k<B):(w.setCell ⟨k,o,none⟩ u).ownsRow B T s v n xs:=
 il h (λg hg=>uo _ _ _ _ (λe=>by have h1:=(h.lt g hg).1;have h2:g=k:=e;omega))
theorem OT.low{w:World}{B k o:Nat}{v u:Value}{L:List Ln}(h:OT w B v L)(hk:k<B):OT (w.setCell ⟨k,o,none⟩ u) B v L:=
 ⟨vN h.row hk,λi p hp=>vN (h.kids i p hp) hk,h.apart⟩
theorem PZ(b:ByteArray)(x:Tk):(Ps.jY (Sc.fP b) x).length<=b.size+1:=by
 rw[uP];have hl:(b.extract x.2.1 x.2.2).data.toList.length<=b.size:=by
  rw[Lt];show(b.extract x.2.1 x.2.2).size<=_;rw[Fu];omega
 have hbd:=Ps.Bw (x.1:Nat) (b.extract x.2.1 x.2.2).data.toList;have h1:=nG (n:=b.size) _ (E5 (x.1:Nat) (b.extract x.2.1 x.2.2).data.toList) (λk hk=>by have:=hbd k hk;omega);have h2:(uT b x).2.length<=b.size:=h1;split
 ·rw[ig,nP];split<;>simp<;>omega
 exact gG _
theorem Fp(b:ByteArray):∀l:List Tk,(l.flatMap (Ps.jY (Sc.fP b))).length<=l.length*(b.size+1)
 |[]=>gG _
 |x::l=>by
  rw[nN,ig,gy,qW,Ia];have h1:=PZ b x;have h3:=Fp b l;omega
theorem drop_at{α:Type}{L:List α}{i:Nat}{x:α}(h:L[i]?=some x):L.drop i=x::L.drop (i+1):=by
 have hi:=(fT.1 h).1;have he:=(fT.1 h).2;rw[sM hi,he]
structure RL(l:List Tk)(depth:Nat)(i:Nat)(p:Ps.PS):Prop where
 run:Ps.jf l (Rw.fE l) depth (Ps.start l) (Rw.fE l)=Ps.jf l (Rw.fE l) depth p ((Rw.fE l).drop i)
 inv:Ps.Inv l (0,(Ps.start l).s) p.read p
 rd:p.read<=l.length
 st:p.st.length<=depth
 sz:p.s.t.length<=1+5*p.read
 dd:p.s.d.length<=i*(l.length+2)
theorem RL.start{l:List Tk}{depth:Nat}(hl:l.length<=32768):RL l depth 0 (Ps.start l):=
 ⟨rfl,Ps.tZ l hl,gG _,gG _,by show(mU (l.length:Int)).length<=_;unfold mU;rw[eQ (by omega)];exact fC _,gG _⟩
theorem RL.step{l:List Tk}{depth i:Nat}{p:Ps.PS}{r:Rw.R}(ht:Rw.jl 0 l)(h:RL l depth i p)(hr:(Rw.fE l)[i]?=some r)(hp:p.read<=r.from'):RL l depth (i+1) (Ps.row l (Rw.fE l) depth p r):=by
 have hok:=Ps.rows_ok l r (nQ hr);obtain⟨k1,k2⟩:=Ps.CW (depth:=depth) ht h.inv hok (gG _) hp;obtain⟨k3,k4⟩:=Ps.Bu (depth:=depth) ht h.inv hok (gG _) hp;have k5:=Ps.Q6 (depth:=depth) ht h.inv hok (gG _) hp;have k6:=Ps.PT l (Rw.fE l) depth p r h.st;have k7:=h.sz;have k8:=h.dd;refine⟨?_,k1,k2,k6,by omega,?_⟩
 ·rw[h.run,drop_at hr,Ps.jf,eT hp]
 rw[qW,Ia];omega
theorem RL.skip{l:List Tk}{depth i:Nat}{p:Ps.PS}{r:Rw.R}(h:RL l depth i p)(hr:(Rw.fE l)[i]?=some r)(hp:¬p.read<=r.from'):RL l depth (i+1) p:=by
 have k8:=h.dd;refine⟨?_,h.inv,h.rd,h.st,h.sz,?_⟩
 ·rw[h.run,drop_at hr,Ps.jf,eQ hp]
 rw[qW,Ia];omega
theorem RL.done{l:List Tk}{depth:Nat}{p:Ps.PS}(h:RL l depth (Rw.fE l).length p):Ps.read l depth=p.s:=by
 unfold Ps.read;rw[h.run,List.drop_length];rfl
theorem Rc(w:World)(bv:Value)(b:ByteArray)(depth:Nat)(hb:ou w bv b)(hz:b.size<=16384)(h1:1<=depth)(h50:depth<=50):
 Calls prog 7 #[bv,.int .i64 depth] w (zY (Ps.tree (Sc.fP b) depth) w):=by
 have hnl:=Sc.ll b;have htl:=xE (Sc.fP b);have hti:=Rw.qN (Sc.fP b);have hbd:=yJ (Sc.fP b);have bf:=Nh b (by omega);have ah:Ps.tree (Sc.fP b) depth=(Sc.tokens (Sc.fP b),(Ps.read (Sc.tokens (Sc.fP b)) depth).t,Ps.lF ((Ps.read (Sc.tokens (Sc.fP b)) depth).d++Ps.sP (Sc.fP b) (Sc.tokens (Sc.fP b)))):=by unfold Ps.tree;rw[eQ (by omega)]
 have htold:Ps.sP (Sc.fP b) (Sc.tokens (Sc.fP b))=(Sg.bad b).map Ps.uw++(Rw.fE (Sc.tokens (Sc.fP b))).flatMap (Ps.tabs (Sc.fP b) (Sc.tokens (Sc.fP b)))++(Sc.tokens (Sc.fP b)).flatMap (Ps.jY (Sc.fP b)):=by
  unfold Ps.sP;rw[Jg];rfl
 have htk:=λW (hW:ou W bv b)=>Ng bv b W hW
 unfold Gives at htk;have aa:(Ps.sP (Sc.fP b) (Sc.tokens (Sc.fP b))).length<=537000000:=by
  have a1:=Sg.Eh b;have a2:=Ps.uQ (Sc.fP b) (Sc.tokens (Sc.fP b)) (Rw.fE (Sc.tokens (Sc.fP b))) (λr hr=>(Ps.rows_ok _ r hr).le);have a3:=Fp b (Sc.tokens (Sc.fP b));have a4:=ze (Sc.tokens (Sc.fP b));have a5:(Rw.fE (Sc.tokens (Sc.fP b))).length*(Sc.tokens (Sc.fP b)).length<=16384*16384:=H9 (by omega) (by omega);have a6:(Sc.tokens (Sc.fP b)).length*(b.size+1)<=16384*16385:=H9 (by omega) (by omega);rw[htold,ig,ig,nP];omega
 obtain⟨l,hl⟩:=eX (Sc.tokens (Sc.fP b));rw[hl]at htl hti hbd bf ah htold htk aa;obtain⟨TB,bM⟩:=eX (Ps.sP (Sc.fP b) l);rw[bM]at ah htold aa;rw[ah];obtain⟨Q,hQ⟩:=eX (zY (l,(Ps.read l depth).t,Ps.lF ((Ps.read l depth).d++TB)) w);have HQ:=eu (λe w' (h:zY (l,(Ps.read l depth).t,Ps.lF ((Ps.read l depth).d++TB)) w e w')=>show Q e w' from hQ▸h);rw[hQ];have hll:l.length<=16384:=by omega
 have hrl:=ze l;have bN:=eu htk;have bO:=eu (λv W (hR:Reads iZ W v l)=>Q5 v l 0 W hR (by omega) (λx hx=>by have:=(hbd x hx).1;omega) hti)
 have dL:=eu (fun(tv rv:Value) W (h1:ou W bv b)(h2:Reads iZ W tv l)(h3:Reads encR W rv (Rw.fE l))=>show Calls prog 28 #[bv,tv,rv] W (λen w'=>∃v,en=.returned v/\TD W w' v TB)from by
  have:=Rb W bv tv rv b l (Rw.fE l) h1 h2 h3 (by omega) (by omega) (by omega) bf (λr hr=>⟨(Ps.rows_ok l r hr).lt,(Ps.rows_ok l r hr).le⟩);rw[<-htold]at this
  exact this)
 have bP:=eu (λw0 W c e p sv R (r:Rw.R)(i:Nat)(h:PG w0 W c e p sv R)(hcl:c.l=l)(hrs:c.rs=Rw.fE l)(hcd:c.depth=depth)(hi:i<=16384)(hL:RL l depth i p)(hr:(Rw.fE l)[i]?=some r)(hp:p.read<=r.from')=>show Calls prog 26 #[RG c.pb,.agg #[.int .i64 r.kind,.int .i64 r.from',.int .i64 r.au,.int .i64 r.fo]] W (iJ w0 W c (.tuple #[]) (Ps.row l (Rw.fE l) depth p r))from by
  have k1:=hL.sz;have k2:=hL.rd;have k3:=hL.dd;have k4:i*(l.length+2)<=16384*16386:=H9 hi (by omega);have:=Ry w0 W c e p sv R r (0,(Ps.start l).s) h (by rw[hcl];exact hrs) (by rw[hcl];exact hti) (by rw[hcl];exact λx hx=>by have:=(hbd x hx).1;omega) (by rw[hcl];exact hL.inv) (by rw[hcl];exact Ps.rows_ok l r (nQ hr)) (gG _) hp (by omega) (by omega) (by rw[hcd];exact hL.st) (by omega) (by omega);rw[hcl,hrs,hcd]at this
  exact this)
 have dM:=eu hti;have bQ:=eu (λW (hW:Below w.heap.size w W)=>hb.below hW);have bg:=eu aa;obtain⟨NL,bn⟩:=eX (l.length);obtain⟨NR,bq⟩:=eX ((Rw.fE l).length);obtain⟨ax,az⟩:=fD bn bq;rw[bn]at hll hrl;rw[bq]at hrl;obtain⟨B0,hB0⟩:=eX (w.heap.size);have HB0:=eu hB0;obtain⟨wa,aA⟩:=eX (w.alloc (.cells #[.slice none 0 0] 31));have bR:Below w.heap.size w wa:=aA▸eZ w _;have hK:Lj wa B0 0 (.slice none 0 0):=by rw[<-aA,<-hB0];exact pP rfl
 have hsa:wa.heap.size=B0+1:=by rw[<-aA,<-hB0];simp
 obtain⟨bS,HK,aL,bz⟩:=jk aA hK bR hsa;clear hnl htl hti hbd bf ah htold htk aa hl bM hQ bn bq hB0 aA bR hK hsa hb
 go_enter func7,ntmps7
 go_upto_region 1 with fail
 rw[bS.out,HB0.out];clear bS;have g1:¬((depth:Int)<1):=by omega
 have g2:¬((depth:Int)>50):=by omega
 go_wp2_with fail
 refine(bN.out wa (bQ.out wa aL.out)).mono ?_;rintro e1 wb ⟨tv,rfl,bA,hb1⟩;obtain⟨aM,HB1⟩:=fD bA hb1;obtain⟨ta,tc,bT⟩:=(Reads.fJ (E:=iZ) bA).shape;rw[ax.out]at bT;subst bT;clear bA hb1 bN;go_wp2_with fail
 refine(bO.out _ wb (Reads.fJ (E:=iZ) aM.out)).mono ?_;rintro e2 w0 ⟨rv,rfl,hO2,hb2⟩;obtain⟨ra,rc,bU⟩:=(Reads.fJ (E:=encR) hO2).shape;rw[az.out]at bU;obtain⟨bB,HB2⟩:=fD hO2 hb2;subst bU;clear hO2 hb2 bO;go_wp2_with fail
 refine(Ro (NL:Int) w0).mono ?_;rintro e3 w1 ⟨u,rfl,hn1,hot,hb3⟩;obtain⟨L,hL,bC⟩:=hot rfl;have aQ:mU (NL:Int)=[⟨1,0,NL,-1,[],false⟩]:=by unfold mU;rw[eQ (by omega)]
 obtain⟨ua,uc,rfl⟩:=hn1.shape;have aR:(mU (NL:Int)).length=1:=by rw[aQ];rfl
 rw[aR]at hn1 bC⊢;obtain⟨rb,hrb⟩:=eX (w1.heap.size);obtain⟨w2,hw2⟩:=eX (w1.alloc (.cells #[.slice ta NL tc,.slice ua 1 uc,.slice none 0 0,.int .i64 (NL:Int)] 62));have aS:Below w1.heap.size w1 w2:=hw2▸eZ w1 _;have hB2:w2.heap[rb]?=some (.cells #[.slice ta NL tc,.slice ua 1 uc,.slice none 0 0,.int .i64 (NL:Int)] 62 (0,0)):=by rw[<-hw2,<-hrb];exact qj _ _
 have hs2:w2.heap.size=rb+1:=by rw[<-hw2,<-hrb];simp
 obtain⟨w3,hw3⟩:=eX (w2.alloc (.cells #[RG rb,.slice ra NR rc,.int .i64 (-1),.bool false,.slice none 0 0,.int .i64 (depth:Int),.int .i64 0] 65));have aB:Below w2.heap.size w2 w3:=hw3▸eZ w2 _;obtain⟨pb,hpb⟩:=eX (w2.heap.size);have hB3:w3.heap[pb]?=some (.cells #[RG rb,.slice ra NR rc,.int .i64 (-1),.bool false,.slice none 0 0,.int .i64 (depth:Int),.int .i64 0] 65 (0,0)):=by rw[<-hw3,<-hpb];exact qj _ _
 have aC:Below w1.heap.size w1 w3:=eU aS aB;have aT:Below w0.heap.size w0 w3:=eU hb3 aC;obtain⟨c,hc⟩:∃c:Cx,(⟨pb,rb,.slice ta NL tc,.slice ra NR rc,l,Rw.fE l,depth⟩:Cx)=c:=⟨_,rfl⟩
 have aU:w0.heap.size<=rb:=by rw[<-hrb];exact hb3.size
 have hR0:Reads iZ w0 (.slice ta NL tc) l:=(Reads.fJ (E:=iZ) aM.out).below HB2.out;have bV:GM w0 w3 rb (.slice ta NL tc) (.slice ua 1 uc) (.slice none 0 0) NL l L []:=
  ⟨aT,hR0,by rw[ax.out];omega,by rw[ax.out];exact fC _,aU,(aB.block rb (kg hB2)).trans hB2,bC.below aC,jq gD _ _⟩
 have bW:PG w0 w3 c NL (Ps.start l) (.slice none 0 0) (DR (.slice none 0 0)):=by
  rw[<-hc];refine⟨⟨_,_,L,bV,?_,rfl⟩,hB3,?_,Reads.fJ (E:=encR) bB.out,by show(Rw.fE l).length<=_;rw[az.out];omega,jq iA _ _⟩
  ·show L.map Ln.nd=mU (l.length:Int);rw[ax.out];exact hL
  show w0.heap.size<=pb;rw[<-hpb,hs2];omega
 have hpc:c.pb=pb:=by rw[<-hc]
 have hrc:c.rb=rb:=by rw[<-hc]
 have hlc:c.l=l:=by rw[<-hc]
 have aV:c.rs=Rw.fE l:=by rw[<-hc]
 have bX:c.depth=depth:=by rw[<-hc]
 have bY:c.tv=.slice ta NL tc:=by rw[<-hc]
 obtain⟨dN,aN,aD,dO,dP,dQ⟩:=j6 bW hpc hrc hlc aV bX;obtain⟨HW2,HW3,dR⟩:=gW hw2 hw3 hrb;have dS:=eu (show rb+1=pb by rw[<-hpb,hs2]);have HB3:=eu hb3;have eB:=eu (show w0.heap.size<=pb by rw[<-hpb,hs2];omega);have aW:=Reads.fJ (E:=encR) bB.out
 have bZ:=eu (λW (hW:Below w0.heap.size w0 W) j (x:Rw.R)(hj:(Rw.fE l)[j]?=some x)=>show∃b off,ra=some ⟨b,off,none⟩/\W.cell? ⟨b,off+j*4,none⟩=some (.int .i64 x.kind)/\W.cell? ⟨b,off+j*4+1,none⟩=some (.int .i64 x.from')/\W.cell? ⟨b,off+j*4+2,none⟩=some (.int .i64 x.au)/\W.cell? ⟨b,off+j*4+3,none⟩=some (.int .i64 x.fo)from
  og (by rw[az.out];exact aW.below hW) j x hj)
 clear hc bW bV hB2 hB3 aS aB aC aT hw2 hw3 hrb hpb hs2 hL bC hn1 aR aQ hb3 aU hR0 hpc hrc hlc aV bX aW g1 g2 hot bY;go_upto_region 6 with fail
 rw[dR.out,HW2.out,dS.out,HW3.out];clear HW2 HW3;go_wp2_with fail
 go_loopw [10] (λiv wr=>∃(i:Nat)(p:Ps.PS)(e:Nat)(sv:Value)(R:Nat->Prop),iv=.int .i64 i/\i<=NR/\Hid (RL l depth i p)/\Hid (PG w0 wr c e p sv R)) (λiv _=>NR-(intOf iv).toNat)
 case atStart=>exact⟨0,_,_,_,_,rfl,gG _,eu (RL.start (by rw[ax.out];omega)),dN⟩
 case round=>
  obtain⟨i,p,e,sv,R,rfl,hi,af,HP⟩:=hrel;by_cases hlt:i<NR
  ·obtain⟨r,hr⟩:=iT (Rw.fE l) i (by rw[az.out];omega);obtain⟨eD,ro,rfl,c0,c1,c2,c3⟩:=bZ.out wr HP.out.kE i r hr;have gi:(i:Int)<(NR:Int):=by omega
   have k6:wr.cell? ⟨pb,6,none⟩=some (.int .i64 (p.read:Int)):=by rw[<-aN.out];exact HP.out.cell 6 _ rfl
   obtain⟨RD,ay⟩:=eX (p.read);rw[ay]at k6;by_cases hp:RD<=r.from'
   ·have HC:=eu (λW (hP:PG w0 W c e p sv R)=>show Calls prog 26 #[RG pb,.agg #[.int .i64 r.kind,.int .i64 r.from',.int .i64 r.au,.int .i64 r.fo]] W (iJ w0 W c (.tuple #[]) (Ps.row l (Rw.fE l) depth p r))from by
     rw[<-aN.out];exact bP.out w0 W c e p sv R r i hP dO.out dP.out dQ.out (by omega) af.out hr (by rw[ay];exact hp))
    have HR2:=eu (af.out.step dM.out hr (by rw[ay];exact hp));have gr:decide ((r.from':Int)>=(RD:Int))=true:=iO (by omega);have cr:(RD:Int)<=(r.from':Int):=by omega
    have cz:RD<=r.from':=hp;have cB:=eu hr;clear hr ay af hp;go_wp2_with fail
    go_big_quiet (fail)
    obtain⟨w4,hw4⟩:=eX (wr.drewN nq);have hb4:Below wr.heap.size wr w4:=hw4▸gB (fu _ wr) nq;rw[hw4];have aF:=eu (HP.out.below hb4);clear hw4 hb4 c0 c1 c2 c3 k6;obtain⟨b9,o9,e9,c0,c1,c2,c3⟩:=bZ.out w4 aF.out.kE i r cB.out;injection e9 with e9
    injection e9 with dU Rn
    subst dU Rn;go_wp2_with fail
    refine(HC.out w4 aF.out).mono ?_;rintro e5 w5 ⟨rfl,e6,s6,R6,cK,dV⟩;have bD:=eu cK;clear cK dV c0 c1 c2 c3 gr cr cz HC aF cB;go_wp2_with fail
    go_roundw
    case rel=>exact⟨i+1,_,_,_,_,by go_num,by omega,HR2,bD⟩
    case measure=>simp[intOf];omega
   have HR2:=eu (af.out.skip hr (by rw[ay];exact hp));have gr:decide ((r.from':Int)>=(RD:Int))=false:=iF (by omega);have cr:¬(RD:Int)<=(r.from':Int):=by omega
   have cz:¬RD<=r.from':=hp;clear hr ay af hp c0 c2 c3;go_wp2_with fail
   go_big_quiet (fail)
   obtain⟨w4,hw4⟩:=eX (wr.drewN nq);have hb4:Below wr.heap.size wr w4:=hw4▸gB (fu _ wr) nq;rw[hw4];have aF:=eu (HP.out.below hb4);clear hw4 hb4 c1 k6;go_wp2_with fail
   go_roundw
   case rel=>exact⟨i+1,_,_,_,_,by go_num,by omega,HR2,aF⟩
   case measure=>simp[intOf];omega
  obtain rfl:i=NR:=by omega
  have hdone:=RL.done (by rw[az.out];exact af.out);have hsz:=af.out.sz;have hrd:=af.out.rd;have hdd:=af.out.dd;have av:p.s.d.length<=300000000:=by
   have k4:i*(l.length+2)<=16384*16386:=H9 (by omega) (by rw[ax.out];omega);omega
  obtain⟨nv,dv,L2,hM,hL2,-⟩:=HP.out.gs;have hL3:L2.map Ln.nd=(Ps.read l depth).t:=by rw[hdone];exact hL2
  have bE:(Ps.read l depth).d=p.s.d:=by rw[hdone]
  obtain⟨D,hD⟩:=eX (p.s.d);rw[hD]at hM bE av;have aj:=hM.below (fu _ wr).drew;obtain⟨da,dc,hdv⟩:=(Reads.fJ (E:=gD) aj.told).shape;obtain⟨na,nc,cO⟩:=(aj.nodes.nodes).shape;obtain⟨DN,bF⟩:=eX (D.length);obtain⟨NN,cZ⟩:=eX ((L2.map Ln.nd).length);rw[bF]at hdv;rw[cZ]at cO;subst hdv cO;have k0:wr.drew.cell? ⟨pb,0,none⟩=some (RG rb):=by rw[<-aN.out,<-aD.out];exact(HP.out.below (fu _ wr).drew).cell 0 _ rfl
  have kn:wr.drew.cell? ⟨rb,1,none⟩=some (.slice na NN nc):=by rw[<-aD.out];exact aj.cell 1 _ rfl
  have kd:wr.drew.cell? ⟨rb,2,none⟩=some (.slice da DN dc):=by rw[<-aD.out];exact aj.cell 2 _ rfl
  have df:=HP.out.below (fu _ wr).drew;have ai:Below w0.heap.size w0 wr.drew:=aj.kE;have hwd:Below w.heap.size w wr.drew:=eU (eU (eU aL.out HB1.out) HB2.out) ai;have HC:=eu (dL.out (.slice ta NL tc) (.slice ra i rc) wr.drew (bQ.out _ hwd) ((Reads.fJ (E:=iZ) aM.out).below (eU HB2.out ai)) ((Reads.fJ (E:=encR) bB.out).below ai));obtain⟨HM,dW,dX,eF,dh,di⟩:=j6 aj hL3 bE bF hwd ai;have aG:=df.box;rw[aN.out]at aG;have bG:=eu aG;clear hdone hsz hrd hdd hM hL2 hL3 bE hD aj bF cZ df ai hwd aG af HP hlt;go_wp2_with fail
  go_upto_region 11 with fail
  refine fB (λwx=>wx.cell? ⟨pb,0,none⟩=some (RG rb)/\wx.cell? ⟨rb,1,none⟩=some (.slice na NN nc)/\wx.cell? ⟨rb,2,none⟩=some (.slice da DN dc)) 22 (by kernel_rfl) ?_;have hH:(λwx:World=>wx.cell? ⟨pb,0,none⟩=some (RG rb)/\wx.cell? ⟨rb,1,none⟩=some (.slice na NN nc)/\wx.cell? ⟨rb,2,none⟩=some (.slice da DN dc)) wr.drew:=⟨k0,kn,kd⟩
  refine fw 0 (.slice ta NL tc) rfl (by kernel_rfl) rfl eY (λW hW=>by go_simp) hH ?_;refine fw 1 (.pointer (some ⟨pb,0,none⟩)) rfl (by kernel_rfl) rfl eY (λW hW=>by go_simp) hH ?_;refine fw 2 (.pointer (some ⟨pb,0,none⟩)) rfl (by kernel_rfl) rfl eY (λW hW=>by go_simp) hH ?_;refine fw 3 (.pointer (some ⟨pb,0,none⟩)) rfl (by kernel_rfl) rfl eY (λW hW=>by go_simp) hH ?_;refine fw 4 (RG rb) rfl (by kernel_rfl) rfl eY (λW hW=>?_) hH ?_
  ·obtain⟨z0,z1,z2⟩:=hW;go_simp
  refine fw 5 (.pointer (some ⟨rb,0,none⟩)) rfl (by kernel_rfl) rfl eY (λW hW=>by go_simp) hH ?_;refine fw 6 (.pointer (some ⟨rb,1,none⟩)) rfl (by kernel_rfl) rfl eY (λW hW=>by go_simp) hH ?_;refine fw 7 (.agg #[.slice na NN nc]) rfl (by kernel_rfl) rfl eY (λW hW=>?_) hH ?_
  ·obtain⟨z0,z1,z2⟩:=hW;go_simp
  refine fM 8 (.pointer (some ⟨pb,0,none⟩)) rfl (by kernel_rfl) rfl eY (λW=>by go_simp) (λ_=>hH) ?_;refine fM 9 (.pointer (some ⟨pb,0,none⟩)) rfl (by kernel_rfl) rfl eY (λW=>by go_simp) (λ_=>hH) ?_;refine fM 10 (.pointer (some ⟨pb,0,none⟩)) rfl (by kernel_rfl) rfl eY (λW=>by go_simp) (λ_=>hH) ?_;refine fV [22,21,20,19,14,13,12] (i:=11) (oi:=⟨_,_,_,_,_,_⟩) (v:=RG rb) rfl (by kernel_rfl) (by kernel_rfl) (by kernel_rfl) (by kernel_rfl) (by kernel_rfl) eY (Or.inl ⟨rfl,λW hW=>?_⟩) hH ?_
  ·refine fZ.of_run ?_;obtain⟨z0,z1,z2⟩:=hW;go_simp
  try simp only[Act.put,fF,fH,fG]
  refine fM 12 (.pointer (some ⟨rb,0,none⟩)) rfl (by kernel_rfl) rfl eY (λW=>by go_simp) (λ_=>hH) ?_;refine fM 13 (.pointer (some ⟨rb,2,none⟩)) rfl (by kernel_rfl) rfl eY (λW=>by go_simp) (λ_=>hH) ?_;refine fV [22,21,20,19] (i:=14) (oi:=⟨_,_,_,_,_,_⟩) (v:=.slice da DN dc) rfl (by kernel_rfl) (by kernel_rfl) (by kernel_rfl) (by kernel_rfl) (by kernel_rfl) eY (Or.inl ⟨rfl,λW hW=>?_⟩) hH ?_
  ·refine fZ.of_run ?_;obtain⟨z0,z1,z2⟩:=hW;go_simp
  try simp only[Act.put,fF,fH,fG]
  refine fM 15 bv rfl (by kernel_rfl) rfl eY (λW=>by go_simp) (λ_=>hH) ?_;refine fM 16 (.slice ta NL tc) rfl (by kernel_rfl) rfl eY (λW=>by go_simp) (λ_=>hH) ?_;refine fM 17 (.slice ra i rc) rfl (by kernel_rfl) rfl eY (λW=>by go_simp) (λ_=>hH) ?_;refine iD 18 (by kernel_rfl) rfl λK hK=>?_
  go_simp;refine HC.out.mono ?_;rintro e5 w5 ⟨v5,rfl,ag⟩;have aO:=HM.out.below (ag.2);obtain⟨a5,c5,rfl⟩:=ag.shape;have dY:=eu ag;have dm:w5.cell? ⟨pb,0,none⟩=some (RG rb):=fe ag.2 k0;have dn:w5.cell? ⟨rb,1,none⟩=some (.slice na NN nc):=fe ag.2 kn;have dw:w5.cell? ⟨rb,2,none⟩=some (.slice da DN dc):=fe ag.2 kd;have ae:=eu aO;have aX:=(ag.2.block pb (kg bG.out)).trans bG.out;obtain⟨aY,eG⟩:=fD aX (eU dh.out ag.2);have dx:=eu (show Reads gD w5 (.slice a5 TB.length c5) TB from Reads.fJ (E:=gD) ag.1);have bH:=eu (show w5.ownsRow w0.heap.size 89 gD.k (.slice da DN dc) D.length (gD.all D)from aO.told);have dA:=eu (show D.length+TB.length<=maxLen by have h9:=bg.out;have h7:=av;simp only[maxLen];omega);have dB:=eu (show(D.length+TB.length)*24<=140737488355328 by have h9:=bg.out;have h7:=av;omega);have hws:w0.heap.size<=w5.heap.size:=aO.kE.size;clear ag aO aX k0 kn kd HC HM bG dh di;refine hK.out _ _ (λ_=>⟨dm,dn,dw⟩) (λhH2=>?_);clear hK K;replace hH:=hH2 (by kernel_rfl);clear hH2;try simp only[Act.put,fF,fH,fG]
  refine iD 19 (by kernel_rfl) rfl λK hK=>?_
  refine qp Ll rfl (.tmp 70) (.tmp 74) rfl w0.heap.size (.slice da DN dc) D rfl bH.out (.slice a5 TB.length c5) TB rfl dx.out dA.out dB.out hws ?_;intro v6 w6 hown6 aP;have hoff:∀(k:Nat)(C:Array Value)(T:TypeId)(fr:Nat×Nat),w5.heap[k]?=some (Obj.cells C T fr)->89≠T->w6.heap[k]?=some (Obj.cells C T fr):=λk C T fr hk hT=>(aP.block k (kg hk) (λe'=>fK bH.out hk hT e'.symm)).trans hk
  have bI:=hoff pb _ _ _ aY.out (by decide);have aH:=hoff c.rb _ _ _ ae.out.box (by decide);rw[aD.out]at aH;have bJ:w6.cell? ⟨pb,0,none⟩=some (RG rb):=by rw[<-aD.out];exact(gQ bI 0).trans rfl
  have bK:w6.cell? ⟨rb,1,none⟩=some (.slice na NN nc):=(gQ aH 1).trans rfl;have bL:w6.cell? ⟨rb,2,none⟩=some (.slice da DN dc):=(gQ aH 2).trans rfl
  have dC:OT w6 w0.heap.size (.slice na NN nc) L2:=ae.out.nodes.same (λg hgg=>aP.block g (ae.out.rows (.inr (.inr hgg))).2 (λe'=>by
   rcases hgg with hgg|⟨q,hq,hgg⟩
   ·exact gU ae.out.nodes.row ae.out.told (by decide) g hgg e'.symm
   obtain⟨j,hj⟩:=rT hq
   exact gU (ae.out.nodes.kids j q hj) ae.out.told (by decide) g hgg e'.symm))
  have aZ:Below w0.heap.size w0 w6:=ae.out.kE.grown aP ae.out.kE.size (λq hq=>(ae.out.told.lt q hq).1);have aI:=Reads.fJ (E:=gD) hown6;have aI:=Reads.fJ (E:=gD) hown6;obtain⟨dD,aJ,dE,bD,dZ⟩:=xZ dC aZ aI bI aH;clear hown6 aP hoff bI aH dC aZ aI dm dn dw bH dx dA dB hws aY ae dY;refine hK.out _ _ (λ_=>⟨bJ,bK,bL⟩) (λhH2=>?_);clear hK K;replace hH:=hH2 (by kernel_rfl);clear hH2;try simp only[Act.put,fF,fH,fG]
  refine iD 20 (by kernel_rfl) rfl λK hK=>?_
  go_simp;refine(KZ v6 (D++TB) w6 dE.out (by have h9:=bg.out;rw[ig];have h8:=av;omega)).mono ?_;rintro e7 w7 ⟨vs,rfl,dF,ak⟩;have dG:w7.cell? ⟨pb,0,none⟩=some (RG rb):=fe ak bJ;have dH:w7.cell? ⟨rb,1,none⟩=some (.slice na NN nc):=fe ak bK;have kd':w7.cell? ⟨rb,2,none⟩=some (.slice da DN dc):=fe ak bL;have aK:Below wa.heap.size wa w7:=eU (eU (eU HB1.out HB2.out) aJ.out) ak;obtain⟨c8,f8⟩:=oN aK HK.out;have hz0:B0<w0.heap.size:=by have h5:=bz.out;have h6:=HB1.out.size;have h7:=HB2.out.size;omega
  have c9:(w7.setCell ⟨B0,0,none⟩ (.slice na NN nc)).cell? ⟨B0,0,none⟩=some (.slice na NN nc):=jO _ _ _ (by rw[c8];rfl);have dI:B0<w6.heap.size:=LV hz0 aJ.out.size
  have hzb:B0<wb.heap.size:=by have h5:=bz.out;have h6:=HB1.out.size;omega
  have hza:B0<wa.heap.size:=by have h5:=bz.out;omega
  have dJ:w.heap.size<=B0:=by rw[HB0.out];exact fC _
  have dK:w.heap.size<=wa.heap.size:=aL.out.size;have HD:=eu (HQ.out (.returned (.tuple #[.slice ta NL tc,.agg #[.slice na NN nc],vs])) (w7.setCell ⟨B0,0,none⟩ (.slice na NN nc)) ⟨_,_,_,L2,rfl,iK (vN (fI aM.out (eU (eU HB2.out aJ.out) ak)) hza) dK,((dD.out.below ak).low hz0).base' (by have h6:=HB1.out.size;have h7:=HB2.out.size;omega),dW.out,by rw[dX.out];exact iK (vN dF dI) (by have h6:=HB1.out.size;have h7:=HB2.out.size;have h8:=aJ.out.size;omega),(eU aL.out aK).setCell (p:=⟨B0,0,none⟩) dJ _⟩);clear dF ak aK hz0 dI hzb hza bJ bK bL dD aJ dE bD dZ;refine hK.out _ _ (λ_=>⟨dG,dH,kd'⟩) (λhH2=>?_);clear hK K;replace hH:=hH2 (by kernel_rfl);clear hH2;try simp only[Act.put,fF,fH,fG]
  refine fw 21 (.slice ta NL tc) rfl (by kernel_rfl) rfl eY (λW hW=>by go_simp) hH ?_;refine iD 22 (by kernel_rfl) rfl λK hK=>?_
  go_simp;refine hK.out _ _ (jg (by kernel_rfl)) (λ_=>?_);clear hK K;try simp only[Act.put,fF,fH,fG]
  refine fM 23 vs rfl (by kernel_rfl) rfl eY (λW=>by go_simp) (jg (by kernel_rfl)) ?_;rename_i ed;clear ed hH;refine fA (by kernel_rfl) ?_ _;clear dG dH kd';go_wp2_with fail
  refine o8 (v:=.tuple #[.slice ta NL tc,.agg #[.slice na NN nc],vs]) ?_ rfl HD.out;simp[results,results7,go_sem,c9]
end
section
open Go.RowKit
open Sq
open Ar
open Fl (Tk)
namespace Wk
def pE(l:List Tk)(f:Nat):Nat:=if f<l.length then Fl.pF l f else if 0<f then Fl.too l (f-1)else 0
def nV(l:List Tk)(f t:Nat):Nat×Nat:=if f<t then(Fl.pF l f,Fl.too l (t-1))else(pE l f,pE l f)
end Wk
theorem sD{l:List Tk}{i:Nat}{x:Tk}(h:l[i]?=some x):Fl.pF l i=x.2.1:=by unfold Fl.pF;rw[h]
theorem oC{l:List Tk}{i:Nat}{x:Tk}(h:l[i]?=some x):Fl.too l i=x.2.2:=by unfold Fl.too;rw[h]
theorem P4(w:World)(tv:Value)(l:List Tk)(f:Nat)(hR:Reads iZ w tv l)(hl:l.length<=100000)(hf:f<=l.length):
 Calls prog 31 #[tv,.int .i64 f] w λe w'=>e=.returned (.int .i64 (Wk.pE l f:Nat))/\w=w':=by
 obtain⟨ta,tc,rfl⟩:=hR.shape;have HX:=eu (λj x hj=>iG hR j x hj);obtain⟨V,hV⟩:=eX (Wk.pE l f);rw[hV];have HV:=eu hV;obtain⟨NL,ae⟩:=eX (l.length);have aa:=eu ae;rw[ae]at hl hf⊢;clear hV ae hR;by_cases h1:f<NL
 ·obtain⟨x,hx⟩:=iT l f (by rw[aa.out];omega);obtain⟨b,o,rfl,c0,c1,c2⟩:=HX.out f x hx;have hv:x.2.1=V:=by rw[<-HV.out];unfold Wk.pE;rw[eT (by rw[aa.out];exact h1),sD hx]
  rw[hv]at c1;have g1:(f:Int)<(NL:Int):=by omega
  clear HX hx hv HV c0 c2
  go_enter func31,ntmps31
  go_wp2_with fail
  go_ret;exact⟨rfl,rfl⟩
 have g1:¬(f:Int)<(NL:Int):=by omega
 by_cases h2:0<f
 ·obtain⟨j,rfl⟩:∃j,f=j+1:=⟨f-1,by omega⟩
  obtain⟨x,hx⟩:=iT l j (by rw[aa.out];omega);obtain⟨b,o,rfl,c0,c1,c2⟩:=HX.out j x hx;have hv:x.2.2=V:=by rw[<-HV.out];unfold Wk.pE;rw[eQ (by rw[aa.out];exact h1),eT h2,lJ,oC hx]
  rw[hv]at c2;have gj:(j:Int)<(NL:Int):=by omega
  have gw:IntKind.i64.wrap (((j+1:Nat):Int)-1)=(j:Int):=by
   rw[show((j+1:Nat):Int)-1=(j:Int)by omega];exact jC _ (by omega)
  clear HX hx hv HV c0 c1
  go_enter func31,ntmps31
  go_wp2_with fail
  go_ret;exact⟨rfl,rfl⟩
 obtain rfl:f=0:=by omega
 have hv:(0:Nat)=V:=by rw[<-HV.out];unfold Wk.pE;rw[eQ (by rw[aa.out];exact h1),eQ h2]
 subst hv;have hn:NL=0:=by omega
 subst hn;clear HX HV g1
 go_enter func31,ntmps31
 go_wp2_with fail
 go_ret;exact⟨rfl,rfl⟩
theorem Rz(w:World)(a:Option Addr)(n c:Nat)(k:Int)(hn:n<=1000000)(hk:0<=k):
 Calls prog 54 #[.agg #[.slice a n c],.int .i64 k] w λe w'=>e=.returned (.bool (decide (k<n)))/\Below w.heap.size w w':=by
 have HB:=eu (eZ w (.cells #[.slice a n c] 36));by_cases h:k<n
 ·rw[iO h]
  go_enter func54,ntmps54
  go_wp2_with fail
  go_ret;exact⟨rfl,HB.out⟩
 rw[iF h]
 go_enter func54,ntmps54
 go_wp2_with fail
 go_ret;exact⟨rfl,HB.out⟩
theorem P5(w:World)(tv kv:Value)(l:List Tk)(k u:Int)(f t:Nat)(y:Bool)(hR:Reads iZ w tv l)(hl:l.length<=100000)(hft:f<=t)(htl:t<=l.length):
 Calls prog 15 #[tv,.agg #[.int .i64 k,.int .i64 f,.int .i64 t,.int .i64 u,kv,.bool y]] w λe w'=>e=.returned (.agg #[.int .i64 ((Wk.nV l f t).1:Nat),.int .i64 ((Wk.nV l f t).2:Nat)])/\Below w.heap.size w w':=by
 obtain⟨ta,tc,rfl⟩:=hR.shape;have HX:=eu (λW (hW:Below w.heap.size w W) j x hj=>iG (hR.below hW) j x hj);obtain⟨NL,aa⟩:=eX (l.length);have ae:=eu aa;rw[aa]at hl htl⊢;have ai:=λW (hW:Below w.heap.size w W)=>hR.below hW
 rw[aa]at ai;clear aa hR;have g1:¬((f:Int)<0):=by omega
 have g2:¬((f:Int)>(t:Int)):=by omega
 have g3:¬((t:Int)>(NL:Int)):=by omega
 have g22:¬(t<f):=by omega
 have ak:¬(NL<t):=by omega
 obtain⟨w1,hw1⟩:=eX (w.alloc (.cells #[.int .i64 k,.int .i64 f,.int .i64 t,.int .i64 u,kv,.bool y] 47));obtain⟨w2,hw2⟩:=eX (w1.alloc (.cells #[.int .i64 0,.int .i64 0] 44));have hb1:Below w.heap.size w w1:=hw1▸eZ w _;have hb2:Below w1.heap.size w1 w2:=hw2▸eZ w1 _;have hb:Below w.heap.size w w2:=eU hb1 hb2;have hs1:w1.heap.size=w.heap.size+1:=by rw[<-hw1];simp
 have x1:w2.cell? ⟨w.heap.size,1,none⟩=some (.int .i64 f):=by rw[<-hw2];refine gX ?_;rw[<-hw1];exact at_new rfl
 have x2:w2.cell? ⟨w.heap.size,2,none⟩=some (.int .i64 t):=by rw[<-hw2];refine gX ?_;rw[<-hw1];exact at_new rfl
 obtain⟨bs,hbs⟩:=eX (w1.heap.size);have s0:w2.cell? ⟨bs,0,none⟩=some (.int .i64 0):=by rw[<-hw2,<-hbs];exact at_new rfl
 have s1:w2.cell? ⟨bs,1,none⟩=some (.int .i64 0):=by rw[<-hw2,<-hbs];exact at_new rfl
 have f0:w2.frozen? ⟨bs,0,none⟩=false:=by rw[<-hw2,<-hbs];exact(pP rfl).2
 have f1:w2.frozen? ⟨bs,1,none⟩=false:=by rw[<-hw2,<-hbs];exact(pP rfl).2
 have hblk:w2.heap[bs]?=some (.cells #[.int .i64 0,.int .i64 0] 44 (0,0)):=by rw[<-hw2,<-hbs];exact qj _ _
 have af:w.heap.size<=bs:=by omega
 have HS:=eu (fun(A B:Value)=>show((w2.setCell ⟨bs,0,none⟩ A).setCell ⟨bs,1,none⟩ B).cell? ⟨bs,0,none⟩=some A/\((w2.setCell ⟨bs,0,none⟩ A).setCell ⟨bs,1,none⟩ B).cell? ⟨bs,1,none⟩=some B/\Below w.heap.size w ((w2.setCell ⟨bs,0,none⟩ A).setCell ⟨bs,1,none⟩ B)from by
  have h0:(w2.setCell ⟨bs,0,none⟩ A).heap[bs]?=some (.cells ((#[.int .i64 0,.int .i64 0]:Array Value).setIfInBounds 0 A) 44 (0,0)):=mr hblk A;have h1:((w2.setCell ⟨bs,0,none⟩ A).setCell ⟨bs,1,none⟩ B).heap[bs]?=some (.cells (((#[.int .i64 0,.int .i64 0]:Array Value).setIfInBounds 0 A).setIfInBounds 1 B) 44 (0,0)):=mr h0 B
  exact⟨(gQ h1 0).trans rfl,(gQ h1 1).trans rfl,(hb.setCell (p:=⟨bs,0,none⟩) af A).setCell (p:=⟨bs,1,none⟩) af B⟩)
 obtain⟨HW1,HW2,av⟩:=gW hw1 hw2 hbs;clear hblk;have ag:=eu (show w.heap.size+1=bs by omega);have HB:=eu hb;clear hw1 hw2 hbs hb1 hb2 hs1;by_cases h1:f<t
 ·obtain⟨j,hj⟩:=eX (t-1);obtain⟨x,hx⟩:=iT l f (by rw[ae.out];omega);obtain⟨z,hz⟩:=iT l j (by rw[ae.out];omega);obtain⟨b,o,rfl,-,c1,-⟩:=HX.out w2 hb f x hx;obtain⟨b',o',e',-,-,c2⟩:=HX.out w2 hb j z hz;injection e' with e'
  injection e' with e1 e2
  subst e1 e2;have gf:(f:Int)<(NL:Int):=by omega
  have gj:(j:Int)<(NL:Int):=by omega
  have aj:(f:Int)<(t:Int):=by omega
  have gw:IntKind.i64.wrap ((t:Int)-1)=(j:Int):=by
   rw[show(t:Int)-1=(j:Int)by omega];exact jC _ (by omega)
  have hsp:Wk.nV l f t=(x.2.1,z.2.2):=by unfold Wk.nV;rw[eT h1,sD hx,hj,oC hz]
  rw[hsp];clear hb hj hx hz hsp
  go_enter func15,ntmps15
  go_upto_region 1 with fail
  rw[HW1.out,ag.out,HW2.out];go_upto_region 4 with fail
  go_region
  obtain⟨r0,r1,rb⟩:=HS.out (.int .i64 x.2.1) (.int .i64 z.2.2);have ah:=eu rb;clear rb;go_wp2_with fail
  refine o8 (v:=.agg #[.int .i64 x.2.1,.int .i64 z.2.2]) ?_ rfl ⟨rfl,ah.out.drew⟩;simp[results,results15,go_sem,r0,r1]
 have aj:¬(f:Int)<(t:Int):=by omega
 have hsp:Wk.nV l f t=(Wk.pE l f,Wk.pE l f):=by unfold Wk.nV;rw[eQ h1]
 rw[hsp];obtain⟨V,hV⟩:=eX (Wk.pE l f);have hbg:=P4 w2 (.slice ta NL tc) l f (ai w2 hb) (by rw[ae.out];exact hl) (by rw[ae.out];omega);rw[hV]at hbg⊢;have HG:=eu hbg;clear hb hsp hbg hV
 go_enter func15,ntmps15
 go_upto_region 1 with fail
 rw[HW1.out,ag.out,HW2.out];go_wp2_with fail
 refine HG.out.mono ?_;rintro e w3 ⟨rfl,rfl⟩;obtain⟨r0,r1,rb⟩:=HS.out (.int .i64 (V:Nat)) (.int .i64 (V:Nat));have ah:=eu rb;clear rb HG;go_wp2_with fail
 refine o8 (v:=.agg #[.int .i64 (V:Nat),.int .i64 (V:Nat)]) ?_ rfl ⟨rfl,ah.out⟩;simp[results,results15,go_sem,r0,r1]
end
end Go.Proofs.YtfbiffdmhcjhbaaGreat

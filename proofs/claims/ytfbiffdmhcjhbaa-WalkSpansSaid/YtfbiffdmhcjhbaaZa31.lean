import Derived.Test.YtfbiffdmhcjhbaaZa30
set_option linter.all false
set_option maxHeartbeats 16000000
set_option maxRecDepth 100000
set_option synthInstance.maxSize 4000
set_option synthInstance.maxHeartbeats 0
namespace Go.Proofs.Ytfbiffdmhcjhbaa
open Go.RowKit Try
section
open Go.RowKit
open Sq
open Ar
open Fl (Tk)
def FM(X:List Tk×List Nd×List Fl.Dg)(w:World)(e:Ending)(w':World):Prop:=
 ∃tv nv dv L,e=.returned (.tuple #[tv,.agg #[nv],dv])/\w'.ownsRow w.heap.size 73 3 tv X.1.length (qB.all X.1)/\OT w' w.heap.size nv L/\L.map Ln.nd=X.2.1/\w'.ownsRow w.heap.size 87 3 dv X.2.2.length (nJ.all X.2.2)/\Below w.heap.size w w'
theorem OT.base'{w:World}{B B':Nat}{v:Value}{L:List Ln}(h:OT w B v L)(hB:B'<=B):OT w B' v L:=
 ⟨oU h.row hB,λi p hp=>oU (h.kids i p hp) hB,h.apart⟩
theorem BH{w:World}{B T s n k o:Nat}{v u:Value}{xs:List Value}(h:w.ownsRow B T s v n xs)(hk:k<B):(w.setCell ⟨k,o,none⟩ u).ownsRow B T s v n xs:=
 oC h (λg hg=>yK _ _ _ _ (λe=>by have h1:=(h.lt g hg).1;have h2:g=k:=e;omega))
theorem OT.low{w:World}{B k o:Nat}{v u:Value}{L:List Ln}(h:OT w B v L)(hk:k<B):OT (w.setCell ⟨k,o,none⟩ u) B v L:=
 ⟨BH h.row hk,λi p hp=>BH (h.kids i p hp) hk,h.apart⟩
theorem Vx(b:ByteArray)(x:Tk):(Ps.qU (Sc.ng b) x).length<=b.size+1:=by
 rw[Az];have hl:(b.extract x.2.1 x.2.2).data.toList.length<=b.size:=by
  rw[QY];show(b.extract x.2.1 x.2.2).size<=_;rw[K8];omega
 have hbd:=Ps.GX (x.1:Nat) (b.extract x.2.1 x.2.2).data.toList;have h1:=uK (n:=b.size) _ (KE (x.1:Nat) (b.extract x.2.1 x.2.2).data.toList) (λk hk=>by have:=hbd k hk;omega);have h2:(AL b x).2.length<=b.size:=h1;split
 ·rw[oq,tV];split<;>simp<;>omega
 exact nO _
theorem KJ(b:ByteArray):∀l:List Tk,(l.flatMap (Ps.qU (Sc.ng b))).length<=l.length*(b.size+1)
 |[]=>nO _
 |x::l=>by
  rw[uW,oq,nI,xR,Nt];have h1:=Vx b x;have h3:=KJ b l;omega
theorem drop_at{α:Type}{L:List α}{i:Nat}{x:α}(h:L[i]?=some x):L.drop i=x::L.drop (i+1):=by
 have hi:=(nC.1 h).1;have he:=(nC.1 h).2;rw[yE hi,he]
structure RL(l:List Tk)(depth:Nat)(i:Nat)(p:Ps.PS):Prop where
 run:Ps.p8 l (Rw.mQ l) depth (Ps.start l) (Rw.mQ l)=Ps.p8 l (Rw.mQ l) depth p ((Rw.mQ l).drop i)
 inv:Ps.Inv l (0,(Ps.start l).s) p.read p
 rd:p.read<=l.length
 st:p.st.length<=depth
 sz:p.s.t.length<=1+5*p.read
 dd:p.s.d.length<=i*(l.length+2)
theorem RL.start{l:List Tk}{depth:Nat}(hl:l.length<=32768):RL l depth 0 (Ps.start l):=
 ⟨rfl,Ps.zL l hl,nO _,nO _,by show(um (l.length:Int)).length<=_;unfold um;rw[fu (by omega)];exact mJ _,nO _⟩
theorem RL.step{l:List Tk}{depth i:Nat}{p:Ps.PS}{r:Rw.R}(ht:Rw.pI 0 l)(h:RL l depth i p)(hr:(Rw.mQ l)[i]?=some r)(hp:p.read<=r.from'):RL l depth (i+1) (Ps.row l (Rw.mQ l) depth p r):=by
 have hok:=Ps.rows_ok l r (sI hr);obtain⟨k1,k2⟩:=Ps.IQ (depth:=depth) ht h.inv hok (nO _) hp;obtain⟨k3,k4⟩:=Ps.GL (depth:=depth) ht h.inv hok (nO _) hp;have k5:=Ps.WV (depth:=depth) ht h.inv hok (nO _) hp;have k6:=Ps.Vv l (Rw.mQ l) depth p r h.st;have k7:=h.sz;have k8:=h.dd;refine⟨?_,k1,k2,k6,by omega,?_⟩
 ·rw[h.run,drop_at hr,Ps.p8,gu hp]
 rw[xR,Nt];omega
theorem RL.skip{l:List Tk}{depth i:Nat}{p:Ps.PS}{r:Rw.R}(h:RL l depth i p)(hr:(Rw.mQ l)[i]?=some r)(hp:¬p.read<=r.from'):RL l depth (i+1) p:=by
 have k8:=h.dd;refine⟨?_,h.inv,h.rd,h.st,h.sz,?_⟩
 ·rw[h.run,drop_at hr,Ps.p8,fu hp]
 rw[xR,Nt];omega
theorem RL.done{l:List Tk}{depth:Nat}{p:Ps.PS}(h:RL l depth (Rw.mQ l).length p):Ps.read l depth=p.s:=by
 unfold Ps.read;rw[h.run,List.drop_length];rfl
theorem Xa(w:World)(bv:Value)(b:ByteArray)(depth:Nat)(hb:uG w bv b)(hz:b.size<=16384)(h1:1<=depth)(h50:depth<=50):
 Calls prog 8 #[bv,.int .i64 depth] w (FM (Ps.tree (Sc.ng b) depth) w):=by
 have hnl:=Sc.rF b;have htl:=Di (Sc.ng b);have hti:=Rw.xM (Sc.ng b);have hbd:=EK (Sc.ng b);have bf:=Tm b (by omega);have ah:Ps.tree (Sc.ng b) depth=(Sc.tokens (Sc.ng b),(Ps.read (Sc.tokens (Sc.ng b)) depth).t,Ps.sD ((Ps.read (Sc.tokens (Sc.ng b)) depth).d++Ps.zf (Sc.ng b) (Sc.tokens (Sc.ng b)))):=by unfold Ps.tree;rw[fu (by omega)]
 have htold:Ps.zf (Sc.ng b) (Sc.tokens (Sc.ng b))=(Sg.bad b).map Ps.Ac++(Rw.mQ (Sc.tokens (Sc.ng b))).flatMap (Ps.tabs (Sc.ng b) (Sc.tokens (Sc.ng b)))++(Sc.tokens (Sc.ng b)).flatMap (Ps.qU (Sc.ng b)):=by
  unfold Ps.zf;rw[OD];rfl
 have htk:=λW (hW:uG W bv b)=>S9 bv b W hW
 unfold Gives at htk;have aa:(Ps.zf (Sc.ng b) (Sc.tokens (Sc.ng b))).length<=537000000:=by
  have a1:=Sg.JS b;have a2:=Ps.AA (Sc.ng b) (Sc.tokens (Sc.ng b)) (Rw.mQ (Sc.tokens (Sc.ng b))) (λr hr=>(Ps.rows_ok _ r hr).le);have a3:=KJ b (Sc.tokens (Sc.ng b));have a4:=Ez (Sc.tokens (Sc.ng b));have a5:(Rw.mQ (Sc.tokens (Sc.ng b))).length*(Sc.tokens (Sc.ng b)).length<=16384*16384:=Ns (by omega) (by omega);have a6:(Sc.tokens (Sc.ng b)).length*(b.size+1)<=16384*16385:=Ns (by omega) (by omega);rw[htold,oq,oq,tV];omega
 obtain⟨l,hl⟩:=my (Sc.tokens (Sc.ng b));rw[hl]at htl hti hbd bf ah htold htk aa;obtain⟨TB,bM⟩:=my (Ps.zf (Sc.ng b) l);rw[bM]at ah htold aa;rw[ah];obtain⟨Q,hQ⟩:=my (FM (l,(Ps.read l depth).t,Ps.sD ((Ps.read l depth).d++TB)) w);have HQ:=eu (λe w' (h:FM (l,(Ps.read l depth).t,Ps.sD ((Ps.read l depth).d++TB)) w e w')=>show Q e w' from hQ▸h);rw[hQ];have hll:l.length<=16384:=by omega
 have hrl:=Ez l;have bN:=eu htk;have bO:=eu (λv W (hR:Reads qB W v l)=>WO v l 0 W hR (by omega) (λx hx=>by have:=(hbd x hx).1;omega) hti)
 have dL:=eu (fun(tv rv:Value) W (h1:uG W bv b)(h2:Reads qB W tv l)(h3:Reads encR W rv (Rw.mQ l))=>show Calls prog 24 #[bv,tv,rv] W (λen w'=>∃v,en=.returned v/\TD W w' v TB)from by
  have:=W9 W bv tv rv b l (Rw.mQ l) h1 h2 h3 (by omega) (by omega) (by omega) bf (λr hr=>⟨(Ps.rows_ok l r hr).lt,(Ps.rows_ok l r hr).le⟩);rw[<-htold]at this
  exact this)
 have bP:=eu (λw0 W c e p sv R (r:Rw.R)(i:Nat)(h:PG w0 W c e p sv R)(hcl:c.l=l)(hrs:c.rs=Rw.mQ l)(hcd:c.depth=depth)(hi:i<=16384)(hL:RL l depth i p)(hr:(Rw.mQ l)[i]?=some r)(hp:p.read<=r.from')=>show Calls prog 22 #[RG c.pb,.agg #[.int .i64 r.kind,.int .i64 r.from',.int .i64 r.au,.int .i64 r.mE]] W (oQ w0 W c (.tuple #[]) (Ps.row l (Rw.mQ l) depth p r))from by
  have k1:=hL.sz;have k2:=hL.rd;have k3:=hL.dd;have k4:i*(l.length+2)<=16384*16386:=Ns hi (by omega);have:=Xy w0 W c e p sv R r (0,(Ps.start l).s) h (by rw[hcl];exact hrs) (by rw[hcl];exact hti) (by rw[hcl];exact λx hx=>by have:=(hbd x hx).1;omega) (by rw[hcl];exact hL.inv) (by rw[hcl];exact Ps.rows_ok l r (sI hr)) (nO _) hp (by omega) (by omega) (by rw[hcd];exact hL.st) (by omega) (by omega);rw[hcl,hrs,hcd]at this
  exact this)
 have dM:=eu hti;have bQ:=eu (λW (hW:Below w.heap.size w W)=>hb.below hW);have bg:=eu aa;obtain⟨NL,bn⟩:=my (l.length);obtain⟨NR,bq⟩:=my ((Rw.mQ l).length);obtain⟨ax,az⟩:=mR bn bq;rw[bn]at hll hrl;rw[bq]at hrl;obtain⟨B0,hB0⟩:=my (w.heap.size);have HB0:=eu hB0;obtain⟨wa,aA⟩:=my (w.alloc (.cells #[.slice none 0 0] 28));have bR:Below w.heap.size w wa:=aA▸mr w _;have hK:QR wa B0 0 (.slice none 0 0):=by rw[<-aA,<-hB0];exact zl rfl
 have hsa:wa.heap.size=B0+1:=by rw[<-aA,<-hB0];simp
 obtain⟨bS,HK,aL,bz⟩:=qg aA hK bR hsa;clear hnl htl hti hbd bf ah htold htk aa hl bM hQ bn bq hB0 aA bR hK hsa hb
 go_enter func8,ntmps8
 go_upto_region 1 with fail
 rw[bS.out,HB0.out];clear bS;have g1:¬((depth:Int)<1):=by omega
 have g2:¬((depth:Int)>50):=by omega
 go_wp2_with fail
 refine(bN.out wa (bQ.out wa aL.out)).mono ?_;rintro e1 wb ⟨tv,rfl,bA,hb1⟩;obtain⟨aM,HB1⟩:=mR bA hb1;obtain⟨ta,tc,bT⟩:=(Reads.mW (E:=qB) bA).shape;rw[ax.out]at bT;subst bT;clear bA hb1 bN;go_wp2_with fail
 refine(bO.out _ wb (Reads.mW (E:=qB) aM.out)).mono ?_;rintro e2 w0 ⟨rv,rfl,hO2,hb2⟩;obtain⟨ra,rc,bU⟩:=(Reads.mW (E:=encR) hO2).shape;rw[az.out]at bU;obtain⟨bB,HB2⟩:=mR hO2 hb2;subst bU;clear hO2 hb2 bO;go_wp2_with fail
 refine(Xt (NL:Int) w0).mono ?_;rintro e3 w1 ⟨u,rfl,hn1,hot,hb3⟩;obtain⟨L,hL,bC⟩:=hot rfl;have aQ:um (NL:Int)=[⟨1,0,NL,-1,[],false⟩]:=by unfold um;rw[fu (by omega)]
 obtain⟨ua,uc,rfl⟩:=hn1.shape;have aR:(um (NL:Int)).length=1:=by rw[aQ];rfl
 rw[aR]at hn1 bC⊢;obtain⟨rb,hrb⟩:=my (w1.heap.size);obtain⟨w2,hw2⟩:=my (w1.alloc (.cells #[.slice ta NL tc,.slice ua 1 uc,.slice none 0 0,.int .i64 (NL:Int)] 58));have aS:Below w1.heap.size w1 w2:=hw2▸mr w1 _;have hB2:w2.heap[rb]?=some (.cells #[.slice ta NL tc,.slice ua 1 uc,.slice none 0 0,.int .i64 (NL:Int)] 58 (0,0)):=by rw[<-hw2,<-hrb];exact rA _ _
 have hs2:w2.heap.size=rb+1:=by rw[<-hw2,<-hrb];simp
 obtain⟨w3,hw3⟩:=my (w2.alloc (.cells #[RG rb,.slice ra NR rc,.int .i64 (-1),.bool false,.slice none 0 0,.int .i64 (depth:Int),.int .i64 0] 61));have aB:Below w2.heap.size w2 w3:=hw3▸mr w2 _;obtain⟨pb,hpb⟩:=my (w2.heap.size);have hB3:w3.heap[pb]?=some (.cells #[RG rb,.slice ra NR rc,.int .i64 (-1),.bool false,.slice none 0 0,.int .i64 (depth:Int),.int .i64 0] 61 (0,0)):=by rw[<-hw3,<-hpb];exact rA _ _
 have aC:Below w1.heap.size w1 w3:=lu aS aB;have aT:Below w0.heap.size w0 w3:=lu hb3 aC;obtain⟨c,hc⟩:∃c:Cx,(⟨pb,rb,.slice ta NL tc,.slice ra NR rc,l,Rw.mQ l,depth⟩:Cx)=c:=⟨_,rfl⟩
 have aU:w0.heap.size<=rb:=by rw[<-hrb];exact hb3.size
 have hR0:Reads qB w0 (.slice ta NL tc) l:=(Reads.mW (E:=qB) aM.out).below HB2.out;have bV:GM w0 w3 rb (.slice ta NL tc) (.slice ua 1 uc) (.slice none 0 0) NL l L []:=
  ⟨aT,hR0,by rw[ax.out];omega,by rw[ax.out];exact mJ _,aU,(aB.block rb (nQ hB2)).trans hB2,bC.below aC,qG nJ _ _⟩
 have bW:PG w0 w3 c NL (Ps.start l) (.slice none 0 0) (DR (.slice none 0 0)):=by
  rw[<-hc];refine⟨⟨_,_,L,bV,?_,rfl⟩,hB3,?_,Reads.mW (E:=encR) bB.out,by show(Rw.mQ l).length<=_;rw[az.out];omega,qG oJ _ _⟩
  ·show L.map Ln.nd=um (l.length:Int);rw[ax.out];exact hL
  show w0.heap.size<=pb;rw[<-hpb,hs2];omega
 have hpc:c.pb=pb:=by rw[<-hc]
 have hrc:c.rb=rb:=by rw[<-hc]
 have hlc:c.l=l:=by rw[<-hc]
 have aV:c.rs=Rw.mQ l:=by rw[<-hc]
 have bX:c.depth=depth:=by rw[<-hc]
 have bY:c.tv=.slice ta NL tc:=by rw[<-hc]
 obtain⟨dN,aN,aD,dO,dP,dQ⟩:=qW bW hpc hrc hlc aV bX;obtain⟨HW2,HW3,dR⟩:=nY hw2 hw3 hrb;have dS:=eu (show rb+1=pb by rw[<-hpb,hs2]);have HB3:=eu hb3;have eB:=eu (show w0.heap.size<=pb by rw[<-hpb,hs2];omega);have aW:=Reads.mW (E:=encR) bB.out
 have bZ:=eu (λW (hW:Below w0.heap.size w0 W) j (x:Rw.R)(hj:(Rw.mQ l)[j]?=some x)=>show∃b off,ra=some ⟨b,off,none⟩/\W.cell? ⟨b,off+j*4,none⟩=some (.int .i64 x.kind)/\W.cell? ⟨b,off+j*4+1,none⟩=some (.int .i64 x.from')/\W.cell? ⟨b,off+j*4+2,none⟩=some (.int .i64 x.au)/\W.cell? ⟨b,off+j*4+3,none⟩=some (.int .i64 x.mE)from
  vk (by rw[az.out];exact aW.below hW) j x hj)
 clear hc bW bV hB2 hB3 aS aB aC aT hw2 hw3 hrb hpb hs2 hL bC hn1 aR aQ hb3 aU hR0 hpc hrc hlc aV bX aW g1 g2 hot bY;go_upto_region 6 with fail
 rw[dR.out,HW2.out,dS.out,HW3.out];clear HW2 HW3;go_wp2_with fail
 go_loopw [10] (λiv wr=>∃(i:Nat)(p:Ps.PS)(e:Nat)(sv:Value)(R:Nat->Prop),iv=.int .i64 i/\i<=NR/\Hid (RL l depth i p)/\Hid (PG w0 wr c e p sv R)) (λiv _=>NR-(intOf iv).toNat)
 case atStart=>exact⟨0,_,_,_,_,rfl,nO _,eu (RL.start (by rw[ax.out];omega)),dN⟩
 case round=>
  obtain⟨i,p,e,sv,R,rfl,hi,af,HP⟩:=hrel;by_cases hlt:i<NR
  ·obtain⟨r,hr⟩:=pG (Rw.mQ l) i (by rw[az.out];omega);obtain⟨eD,ro,rfl,c0,c1,c2,c3⟩:=bZ.out wr HP.out.qK i r hr;have gi:(i:Int)<(NR:Int):=by omega
   have k6:wr.cell? ⟨pb,6,none⟩=some (.int .i64 (p.read:Int)):=by rw[<-aN.out];exact HP.out.cell 6 _ rfl
   obtain⟨RD,ay⟩:=my (p.read);rw[ay]at k6;by_cases hp:RD<=r.from'
   ·have HC:=eu (λW (hP:PG w0 W c e p sv R)=>show Calls prog 22 #[RG pb,.agg #[.int .i64 r.kind,.int .i64 r.from',.int .i64 r.au,.int .i64 r.mE]] W (oQ w0 W c (.tuple #[]) (Ps.row l (Rw.mQ l) depth p r))from by
     rw[<-aN.out];exact bP.out w0 W c e p sv R r i hP dO.out dP.out dQ.out (by omega) af.out hr (by rw[ay];exact hp))
    have HR2:=eu (af.out.step dM.out hr (by rw[ay];exact hp));have gr:decide ((r.from':Int)>=(RD:Int))=true:=oP (by omega);have cr:(RD:Int)<=(r.from':Int):=by omega
    have cz:RD<=r.from':=hp;have cB:=eu hr;clear hr ay af hp;go_wp2_with fail
    go_big_quiet (fail)
    obtain⟨w4,hw4⟩:=my (wr.drewN nq);have hb4:Below wr.heap.size wr w4:=hw4▸nG (mF _ wr) nq;rw[hw4];have aF:=eu (HP.out.below hb4);clear hw4 hb4 c0 c1 c2 c3 k6;obtain⟨b9,o9,e9,c0,c1,c2,c3⟩:=bZ.out w4 aF.out.qK i r cB.out;injection e9 with e9
    injection e9 with dU Xp
    subst dU Xp;go_wp2_with fail
    refine(HC.out w4 aF.out).mono ?_;rintro e5 w5 ⟨rfl,e6,s6,R6,cK,dV⟩;have bD:=eu cK;clear cK dV c0 c1 c2 c3 gr cr cz HC aF cB;go_wp2_with fail
    go_roundw
    case rel=>exact⟨i+1,_,_,_,_,by go_num,by omega,HR2,bD⟩
    case measure=>simp[intOf];omega
   have HR2:=eu (af.out.skip hr (by rw[ay];exact hp));have gr:decide ((r.from':Int)>=(RD:Int))=false:=nK (by omega);have cr:¬(RD:Int)<=(r.from':Int):=by omega
   have cz:¬RD<=r.from':=hp;clear hr ay af hp c0 c2 c3;go_wp2_with fail
   go_big_quiet (fail)
   obtain⟨w4,hw4⟩:=my (wr.drewN nq);have hb4:Below wr.heap.size wr w4:=hw4▸nG (mF _ wr) nq;rw[hw4];have aF:=eu (HP.out.below hb4);clear hw4 hb4 c1 k6;go_wp2_with fail
   go_roundw
   case rel=>exact⟨i+1,_,_,_,_,by go_num,by omega,HR2,aF⟩
   case measure=>simp[intOf];omega
  obtain rfl:i=NR:=by omega
  have hdone:=RL.done (by rw[az.out];exact af.out);have hsz:=af.out.sz;have hrd:=af.out.rd;have hdd:=af.out.dd;have av:p.s.d.length<=300000000:=by
   have k4:i*(l.length+2)<=16384*16386:=Ns (by omega) (by rw[ax.out];omega);omega
  obtain⟨nv,dv,L2,hM,hL2,-⟩:=HP.out.gs;have hL3:L2.map Ln.nd=(Ps.read l depth).t:=by rw[hdone];exact hL2
  have bE:(Ps.read l depth).d=p.s.d:=by rw[hdone]
  obtain⟨D,hD⟩:=my (p.s.d);rw[hD]at hM bE av;have aj:=hM.below (mF _ wr).drew;obtain⟨da,dc,hdv⟩:=(Reads.mW (E:=nJ) aj.told).shape;obtain⟨na,nc,cO⟩:=(aj.nodes.nodes).shape;obtain⟨DN,bF⟩:=my (D.length);obtain⟨NN,cZ⟩:=my ((L2.map Ln.nd).length);rw[bF]at hdv;rw[cZ]at cO;subst hdv cO;have k0:wr.drew.cell? ⟨pb,0,none⟩=some (RG rb):=by rw[<-aN.out,<-aD.out];exact(HP.out.below (mF _ wr).drew).cell 0 _ rfl
  have kn:wr.drew.cell? ⟨rb,1,none⟩=some (.slice na NN nc):=by rw[<-aD.out];exact aj.cell 1 _ rfl
  have kd:wr.drew.cell? ⟨rb,2,none⟩=some (.slice da DN dc):=by rw[<-aD.out];exact aj.cell 2 _ rfl
  have df:=HP.out.below (mF _ wr).drew;have ai:Below w0.heap.size w0 wr.drew:=aj.qK;have hwd:Below w.heap.size w wr.drew:=lu (lu (lu aL.out HB1.out) HB2.out) ai;have HC:=eu (dL.out (.slice ta NL tc) (.slice ra i rc) wr.drew (bQ.out _ hwd) ((Reads.mW (E:=qB) aM.out).below (lu HB2.out ai)) ((Reads.mW (E:=encR) bB.out).below ai));obtain⟨HM,dW,dX,eF,dh,di⟩:=qW aj hL3 bE bF hwd ai;have aG:=df.box;rw[aN.out]at aG;have bG:=eu aG;clear hdone hsz hrd hdd hM hL2 hL3 bE hD aj bF cZ df ai hwd aG af HP hlt;go_wp2_with fail
  go_upto_region 11 with fail
  refine mK (λwx=>wx.cell? ⟨pb,0,none⟩=some (RG rb)/\wx.cell? ⟨rb,1,none⟩=some (.slice na NN nc)/\wx.cell? ⟨rb,2,none⟩=some (.slice da DN dc)) 22 (by kernel_rfl) ?_;have hH:(λwx:World=>wx.cell? ⟨pb,0,none⟩=some (RG rb)/\wx.cell? ⟨rb,1,none⟩=some (.slice na NN nc)/\wx.cell? ⟨rb,2,none⟩=some (.slice da DN dc)) wr.drew:=⟨k0,kn,kd⟩
  refine mI 0 (.slice ta NL tc) rfl (by kernel_rfl) rfl mD (λW hW=>by go_simp) hH ?_;refine mI 1 (.pointer (some ⟨pb,0,none⟩)) rfl (by kernel_rfl) rfl mD (λW hW=>by go_simp) hH ?_;refine mI 2 (.pointer (some ⟨pb,0,none⟩)) rfl (by kernel_rfl) rfl mD (λW hW=>by go_simp) hH ?_;refine mI 3 (.pointer (some ⟨pb,0,none⟩)) rfl (by kernel_rfl) rfl mD (λW hW=>by go_simp) hH ?_;refine mI 4 (RG rb) rfl (by kernel_rfl) rfl mD (λW hW=>?_) hH ?_
  ·obtain⟨z0,z1,z2⟩:=hW;go_simp
  refine mI 5 (.pointer (some ⟨rb,0,none⟩)) rfl (by kernel_rfl) rfl mD (λW hW=>by go_simp) hH ?_;refine mI 6 (.pointer (some ⟨rb,1,none⟩)) rfl (by kernel_rfl) rfl mD (λW hW=>by go_simp) hH ?_;refine mI 7 (.agg #[.slice na NN nc]) rfl (by kernel_rfl) rfl mD (λW hW=>?_) hH ?_
  ·obtain⟨z0,z1,z2⟩:=hW;go_simp
  refine nA 8 (.pointer (some ⟨pb,0,none⟩)) rfl (by kernel_rfl) rfl mD (λW=>by go_simp) (λ_=>hH) ?_;refine nA 9 (.pointer (some ⟨pb,0,none⟩)) rfl (by kernel_rfl) rfl mD (λW=>by go_simp) (λ_=>hH) ?_;refine nA 10 (.pointer (some ⟨pb,0,none⟩)) rfl (by kernel_rfl) rfl mD (λW=>by go_simp) (λ_=>hH) ?_;refine ow [22,21,20,19,14,13,12] (i:=11) (oi:=⟨_,_,_,_,_,_⟩) (v:=RG rb) rfl (by kernel_rfl) (by kernel_rfl) (by kernel_rfl) (by kernel_rfl) (by kernel_rfl) mD (Or.inl ⟨rfl,λW hW=>?_⟩) hH ?_
  ·refine nZ.of_run ?_;obtain⟨z0,z1,z2⟩:=hW;go_simp
  try simp only[Act.put,mM,mP,mO]
  refine nA 12 (.pointer (some ⟨rb,0,none⟩)) rfl (by kernel_rfl) rfl mD (λW=>by go_simp) (λ_=>hH) ?_;refine nA 13 (.pointer (some ⟨rb,2,none⟩)) rfl (by kernel_rfl) rfl mD (λW=>by go_simp) (λ_=>hH) ?_;refine ow [22,21,20,19] (i:=14) (oi:=⟨_,_,_,_,_,_⟩) (v:=.slice da DN dc) rfl (by kernel_rfl) (by kernel_rfl) (by kernel_rfl) (by kernel_rfl) (by kernel_rfl) mD (Or.inl ⟨rfl,λW hW=>?_⟩) hH ?_
  ·refine nZ.of_run ?_;obtain⟨z0,z1,z2⟩:=hW;go_simp
  try simp only[Act.put,mM,mP,mO]
  refine nA 15 bv rfl (by kernel_rfl) rfl mD (λW=>by go_simp) (λ_=>hH) ?_;refine nA 16 (.slice ta NL tc) rfl (by kernel_rfl) rfl mD (λW=>by go_simp) (λ_=>hH) ?_;refine nA 17 (.slice ra i rc) rfl (by kernel_rfl) rfl mD (λW=>by go_simp) (λ_=>hH) ?_;refine oD 18 (by kernel_rfl) rfl λK hK=>?_
  go_simp;refine HC.out.mono ?_;rintro e5 w5 ⟨v5,rfl,ag⟩;have aO:=HM.out.below (ag.2);obtain⟨a5,c5,rfl⟩:=ag.shape;have dY:=eu ag;have dm:w5.cell? ⟨pb,0,none⟩=some (RG rb):=ku ag.2 k0;have dn:w5.cell? ⟨rb,1,none⟩=some (.slice na NN nc):=ku ag.2 kn;have dw:w5.cell? ⟨rb,2,none⟩=some (.slice da DN dc):=ku ag.2 kd;have ae:=eu aO;have aX:=(ag.2.block pb (nQ bG.out)).trans bG.out;obtain⟨aY,eG⟩:=mR aX (lu dh.out ag.2);have dx:=eu (show Reads nJ w5 (.slice a5 TB.length c5) TB from Reads.mW (E:=nJ) ag.1);have bH:=eu (show w5.ownsRow w0.heap.size 87 nJ.k (.slice da DN dc) D.length (nJ.all D)from aO.told);have dA:=eu (show D.length+TB.length<=maxLen by have h9:=bg.out;have h7:=av;simp only[maxLen];omega);have dB:=eu (show(D.length+TB.length)*24<=140737488355328 by have h9:=bg.out;have h7:=av;omega);have hws:w0.heap.size<=w5.heap.size:=aO.qK.size;clear ag aO aX k0 kn kd HC HM bG dh di;refine hK.out _ _ (λ_=>⟨dm,dn,dw⟩) (λhH2=>?_);clear hK K;replace hH:=hH2 (by kernel_rfl);clear hH2;try simp only[Act.put,mM,mP,mO]
  refine oD 19 (by kernel_rfl) rfl λK hK=>?_
  refine Bn QT rfl (.tmp 70) (.tmp 74) rfl w0.heap.size (.slice da DN dc) D rfl bH.out (.slice a5 TB.length c5) TB rfl dx.out dA.out dB.out hws ?_;intro v6 w6 hown6 aP;have hoff:∀(k:Nat)(C:Array Value)(T:TypeId)(fr:Nat×Nat),w5.heap[k]?=some (Obj.cells C T fr)->87≠T->w6.heap[k]?=some (Obj.cells C T fr):=λk C T fr hk hT=>(aP.block k (nQ hk) (λe'=>mV bH.out hk hT e'.symm)).trans hk
  have bI:=hoff pb _ _ _ aY.out (by decide);have aH:=hoff c.rb _ _ _ ae.out.box (by decide);rw[aD.out]at aH;have bJ:w6.cell? ⟨pb,0,none⟩=some (RG rb):=by rw[<-aD.out];exact(nz bI 0).trans rfl
  have bK:w6.cell? ⟨rb,1,none⟩=some (.slice na NN nc):=(nz aH 1).trans rfl;have bL:w6.cell? ⟨rb,2,none⟩=some (.slice da DN dc):=(nz aH 2).trans rfl
  have dC:OT w6 w0.heap.size (.slice na NN nc) L2:=ae.out.nodes.same (λg hgg=>aP.block g (ae.out.rows (.inr (.inr hgg))).2 (λe'=>by
   rcases hgg with hgg|⟨q,hq,hgg⟩
   ·exact nV ae.out.nodes.row ae.out.told (by decide) g hgg e'.symm
   obtain⟨j,hj⟩:=yG hq
   exact nV (ae.out.nodes.kids j q hj) ae.out.told (by decide) g hgg e'.symm))
  have aZ:Below w0.heap.size w0 w6:=ae.out.qK.grown aP ae.out.qK.size (λq hq=>(ae.out.told.lt q hq).1);have aI:=Reads.mW (E:=nJ) hown6;have aI:=Reads.mW (E:=nJ) hown6;obtain⟨dD,aJ,dE,bD,dZ⟩:=BN dC aZ aI bI aH;clear hown6 aP hoff bI aH dC aZ aI dm dn dw bH dx dA dB hws aY ae dY;refine hK.out _ _ (λ_=>⟨bJ,bK,bL⟩) (λhH2=>?_);clear hK K;replace hH:=hH2 (by kernel_rfl);clear hH2;try simp only[Act.put,mM,mP,mO]
  refine oD 20 (by kernel_rfl) rfl λK hK=>?_
  go_simp;refine(Qj v6 (D++TB) w6 dE.out (by have h9:=bg.out;rw[oq];have h8:=av;omega)).mono ?_;rintro e7 w7 ⟨vs,rfl,dF,ak⟩;have dG:w7.cell? ⟨pb,0,none⟩=some (RG rb):=ku ak bJ;have dH:w7.cell? ⟨rb,1,none⟩=some (.slice na NN nc):=ku ak bK;have kd':w7.cell? ⟨rb,2,none⟩=some (.slice da DN dc):=ku ak bL;have aK:Below wa.heap.size wa w7:=lu (lu (lu HB1.out HB2.out) aJ.out) ak;obtain⟨c8,f8⟩:=vP aK HK.out;have hz0:B0<w0.heap.size:=by have h5:=bz.out;have h6:=HB1.out.size;have h7:=HB2.out.size;omega
  have c9:(w7.setCell ⟨B0,0,none⟩ (.slice na NN nc)).cell? ⟨B0,0,none⟩=some (.slice na NN nc):=pU _ _ _ (by rw[c8];rfl);have dI:B0<w6.heap.size:=Rk hz0 aJ.out.size
  have hzb:B0<wb.heap.size:=by have h5:=bz.out;have h6:=HB1.out.size;omega
  have hza:B0<wa.heap.size:=by have h5:=bz.out;omega
  have dJ:w.heap.size<=B0:=by rw[HB0.out];exact mJ _
  have dK:w.heap.size<=wa.heap.size:=aL.out.size;have HD:=eu (HQ.out (.returned (.tuple #[.slice ta NL tc,.agg #[.slice na NN nc],vs])) (w7.setCell ⟨B0,0,none⟩ (.slice na NN nc)) ⟨_,_,_,L2,rfl,oU (BH (mU aM.out (lu (lu HB2.out aJ.out) ak)) hza) dK,((dD.out.below ak).low hz0).base' (by have h6:=HB1.out.size;have h7:=HB2.out.size;omega),dW.out,by rw[dX.out];exact oU (BH dF dI) (by have h6:=HB1.out.size;have h7:=HB2.out.size;have h8:=aJ.out.size;omega),(lu aL.out aK).setCell (p:=⟨B0,0,none⟩) dJ _⟩);clear dF ak aK hz0 dI hzb hza bJ bK bL dD aJ dE bD dZ;refine hK.out _ _ (λ_=>⟨dG,dH,kd'⟩) (λhH2=>?_);clear hK K;replace hH:=hH2 (by kernel_rfl);clear hH2;try simp only[Act.put,mM,mP,mO]
  refine mI 21 (.slice ta NL tc) rfl (by kernel_rfl) rfl mD (λW hW=>by go_simp) hH ?_;refine oD 22 (by kernel_rfl) rfl λK hK=>?_
  go_simp;refine hK.out _ _ (pV (by kernel_rfl)) (λ_=>?_);clear hK K;try simp only[Act.put,mM,mP,mO]
  refine nA 23 vs rfl (by kernel_rfl) rfl mD (λW=>by go_simp) (pV (by kernel_rfl)) ?_;rename_i ed;clear ed hH;refine mH (by kernel_rfl) ?_ _;clear dG dH kd';go_wp2_with fail
  refine yJ (v:=.tuple #[.slice ta NL tc,.agg #[.slice na NN nc],vs]) ?_ rfl HD.out;simp[results,results8,go_sem,c9]
end
section
open Go.RowKit
open Sq
open Ar
open Fl (Tk)
theorem yT{l:List Tk}{i:Nat}{x:Tk}(h:l[i]?=some x):Fl.wu l i=x.2.1:=by unfold Fl.wu;rw[h]
theorem uI{l:List Tk}{i:Nat}{x:Tk}(h:l[i]?=some x):Fl.too l i=x.2.2:=by unfold Fl.too;rw[h]
end
section
open Go.RowKit
open Sq
open Ar
open Fl (Tk)
namespace Wk
theorem G5(p:Nat->Bool):∀n,(∀a b,a<=b->b<n->p a=true->p b=true)->∃i,i<=n/\(∀j,j<i->p j=false)/\(∀j,i<=j->j<n->p j=true)/\(List.range n).countP (λi=>!p i)=i
 |0,_=>⟨0,mJ _,λj h=>absurd h (BM _),λj _ h=>absurd h (BM _),rfl⟩
 |n+1,hm=>by
  obtain⟨i,h1,h2,h3,h4⟩:=G5 p n (λa b hab hb=>hm a b hab (by omega));rw[Uy,Dx,h4,V4];cases hp:p n with
  |true=>exact⟨i,by omega,h2,λj hj hjn=>by
   by_cases e:j=n
   ·subst e;exact hp
   exact h3 j hj (by omega),by simp⟩
  |false=>
   have hi:i=n:=by
    rcases sJ i n with h|h
    ·have:=hm i n (by omega) (by omega) (h3 i (mJ _) h);rw[hp]at this;cases this
    omega
   subst hi
   exact⟨i+1,by omega,λj hj=>by
    by_cases e:j=i
    ·subst e;exact hp
    exact h2 j (by omega),λj h5 h6=>by omega,by simp⟩
def A8(l:List Tk)(a:Int):Nat:=(List.range l.length).countP (λi=>!decide (a<(Fl.too l i:Nat)))
def DX(l:List Tk)(a:Int):Int:=if A8 l a=l.length then -1 else if a<(Fl.wu l (A8 l a):Nat)then -1 else(A8 l a:Nat)
def QW(l:List Tk)(t:List Nd)(a:Int):Int:=if DX l a=-1 then -1 else qM t (DX l a) t.length
end Wk
theorem G6{l:List Tk}{q:Nat}(ht:Rw.pI q l):∀a b,a<=b->b<l.length->Fl.too l a<=Fl.too l b:=by
 intro a b hab hb;by_cases e:a=b
 ·subst e;exact mJ _
 obtain⟨x,hx⟩:=pG l a (by omega);obtain⟨y,hy⟩:=pG l b hb;rw[uI hx,uI hy];have h2:=(ht.le b y hy).2;have h3:=ht.lt a b x y (by omega) hx hy;omega
theorem KM{l:List Tk}{q:Nat}(ht:Rw.pI q l)(a:Int):Wk.A8 l a<=l.length/\(∀j,j<Wk.A8 l a->(Fl.too l j:Int)<=a)/\(∀j,Wk.A8 l a<=j->j<l.length->a<(Fl.too l j:Nat)):=by
 obtain⟨i,h1,h2,h3,h4⟩:=Wk.G5 (λi=>decide (a<(Fl.too l i:Nat))) l.length (λx y hxy hy h=>by
  have h5:=xS h;have h6:=G6 ht x y hxy hy
  exact oP (by omega))
 have e:Wk.A8 l a=i:=h4;rw[e];exact⟨h1,λj hj=>by have:=UG (h2 j hj);omega,λj hj hl=>xS (h3 j hj hl)⟩
theorem Xb(w:World)(pa pl:Addr)(tv:Value)(l:List Tk)(a:Int)(i:Nat)(ha:w.cell? pa=some (.int .i64 a))(hp:w.cell? pl=some tv)(hR:Reads qB w tv l)(hi:i<l.length)(hl:l.length<=100000):
 Calls prog 51 #[.int .i64 i,.pointer (some pa),.pointer (some pl)] w λe w'=>e=.returned (.bool (decide (a<(Fl.too l i:Nat))))/\∃q,w'=w.drewN q:=by
 obtain⟨ta,tc,rfl⟩:=hR.shape;obtain⟨x,hx⟩:=pG l i hi;obtain⟨b,o,rfl,c0,c1,c2⟩:=o8 hR i x hx;rw[uI hx];obtain⟨NL,aa⟩:=my (l.length);rw[aa]at hp hi;have gi:(i:Int)<(NL:Int):=by omega
 obtain⟨T,hT⟩:=my (x.2.2);rw[hT]at c2⊢;clear hx hT hR c0 c1
 go_enter func51,ntmps51
 go_wp2_with fail
 go_big_quiet (fail)
 go_wp2_with fail
 go_ret;exact⟨rfl,nq,rfl⟩
theorem Qx(w:World)(tv:Value)(l:List Tk)(q:Nat)(a:Int)(hR:Reads qB w tv l)(ht:Rw.pI q l)(hl:l.length<=100000):
 Calls prog 29 #[tv,.int .i64 a] w λe w'=>e=.returned (.int .i64 (Wk.DX l a))/\Below w.heap.size w w':=by
 obtain⟨w1,hw1⟩:=my (w.alloc (.cells #[tv] 25));obtain⟨w2,hw2⟩:=my (w1.alloc (.cells #[.int .i64 a] 3));have hb1:Below w.heap.size w w1:=hw1▸mr w _;have hb2:Below w1.heap.size w1 w2:=hw2▸mr w1 _;have hb:Below w.heap.size w w2:=lu hb1 hb2;have hs1:w1.heap.size=w.heap.size+1:=by rw[<-hw1];simp
 obtain⟨bl,hbl⟩:=my (w.heap.size);obtain⟨ba,ag⟩:=my (w1.heap.size);have xl:w2.cell? ⟨bl,0,none⟩=some tv:=by rw[<-hw2];refine oG ?_;rw[<-hw1,<-hbl];exact at_new rfl
 have xa:w2.cell? ⟨ba,0,none⟩=some (.int .i64 a):=by rw[<-hw2,<-ag];exact at_new rfl
 have hrd:=hR.below hb;have hmono:∀i j,i<=j->j<l.length->decide (a<(Fl.too l i:Nat))=true->decide (a<(Fl.too l j:Nat))=true:=λx y hxy hy h=>by
  have h5:=xS h;have h6:=G6 ht x y hxy hy;exact oP (by omega)
 have hse:=Any.sort_Search (P:=prog) (ρ:=Ba) RP 51 #[.pointer (some ⟨ba,0,none⟩),.pointer (some ⟨bl,0,none⟩)] l.length (λi=>decide (a<(Fl.too l i:Nat))) w2 (enters_of func51 (by kernel_rfl) rfl) (by omega)
  (λm os i hi=>by
   have hbw:=below_grown_sl w2.heap.size w2 m os (mJ _);refine(Xb (Go.Sort.grow (w2.drewN m) os) ⟨ba,0,none⟩ ⟨bl,0,none⟩ tv l a i (ku hbw xa) (ku hbw xl) (hrd.below hbw) hi hl).mono ?_;rintro e w' ⟨rfl,q,rfl⟩;have e0:∀W:World,Go.Sort.grow W #[]=W:=λW=>by simp[Go.Sort.grow]
   exact⟨rfl,q,#[],by rw[e0]⟩) hmono
 obtain⟨s1,s2,s3⟩:=KM ht a;have hV:Wk.DX l a=if Wk.A8 l a=l.length then(-1:Int)else if a<(Fl.wu l (Wk.A8 l a):Nat)then(-1:Int)else((Wk.A8 l a:Nat):Int):=rfl
 obtain⟨V,aj⟩:=my (Wk.DX l a);rw[aj]at hV⊢;obtain⟨I,hI⟩:=my (Wk.A8 l a);have ae:Calls prog 50 #[.int .i64 (l.length:Nat),.func (.func 51) #[] #[.pointer (some ⟨ba,0,none⟩),.pointer (some ⟨bl,0,none⟩)]] w2 λe w'=>e=.returned (.int .i64 (I:Nat))/\Below w2.heap.size w2 w':=by
  refine Calls.mono hse ?_;rintro e w' ⟨rfl,q,os,rfl⟩;exact⟨by rw[<-hI];rfl,below_grown_sl w2.heap.size w2 q os (mJ _)⟩
 rw[hI]at hV s1;obtain⟨ta,tc,rfl⟩:=hR.shape;have HX:=eu (λW (hW:Below w2.heap.size w2 W) j x hj=>o8 (hrd.below hW) j x hj);obtain⟨NL,af⟩:=my (l.length);have av:=eu af;rw[af]at ae hV s1 xl hl⊢;obtain⟨HS,HB,HW1,HW2,ax,az⟩:=qW ae hb hw1 hw2 hbl ag;have ak:=eu (show bl+1=ba by omega);obtain⟨ah,ai⟩:=mR xl xa;rw[af]at HW1;clear hse ae hb1 hb2 hb hs1 hw1 hw2 hbl ag xl xa hrd hmono s2 s3 aj hI af ht hR
 go_enter func29,ntmps29
 go_upto_region 1 with fail
 rw[HW1.out,ax.out,ak.out,HW2.out];clear HW1 HW2;have xl:=ah.out;have xa:=ai.out;go_wp2_with fail
 refine HS.out.mono ?_;rintro e w3 ⟨rfl,hb3⟩;obtain⟨HB3,aa⟩:=mR hb3 (lu HB.out hb3);have yl:=ku hb3 xl;have ya:=ku hb3 xa;clear hb3 xl xa HS;by_cases h1:I=NL
 ·rw[gu h1]at hV;have g1:((I:Int)==(NL:Int))=true:=by simp;omega
  have ay:(I==NL)=true:=by simp[h1]
  subst hV;clear h1 ah ai HX;go_wp2_with fail
  go_big_quiet (fail)
  have HD:=eu ((aa.out.trans ((nG (mF _ w3) nq).mono aa.out.size)));go_wp2_with fail
  first|exact⟨rfl,HD.out⟩|(go_ret;exact⟨rfl,HD.out⟩)
 rw[fu h1]at hV;have g1:((I:Int)==(NL:Int))=false:=by simp;omega
 have ay:(I==NL)=false:=by simp[h1]
 obtain⟨x,hx⟩:=pG l I (by rw[av.out];omega);obtain⟨b,o,rfl,c0,c1,c2⟩:=HX.out w3 HB3.out I x hx;rw[yT hx]at hV;have gi:(I:Int)<(NL:Int):=by omega
 obtain⟨F,hF⟩:=my (x.2.1);rw[hF]at hV c1;clear h1 ah ai HX hx hF c0 c2;by_cases h2:a<(F:Int)
 ·rw[gu h2]at hV;subst hV;have g2:decide (a<(F:Int))=true:=oP h2;go_wp2_with fail
  go_big_quiet (fail)
  have HD:=eu ((aa.out.trans ((nG (mF _ w3) nq).mono aa.out.size)));go_wp2_with fail
  first|exact⟨rfl,HD.out⟩|(go_ret;exact⟨rfl,HD.out⟩)
 rw[fu h2]at hV;subst hV;have g2:decide (a<(F:Int))=false:=nK h2;go_wp2_with fail
 go_big_quiet (fail)
 have HD:=eu ((aa.out.trans ((nG (mF _ w3) nq).mono aa.out.size)));go_wp2_with fail
 first|exact⟨rfl,HD.out⟩|(go_ret;exact⟨rfl,HD.out⟩)
theorem Xq(w:World)(tv nv:Value)(l:List Tk)(q:Nat)(t:List Nd)(a:Int)(hR:Reads qB w tv l)(ht:Rw.pI q l)(hl:l.length<=100000)(hN:qH w nv t)(htl:t.length<=1000000):
 Calls prog 14 #[tv,.agg #[nv],.int .i64 a] w λe w'=>e=.returned (.int .i64 (Wk.QW l t a))/\Below w.heap.size w w':=by
 obtain⟨na,nc,rfl⟩:=hN.shape;have HX:=eu (λW (hW:Below w.heap.size w W) j x hj=>(hN.below hW).at_ j x hj);obtain⟨w1,hw1⟩:=my (w.alloc (.cells #[.slice na t.length nc] 34));have hb1:Below w.heap.size w w1:=hw1▸mr w _;obtain⟨bx,hbx⟩:=my (w.heap.size);have hx1:w1.cell? ⟨bx,0,none⟩=some (.slice na t.length nc):=by rw[<-hw1,<-hbx];exact at_new rfl
 have ae:=eu (Qx w1 tv l q a (hR.below hb1) ht hl);have hV:Wk.QW l t a=if Wk.DX l a=-1 then(-1:Int)else Wk.qM t (Wk.DX l a) t.length:=rfl
 obtain⟨K,hK⟩:=my (Wk.DX l a);rw[hK]at hV ae;obtain⟨V,aj⟩:=my (Wk.QW l t a);rw[aj]at hV⊢;obtain⟨NN,af⟩:=my (t.length);have ax:=eu af;rw[af]at htl hV hx1 hw1⊢;have HV:=eu hV;obtain⟨Q,ag⟩:=my ((λe (w':World)=>e=Ending.returned (.int .i64 V)/\Below w.heap.size w w'));have HQ:=eu (λw' (h:Below w.heap.size w w')=>show Q (.returned (.int .i64 V)) w' from by rw[<-ag];exact⟨rfl,h⟩);rw[ag];obtain⟨HW1,ay,HB1⟩:=nY hw1 hbx hb1;have hxs:bx<w1.heap.size:=by rw[<-hw1,<-hbx];simp
 obtain⟨aA,ak⟩:=mR hxs hx1;clear hxs hV aj hK af ag hw1 hbx hb1 hN hR ht hl
 go_enter func14,ntmps14
 go_upto_region 1 with fail
 rw[HW1.out,ay.out];clear HW1 hx1;go_wp2_with fail
 refine ae.out.mono ?_;rintro e w2 ⟨rfl,hb2⟩;have HB2:=eu (lu HB1.out hb2);have hx2:=ku hb2 ak.out;clear hb2 ae ak;by_cases hk:K=-1
 ·have hv:=HV.out;rw[gu hk]at hv;subst hv hk;have HD:=eu (HQ.out w2 HB2.out);clear HV HQ;go_wp2_with fail
  first|exact HD.out|(go_ret;exact HD.out)
 have hv:=HV.out;rw[fu hk]at hv;have az:=eu hv;have gk:(K==-1)=false:=by simp[hk]
 clear hv hk HV;go_wp2_with fail
 clear hx2 gk
 go_loopw [8,19] (λev iv wr=>∃(i:Nat),iv=.int .i64 i/\i<=NN/\Hid (ev=.int .i64 (Wk.qM t K i))/\Hid (Below w.heap.size w wr)) (λ_ iv _=>NN-(intOf iv).toNat)
 case atStart=>exact⟨0,rfl,nO _,eu rfl,HB2⟩
 case round=>
  obtain⟨i,rfl,hi,HC,HB⟩:=hrel;obtain⟨c,hc⟩:=my (Wk.qM t K i);have hcv:=HC.out;rw[hc]at hcv;subst hcv;clear HC;by_cases hlt:i<NN
  ·obtain⟨x,hx⟩:=pG t i (by rw[ax.out];omega);obtain⟨nb,no,ka,kc,rfl,c0,c1,c2,c3,c4,c5,-⟩:=HX.out wr HB.out i x hx;have gi:(i:Int)<(NN:Int):=by omega
   have hst:=Wk.ET (k:=K) hx;rw[hc]at hst;obtain⟨w4,hw4⟩:=my (wr.alloc (.cells #[.int .i64 x.k,.int .i64 x.f,.int .i64 x.t,.int .i64 x.u,.slice ka x.ks.length kc,.bool x.y] 37));have ah:=eu (HB.out.trans ((hw4▸mr wr _:Below wr.heap.size wr w4).mono HB.out.size));obtain⟨bn,hbn⟩:=my (wr.heap.size);have d1:w4.cell? ⟨bn,1,none⟩=some (.int .i64 x.f):=by rw[<-hw4,<-hbn];exact at_new rfl
   have d2:w4.cell? ⟨bn,2,none⟩=some (.int .i64 x.t):=by rw[<-hw4,<-hbn];exact at_new rfl
   obtain⟨aa,ai⟩:=mR hw4 hbn;by_cases h1:x.f<=K
   ·by_cases h2:K<x.t
    ·rw[gu (by unfold Wk.zX;rw[oP h1,oP h2];rfl)]at hst;have HS:=eu (show Value.int .i64 (i:Int)=.int .i64 (Wk.qM t K (i+1))by rw[hst]);clear hst hx hw4 hbn hc;go_upto_region 8 with fail
     rw[ai.out,aa.out];clear aa c0 c1 c2 c3 c4 c5;go_wp2_with fail
     go_roundw
     case rel=>exact⟨i+1,by go_num,by omega,HS,ah⟩
     case measure=>simp[intOf];omega
    rw[fu (by unfold Wk.zX;rw[oP h1,nK h2];simp)]at hst;have HS:=eu (show Value.int .i64 c=.int .i64 (Wk.qM t K (i+1))by rw[hst]);clear hst hx hw4 hbn hc;go_upto_region 8 with fail
    rw[ai.out,aa.out];clear aa c0 c1 c2 c3 c4 c5;go_wp2_with fail
    go_roundw
    case rel=>exact⟨i+1,by go_num,by omega,HS,ah⟩
    case measure=>simp[intOf];omega
   rw[fu (by unfold Wk.zX;rw[nK h1];simp)]at hst;have HS:=eu (show Value.int .i64 c=.int .i64 (Wk.qM t K (i+1))by rw[hst]);clear hst hx hw4 hbn hc;go_upto_region 8 with fail
   rw[ai.out,aa.out];clear aa c0 c1 c2 c3 c4 c5;go_wp2_with fail
   go_roundw
   case rel=>exact⟨i+1,by go_num,by omega,HS,ah⟩
   case measure=>simp[intOf];omega
  obtain rfl:i=NN:=by omega
  have av:c=V:=by rw[<-hc,az.out]
  have HD:=eu (HQ.out wr HB.out);rw[<-av]at HD;clear hlt HQ hc av;go_wp2_with fail
  first|exact HD.out|(go_ret;exact HD.out)
end
section
open Go.RowKit
open Sq
open Ar
open Fl (Tk)
structure Tr(b:ByteArray)(d:Nat)(l:List Tk)(T:List Nd):Prop where
 ck:Ck T l.length
 NK:Rw.pI 0 l
 len:l.length<=b.size
 sz:T.length<=1+5*l.length
 kids:∀x∈T,x.ks.length<=T.length
 toks:l=Sc.tokens (Sc.ng b)
 tree:T=(Ps.tree (Sc.ng b) d).2.1
theorem Gg(b:ByteArray)(d:Nat)(hb:b.size<=16384)(h1:1<=d)(h50:d<=50):Tr b d (Sc.tokens (Sc.ng b)) (Ps.tree (Sc.ng b) d).2.1:=by
 have htl:=Di (Sc.ng b);have hti:=Rw.xM (Sc.ng b);have hnl:=Sc.rF b;have e:(Ps.tree (Sc.ng b) d).2.1=(Ps.read (Sc.tokens (Sc.ng b)) d).t:=by unfold Ps.tree;rw[fu (by omega)]
 obtain⟨l,hl⟩:=my (Sc.tokens (Sc.ng b));rw[e,hl];rw[hl]at htl hti;have hrd:=(Ps.S7 l d hti (by omega)).1;have h3:=Ps.zK (depth:=d) hti (Rw.mQ l) (Ps.start l) (λr hr=>⟨Ps.rows_ok l r hr,nO _⟩) (Ps.zL l (by omega)) (nO _);have h4:=Ps.yZ (depth:=d) hti (Rw.mQ l) (Ps.start l) (λr hr=>⟨Ps.rows_ok l r hr,nO _⟩) (Ps.zL l (by omega)) (by show(um (l.length:Int)).length<=1+5*0;unfold um;rw[fu (by omega)];exact mJ _);refine⟨hrd,hti,by omega,?_,Ft.Gy hrd,hl.symm,?_⟩
 ·unfold Ps.read;omega
 rw[e,hl]
theorem Gh(w:World)(bv:Value)(b:ByteArray)(d:Nat)(hb:uG w bv b)(hz:b.size<=16384)(h1:1<=d)(h50:d<=50):
 Calls prog 8 #[bv,.int .i64 d] w λe w'=>∃ta tc na nc dv,e=.returned (.tuple #[.slice ta (Sc.tokens (Sc.ng b)).length tc,.agg #[.slice na (Ps.tree (Sc.ng b) d).2.1.length nc],dv])/\Reads qB w' (.slice ta (Sc.tokens (Sc.ng b)).length tc) (Sc.tokens (Sc.ng b))/\qH w' (.slice na (Ps.tree (Sc.ng b) d).2.1.length nc) (Ps.tree (Sc.ng b) d).2.1/\Below w.heap.size w w':=by
 refine(Xa w bv b d hb hz h1 h50).mono ?_;rintro e w' ⟨tv,nv,dv,L,rfl,ht,hO,hL,hd,hB⟩;have e1:(Ps.tree (Sc.ng b) d).1=Sc.tokens (Sc.ng b):=by unfold Ps.tree;rw[fu (by omega)]
 have hR:=Reads.mW (E:=qB) ht;rw[e1]at hR;have hN:=hO.nodes;rw[hL]at hN;obtain⟨ta,tc,rfl⟩:=hR.shape;obtain⟨na,nc,rfl⟩:=hN.shape;exact⟨ta,tc,na,nc,dv,rfl,hR,hN,hB⟩
theorem Xz:(Wk.QW (Sc.tokens [97]) (Ps.tree [97] 5).2.1 9=-1)/\(Wk.QW (Sc.tokens [97]) (Ps.tree [97] 5).2.1 0=2):=by decide+kernel
theorem BI(w:World):Calls prog 7 #[] w λe w'=>e=.returned (.bool true)/\Below w.heap.size w w':=by
 obtain⟨Q,hQ⟩:=my ((λe (w':World)=>e=Ending.returned (.bool true)/\Below w.heap.size w w'));have HQ:=eu (λw' (h:Below w.heap.size w w')=>show Q (.returned (.bool true)) w' from by rw[<-hQ];exact⟨rfl,h⟩);rw[hQ];obtain⟨w1,hw1⟩:=my (w.alloc (.cells #[.int .u8 97] 5 (1,2)));have hb1:Below w.heap.size w w1:=hw1▸mr w _;have hbs:uG w1 (.slice (some ⟨w.heap.size,0,none⟩) 1 1) ⟨#[97]⟩:=by rw[<-hw1];exact Ph w [97] _ 1 _ rfl (by decide) rfl
 have HT:=eu (Gh w1 _ _ 5 hbs (by decide) (by decide) (by decide));have hna:Sc.ng ⟨#[97]⟩=[97]:=rfl;rw[hna]at HT;have htr:=Gg ⟨#[97]⟩ 5 (by decide) (by decide) (by decide);rw[hna]at htr;obtain⟨i1,i2⟩:=Xz;obtain⟨l,hl⟩:=my (Sc.tokens [97]);obtain⟨T,hT⟩:=my ((Ps.tree [97] 5).2.1);rw[hl,hT]at HT htr i1 i2;have hsz:=htr.sz;have hln:=htr.len;have ah:(⟨#[97]⟩:ByteArray).size=1:=rfl;have av:=eu htr;obtain⟨NL,aa⟩:=my (l.length);obtain⟨NN,ae⟩:=my (T.length);obtain⟨ax,ay⟩:=mR aa ae;rw[aa,ae]at HT;have aB:NL<=1:=by omega
 have aC:NN<=6:=by omega
 obtain⟨HI1,HI2,HW1,HB1⟩:=qg i1 i2 hw1 hb1;have hcv:=Lib.run_convert_bytes_const (P:=prog) w 23 5 #[.int .u8 97] 1 1 underlying23 underlying5;clear hQ hw1 hb1 hbs hna htr hl hT aa ae hsz hln ah i1 i2
 go_enter func7,ntmps7
 go_wp2_with fail
 rw[HW1.out];refine HT.out.mono ?_;rintro e w2 ⟨ta,tc,na,nc,dv,rfl,hR,hN,hb2⟩;obtain⟨bt,hbt⟩:=my (w2.heap.size);obtain⟨w3,hw3⟩:=my (w2.alloc (.cells #[.slice na NN nc] 28));have hb3:Below w2.heap.size w2 w3:=hw3▸mr w2 _;have c3:w3.cell? ⟨bt,0,none⟩=some (.slice na NN nc):=by rw[<-hw3,<-hbt];exact at_new rfl
 have ai:=eu (λW (hW:Below w3.heap.size w3 W) a=>Xq W (.slice ta NL tc) (.slice na NN nc) l 0 T a ((hR.below hb3).below hW) av.out.NK (by rw[ax.out];omega) ((hN.below hb3).below hW) (by rw[ay.out];omega));have HB3:=eu (lu (lu HB1.out hb2) hb3);obtain⟨az,HW3,aA⟩:=nY c3 hw3 hbt;clear hR hN hb2 hb3 hw3 hbt HW1 HT hcv;go_wp2_with fail
 rw[aA.out,HW3.out];clear HW3;refine(Ad na NN nc w3).mono ?_;rintro e w4 ⟨rfl,hb4⟩;have af:=eu hb4;clear c3 hb4;go_wp2_with fail
 refine(ai.out w4 af.out 9).mono ?_;rintro e w5 ⟨rfl,hb5⟩;rw[HI1.out];have ag:=eu (lu af.out hb5);have c5:=ku ag.out az.out;clear hb5 af;go_wp2_with fail
 refine(Ad na NN nc w5).mono ?_;rintro e w6 ⟨rfl,hb6⟩;have aj:=eu (lu ag.out hb6);clear c5 hb6 ag;go_wp2_with fail
 refine(ai.out w6 aj.out 0).mono ?_;rintro e w7 ⟨rfl,ak⟩;rw[HI2.out];have HD:=eu (HQ.out w7 (lu (lu HB3.out aj.out) ak));clear ak;go_wp2_with fail
 first|exact HD.out|(go_ret;exact HD.out)
end
end Go.Proofs.Ytfbiffdmhcjhbaa

/- The law correctorlaw13.WalkIn: whatever the input, the call returns true, and each argument reads afterwards as it read before. Conditions: none but those of the form (the arguments can be read as data, each string and slice within the reach of the form; no package-level variable is listed).
   The idea stands in the walk (Wli) and in what it imports; this text is the frame. -/
import Derived.Test.YtfbiffdmhcjhbaaZa32
import Derived.Test.YtfbiffdmhcjhbaaZa34
import Derived.Test.YtfbiffdmhcjhbaaZa35
import Derived.ChangeOld
import Derived.Deep.DeepHandedRow
import Derived.Shelf.Slices.Reverse
import Derived.ShutString
import Derived.Sort.OwnSortedInts
import Derived.Test.YtfbiffdmhcjhbaaRows
set_option linter.all false
set_option maxHeartbeats 16000000
set_option maxRecDepth 100000
set_option synthInstance.maxSize 4000
set_option synthInstance.maxHeartbeats 0
namespace Go.Proofs.Ytfbiffdmhcjhbaa
open Go.RowKit Go.Proofs.Try
def US:=@trodAll_cons_mk
section
open Go.Shelf Go.RowKit
def Ig:Go.Shelf.Ren:=⟨fun|112=>31|n=>n,fun|0=>0|3=>3|4=>4|28=>22|n=>n,λn=>n⟩
theorem KW:Lays.n112 prog Ig:={
 mixed:=by kernel_rfl,
 f112:=XE func31 (by kernel_rfl),
 t0:=underlying0,
 a0:=isAgg0,
 z0:=sizeOf0,
 v0:=zeroValue0,
 t3:=underlying3,
 a3:=isAgg3,
 z3:=sizeOf3,
 v3:=zeroValue3,
 t4:=underlying4,
 a4:=isAgg4,
 z4:=sizeOf4,
 v4:=zeroValue4,
 t28:=underlying22,
 a28:=isAgg22,
 z28:=sizeOf22,
 v28:=zeroValue22}
theorem Hm(zs:List Int):encI.all zs=zs.map (Value.int .i64):=by
 induction zs with
 |nil=>rfl
 |cons z r ih=>
  show Value.int .i64 z::encI.all r=_;rw[ih];rfl
theorem Ih(w:World)(v:Value)(zs:List Int)(B:Nat)(h:w.ownsRow B 3 1 v zs.length (encI.all zs)):
 Calls prog 31 #[v] w λe w'=>e=.returned (.tuple #[])/\w'.ownsRow B 3 1 v zs.length (encI.all zs.reverse)/\w.grownBy w' v.ownBlock:=by
 rcases h.2 with⟨h1,h2⟩|⟨g,cap,cur,hv,hg,hh,hn,hcp,hcs,ht⟩
 ·have hz:zs=[]:=We.1 h2;subst hz h1;refine(Any.slices_Reverse_int_empty KW none 0 w).mono ?_;rintro e w' ⟨rfl,rfl⟩;exact⟨rfl,h,rfl,rfl,rfl,mJ _,λ_ _ _=>rfl⟩
 subst hv;have hl:zs.length<=9223372036854775807:=by simp only[Go.maxLen]at hcp;omega
 rw[Lm,Hm]at ht;refine(Any.slices_Reverse_int KW g 0 cap zs w (holds_of_blockI hh ht) hl).mono ?_;rintro e w' ⟨rfl,n,rfl⟩;have e0:∀W:World,Go.Sort.grow W #[]=W:=λW=>by simp[Go.Sort.grow]
 have h5:=ownsRow_sortedI (w:=w) (n:=n) (os:=#[]) (ss:=zs) (ts:=zs.reverse) (by simp) hg hh hn hcp hcs;have h6:=grownBy_sortedI (w:=w) (g:=g) (n:=n) (os:=#[]) zs.reverse.toArray;rw[e0]at h5 h6;refine⟨rfl,?_,h6⟩;rw[Hm];exact h5
end
section
open Go.RowKit
open Sq
open Ar
open Fl (Tk)
theorem QJ{l:List Nd}{k:Int}(h:(l.length:Int)<=k):Wk.rE l k=[]:=by
 unfold Wk.rE;cases l.length with
 |zero=>rfl
 |succ f=>
  rw[Wk.yL];split
  ·rfl
  rw[xQ (by omega)]
theorem TJ{l:List Nd}(hg:Ar.bu l):∀k:Int,(Wk.rE l k).length<=l.length:=by
 have key:∀(f:Nat)(k:Int),(Wk.yL l f k).length<=f:=by
  intro f
  induction f with
  |zero=>intro k;exact mJ _
  |succ f ih=>
   intro k;rw[Wk.yL];split
   ·exact nO _
   split
   ·exact nO _
   rw[nI];exact Nat.succ_le_succ (ih _)
 exact λk=>key _ k
theorem Xd(w:World)(nv:Value)(l:List Nd)(k:Int)(hN:qH w nv l)(hg:Ar.bu l)(hl:l.length<=1000000)(hk1:-1000000<=k):
 Calls prog 16 #[.agg #[nv],.int .i64 k] w λe w'=>∃v,e=.returned v/\w'.ownsRow w.heap.size 3 1 v (Wk.rE l k).length (encI.all (Wk.rE l k).reverse)/\Below w.heap.size w w':=by
 obtain⟨na,nc,rfl⟩:=hN.shape;obtain⟨Q,hQ⟩:=my ((λe (w':World)=>∃v,e=Ending.returned v/\w'.ownsRow w.heap.size 3 1 v (Wk.rE l k).length (encI.all (Wk.rE l k).reverse)/\Below w.heap.size w w'));have HQ:=eu (λw' v (h1:w'.ownsRow w.heap.size 3 1 v (Wk.rE l k).length (encI.all (Wk.rE l k).reverse))(h2:Below w.heap.size w w')=>show Q (.returned v) w' from by rw[<-hQ];exact⟨v,rfl,h1,h2⟩);rw[hQ];have HX:=eu (λW (hW:Below w.heap.size w W) j x hj=>(hN.below hW).at_ j x hj);have HG:=eu hg;obtain⟨NN,ag⟩:=my (l.length);have ah:=eu ag;rw[ag]at hl⊢;obtain⟨w1,hw1⟩:=my (w.alloc (.cells #[.slice na NN nc] 34));have hb1:Below w.heap.size w w1:=hw1▸mr w _;obtain⟨bx,hbx⟩:=my (w.heap.size);have hx1:w1.cell? ⟨bx,0,none⟩=some (.slice na NN nc):=by rw[<-hw1,<-hbx];exact at_new rfl
 have hbk:w1.heap[bx]?=some (.cells #[.slice na NN nc] 34 (0,0)):=by rw[<-hw1,<-hbx];exact rA _ _
 obtain⟨HW1,az,HB1,aA⟩:=qg hw1 hbx hb1 hbk;have aB:=eu (show w1.ownsRow w.heap.size 3 1 (.slice none 0 0) ([]:List Int).length (encI.all [])from qG encI _ _);clear hQ hg ag hw1 hbx hb1 hbk hN
 go_enter func16,ntmps16
 go_upto_region 1 with fail
 rw[HW1.out,az.out];clear HW1;go_wp2_with fail
 clear hx1
 go_loopw [1,5,6] (λkv pv bv wr=>∃(j b:Int)(P:List Int),kv=.int .i64 j/\bv=.int .i64 b/\-1000000<=j/\b<=NN/\0<=b/\Hid (P++Wk.rE l j=Wk.rE l k)/\Hid (j<b\/Wk.rE l j=[])/\Hid (wr.ownsRow w.heap.size 3 1 pv P.length (encI.all P))/\Hid (Below w.heap.size w wr)/\Hid (wr.heap[bx]?=some (.cells #[.slice na NN nc] 34 (0,0)))) (λ_ _ bv _=>(intOf bv).toNat)
 case atStart=>exact⟨k,NN,[],rfl,rfl,hk1,by omega,by omega,eu rfl,eu (by
  by_cases h:k<(NN:Int)
  ·exact .inl h
  exact .inr (QJ (by rw[ah.out];omega))),aB,HB1,aA⟩
 case round=>
  obtain⟨j,b,P,rfl,rfl,hj0,hb1,hb0,HP,HE,HO,HB,HK⟩:=hrel;obtain⟨pa,pc,hpv⟩:=(Reads.mW (E:=encI) HO.out).shape;obtain⟨PN,ai⟩:=my (P.length);rw[ai]at hpv;subst hpv;have aj:=eu ai;clear ai;by_cases hj:0<=j/\j<b
  ·obtain⟨h1,h2⟩:=hj;obtain⟨i,rfl⟩:∃i:Nat,j=(i:Int):=⟨j.toNat,by omega⟩
   obtain⟨x,hx⟩:=pG l i (by rw[ah.out];omega);have hu:=HG.out.up i x hx;have hou:=Wk.Hd HG.out hx;have hpl:PN<=1000000:=by
    have h9:=TJ HG.out k;rw[<-HP.out,oq,aj.out,ah.out]at h9;omega
   have aC:=eu (show(P++[(i:Int)])++Wk.rE l x.u=Wk.rE l k by rw[<-HP.out,hou];simp);have aD:=eu (show x.u<(i:Int)\/Wk.rE l x.u=[]from .inl hu.2);have ak:=eu (show P.length+1<=maxLen by rw[aj.out];simp only[maxLen];omega);have av:=eu (show(P.length+1)*8<=140737488355328 by rw[aj.out];omega);have af:=eu HB.out.size;have aJ:(0:Int)<=(i:Int):=by omega
   have ax:=eu hx;have aK:-1<=x.u:=hu.1;have hu2:x.u<(i:Int):=hu.2
   clear hou hu hx HP HE;go_upto_region 5 with(at_builtin;go_must (refine qm VW rfl (.tmp 17) (.tmp 19) rfl w.heap.size _ P (i:Int) _ rfl rfl HO.out rfl ak.out av.out af.out ?_;intro v4 w4 aa hg4))
   have hb4:Below w.heap.size w w4:=(HB.out.trans ((mr wr _).mono af.out)).grown hg4 (by have h9:=af.out;simp;omega) (λq hq=>(HO.out.lt q hq).1);have hk4:w4.heap[bx]?=some (.cells #[.slice na NN nc] 34 (0,0)):=by
    have h9:(wr.alloc (.cells #[.int .i64 (i:Int)] 3)).heap[bx]?=some (.cells #[.slice na NN nc] 34 (0,0)):=((mr wr _).block bx (nQ HK.out)).trans HK.out;exact(hg4.block bx (nQ h9) (λe'=>mV HO.out HK.out (by decide) e'.symm)).trans h9
   have c0:w4.cell? ⟨bx,0,none⟩=some (.slice na NN nc):=(nz hk4 0).trans rfl;obtain⟨nb,no,ka,kc,rfl,-,-,-,cu,-,-,-⟩:=HX.out w4 hb4 i x ax.out;have gi:(i:Int)<(NN:Int):=by omega
   obtain⟨aF,aG,aH⟩:=nY aa hb4 hk4;clear aa hg4 hb4 hk4 HO HB HK ak av af ax;go_wp2_with fail
   clear c0 cu
   go_roundw
   case rel=>exact⟨x.u,(i:Int),P++[(i:Int)],rfl,rfl,by omega,by omega,by omega,aC,aD,aF,aG,aH⟩
   case measure=>simp[intOf];omega
  have hoe:Wk.rE l j=[]:=by
   rcases HE.out with h|h
   ·exact Wk.Ha (by omega)
   exact h
  have ay:P=Wk.rE l k:=by rw[<-HP.out,hoe,rD]
  have HR:=eu (Ih wr (.slice pa PN pc) P w.heap.size HO.out);have aI:=eu ay;clear hoe ay HP HE;have HD:=eu (λw' (h1:w'.ownsRow w.heap.size 3 1 (.slice pa PN pc) P.length (encI.all P.reverse))(h2:wr.grownBy w' (Value.slice pa PN pc).ownBlock)=>HQ.out w' (.slice pa PN pc) (by rw[<-aI.out];exact h1) (HB.out.grown h2 HB.out.size (λq hq=>(HO.out.lt q hq).1)));by_cases h1:0<=j
  ·have g1:¬j<b:=λh=>hj ⟨h1,h⟩
   clear hj;go_wp2_with fail
   refine HR.out.mono ?_;rintro e w5 ⟨rfl,h5,h6⟩;have ae:=eu (HD.out w5 h5 h6);clear h5 h6 HD HR;go_wp2_with fail
   first|exact ae.out|(go_ret;exact ae.out)
  clear hj;go_wp2_with fail
  refine HR.out.mono ?_;rintro e w5 ⟨rfl,h5,h6⟩;have ae:=eu (HD.out w5 h5 h6);clear h5 h6 HD HR;go_wp2_with fail
  first|exact ae.out|(go_ret;exact ae.out)
end
section
open Go.RowKit
open Sq
open Ar
open Fl (Tk)
theorem EX{w:World}{B g n cap:Nat}{L:List Int}(h:w.ownsRow B 3 1 (.slice (some ⟨g,0,none⟩) n cap) L.length (encI.all L)){j:Nat}{d:Int}(hd:L[j]?=some d):w.cell? ⟨g,j,none⟩=some (.int .i64 d):=by
 have h5:=h.cells (g:=g) rfl _ _ ((qh encI L j d hd 0 (by decide)).trans rfl);rw[nX,qz]at h5;rw[show j*encI.k+0=j from by show j*1+0=j;omega]at h5;exact h5
theorem QK{l:List Nd}{n:Int}(h:Ck l n){m:Nat}(hm:m<l.length):(Wk.rE l m).reverse[0]?=some 0/\∃J,(Wk.rE l m).length=J+1/\J<l.length/\(Wk.rE l m).reverse[J]?=some (m:Int):=by
 obtain⟨h1,h2,h3⟩:=Wk.QA h m hm;obtain⟨L,hL⟩:=my (Wk.rE l m);rw[hL]at h1 h2 h3⊢;have hl:0<L.length:=by
  cases L with
  |nil=>simp at h1
  |cons a r=>simp
 refine⟨?_,L.length-1,by omega,by omega,?_⟩
 ·rw[V9 hl,show L.length-1-0=L.length-1 from rfl,<-Rb];exact h2
 rw[V9 (by omega),show L.length-1-(L.length-1)=0 by omega,<-List.head?_eq_getElem?];exact h1
theorem TK{l:List Tk}{T:List Nd}(ht:Rw.pI 0 l)(hc:Ck T l.length){a:Nat}(hz:∃z,l.getLast?=some z/\a<z.2.2):
 ∃(m f t:Nat)(y:Nd),Wk.QW l T (a:Int)=(m:Int)/\m<T.length/\T[m]?=some y/\y.f=(f:Int)/\y.t=(t:Int)/\f<=t/\t<=l.length/\(Wk.oF l f t).1<=a/\a<(Wk.oF l f t).2/\
  ∀z∈y.ks,∃(j f' t':Nat)(c:Nd),z=(j:Int)/\T[j]?=some c/\c.f=(f':Int)/\c.t=(t':Int)/\f'<=t'/\t'<=l.length/\¬((Wk.oF l f' t').1<=a/\a<(Wk.oF l f' t').2):=by
 obtain⟨z,hz1,hz2⟩:=hz;obtain⟨i,x,e1,e2,e3,e4,e5⟩:=Vz ht (a:=(a:Int)) (by omega) ⟨z,hz1,by omega⟩;obtain⟨m,y,f1,f2,f3,f4,f5,f6⟩:=Wk.MW hc (k:=(i:Int)) (by omega) (by omega);have hy:=Wk.all_in hc m y f3;obtain⟨f,hf⟩:∃f:Nat,y.f=(f:Int):=⟨y.f.toNat,by omega⟩
 obtain⟨t,ht'⟩:∃t:Nat,y.t=(t:Int):=⟨y.t.toNat,by omega⟩
 have hs:=CW ht e3 (show f<=i by omega) (show i<t by omega) (by omega);refine⟨m,f,t,y,?_,f2,f3,hf,ht',by omega,by omega,by omega,by omega,?_⟩
 ·unfold Wk.QW;rw[e1,fu (by omega),f1]
 intro z aa;obtain⟨j,c,g1,g2,g3,g4⟩:=f6 z aa;have hcj:=Wk.all_in hc j c g2;obtain⟨f',hf'⟩:∃f':Nat,c.f=(f':Int):=⟨c.f.toNat,by omega⟩
 obtain⟨t',ht2⟩:∃t':Nat,c.t=(t':Int):=⟨c.t.toNat,by omega⟩
 exact⟨j,f',t',c,g1,g2,hf',ht2,by omega,by omega,QB ht e3 (by omega) (by omega) (by omega) (by omega) (by omega)⟩
theorem Ii(v0:Value)(l0:List Int)(v1:Value)(s1:ByteArray)(n0:Int)(w:World)(h0:xU .i64 w v0 l0)(h1:uG w v1 s1)(_:(Lit.int .i64 n0).wf=true):
 Calls prog 4 #[v0,v1,.int .i64 n0] w λe w'=>e=.returned (.bool true)/\Below w.heap.size w w':=by
 obtain⟨Q,hQ⟩:=my ((λe (w':World)=>e=Ending.returned (.bool true)/\Below w.heap.size w w'));have HQ:=eu (λw' (h:Below w.heap.size w w')=>show Q (.returned (.bool true)) w' from by rw[<-hQ];exact⟨rfl,h⟩);rw[hQ];have HK:=eu (λW=>BI W);have aO:=eu (λW (hW:Below w.heap.size w W)=>G8 v0 l0 v1 s1 W (h0.below hW) (h1.below hW));clear hQ h0 h1
 go_enter func4,ntmps4
 go_wp2_with fail
 refine(HK.out w).mono ?_;rintro e w1 ⟨rfl,hb1⟩;have HB1:=eu hb1;clear HK hb1;go_wp2_with fail
 refine(aO.out w1 HB1.out).mono ?_;rintro e w2 ⟨bv,b,rfl,hbs,hbz,hb2⟩;have HB2:=eu (lu HB1.out hb2);obtain⟨ba,bc,rfl⟩:=hbs.shape;obtain⟨bz,ag⟩:=my (b.size);obtain⟨ax,ay⟩:=mR ag hbs;rw[ag]at hbz⊢;clear hb2 aO hbs ag HB1;by_cases hb0:bz=0
 ·subst hb0;have HD:=eu (HQ.out w2 HB2.out);go_wp2_with fail
  first|exact HD.out|(go_ret;exact HD.out)
 obtain⟨a,ha,haw,aP⟩:=vW n0 bz (bz:Int) rfl (by omega) (by omega);have aQ:=eu aP;have z1:((bz:Int)==0)=false:=by simp;omega
 have z2:(bz==0)=false:=by simp;omega
 have h116:1<=20:=by decide
 have ah:20<=50:=by decide
 have ai:b.size<=16384:=by rw[ax.out];omega
 have HT:=Gh w2 _ b 20 ay.out ai h116 ah;have htr:=Gg b 20 ai h116 ah;have hnl:=Sc.rF b;have hend:=Jw (Sc.ng b) (by intro e;rw[e]at hnl;rw[ax.out]at hnl;simp at hnl;omega) (by omega);obtain⟨l,hl⟩:=my (Sc.tokens (Sc.ng b));obtain⟨T,hT⟩:=my ((Ps.tree (Sc.ng b) 20).2.1);rw[hl,hT]at HT htr;rw[hl]at hend;have hna:=TK htr.NK htr.ck (a:=a) (by obtain⟨z,e1,e2⟩:=hend;exact⟨z,e1,by rw[e2,hnl,ax.out];exact ha⟩);have hsz:=htr.sz;have hln:=htr.len;rw[ax.out]at hln HT;have aR:=eu htr;obtain⟨m,f,t,y,hat,aS,hy,aT,aU,hft,htl,hs1,hs2,aj⟩:=hna;have aG:=QK htr.ck aS;obtain⟨aV,aW,HY,bL⟩:=qg aG hat hy aj;have hkl:=htr.kids y (sI hy);obtain⟨NL,az⟩:=my (l.length);obtain⟨NN,aA⟩:=my (T.length);obtain⟨KN,aI⟩:=my (y.ks.length);obtain⟨aB,ak,aX⟩:=nY az aA aI;rw[az,aA]at HT;rw[aA]at aS hkl;rw[aI]at hkl;rw[az]at htl;obtain⟨sf,ae⟩:=my ((Wk.oF l f t).1);obtain⟨st,hst⟩:=my ((Wk.oF l f t).2);obtain⟨bM,bN⟩:=mR ae hst;rw[ae]at hs1;rw[hst]at hs2;have cB:NL<=400:=by omega
 have cK:NN<=2001:=by omega
 obtain⟨HT1,bO,bP⟩:=nY HT aT aU;have g1:¬((m:Int)<0):=by omega
 have g2:(m:Int)<(NN:Int):=by omega
 have g3:decide (NN<=m)=false:=nK (by omega);have g4:decide (a<sf)=false:=nK (by omega);have g5:¬((a:Int)<(sf:Int)):=by omega
 have g6:decide (st<=a)=false:=nK (by omega);have g7:¬((a:Int)>=(st:Int)):=by omega
 clear HT htr hl hT az aA aI hsz hln hbz ai h116 ah aP haw hnl hend hat hy aT aU aj aG ae hst hb0;go_wp2_with fail
 refine(aQ.out w2).mono ?_;rintro e cO ⟨rfl,rfl⟩;go_wp2_with fail
 refine HT1.out.mono ?_;rintro e w3 ⟨ta,tc,na,nc,dv,rfl,hR,hN,hb3⟩;obtain⟨bt,hbt⟩:=my (w3.heap.size);obtain⟨w4,hw4⟩:=my (w3.alloc (.cells #[.slice na NN nc] 28));have hb4:Below w3.heap.size w3 w4:=hw4▸mr w3 _;have c4:w4.cell? ⟨bt,0,none⟩=some (.slice na NN nc):=by rw[<-hw4,<-hbt];exact at_new rfl
 obtain⟨aY,HR4⟩:=mR (hN.below hb4) (hR.below hb4);have bQ:=eu (lu (lu HB2.out hb3) hb4);obtain⟨aZ,bf,bR⟩:=nY c4 hw4 hbt;clear hR hN hb3 hb4 hw4 hbt HT1 HB2 aQ ay z1 z2;go_upto_region 8 with fail
 rw[bR.out,bf.out];clear bf;go_wp2_with fail
 refine(Ad na NN nc w4).mono ?_;rintro e w5 ⟨rfl,hb5⟩;obtain⟨bo,aJ⟩:=my (w5.heap.size);obtain⟨w6,aC⟩:=my (w5.alloc (.cells #[.slice na NN nc] 34));have hb6:Below w5.heap.size w5 w6:=aC▸mr w5 _;have o6:w6.cell? ⟨bo,0,none⟩=some (.slice na NN nc):=by rw[<-aC,<-aJ];exact at_new rfl
 have bS:=eu (lu bQ.out (lu hb5 hb6));have aK:=eu (λW (hW:Below w6.heap.size w6 W)=>((aY.out.below hb5).below hb6).below hW);have bg:=eu (λW (hW:Below w6.heap.size w6 W)=>((HR4.out.below hb5).below hb6).below hW);have aL:=eu (λW (hW:Below w6.heap.size w6 W)=>ku hW (ku hb6 (ku hb5 aZ.out)));have bT:=eu (λW (hW:Below w6.heap.size w6 W)=>ku hW o6);have bn:=eu (λW kv k u y (f t:Nat)(hW:Below w6.heap.size w6 W)(h1:f<=t)(h2:t<=NL)=>OI W (.slice ta NL tc) kv l k u f t y (bg.out W hW) (by rw[aB.out];omega) h1 (by rw[aB.out];exact h2));obtain⟨bA,bU⟩:=mR aC aJ;have bB:=eu (Xq w6 (.slice ta NL tc) (.slice na NN nc) l 0 T a (bg.out w6 (mF _ _)) aR.out.NK (by rw[aB.out];omega) (aK.out w6 (mF _ _)) (by rw[ak.out];omega));have bV:=eu (λW (hW:Below w6.heap.size w6 W)=>Xd W (.slice na NN nc) T m (aK.out W hW) aR.out.ck.good (by rw[ak.out];omega) (by omega))
 have aM:=eu (λW (hW:Below w6.heap.size w6 W) i x (hi:T[i]?=some x)=>by
  have h:=aK.out W hW;rw[<-ak.out]at h
  exact h.at_ i x hi)
 clear c4 hb5 hb6 aC aJ aY HR4 aZ;go_upto_region 9 with fail
 rw[bU.out,bA.out];clear bA;go_wp2_with fail
 refine bB.out.mono ?_;rintro e w7 ⟨rfl,aD⟩;rw[aW.out];have bC:=eu aD;have c7:=aL.out w7 aD;obtain⟨nb,no,ka,kc,rfl,y0,y1,y2,y3,y4,y5,-⟩:=aM.out w7 aD m y HY.out;rw[bO.out]at y1;rw[bP.out]at y2;clear o6 aD bB;go_wp2_with fail
 refine(bn.out w7 _ _ _ _ f t bC.out hft htl).mono ?_;rintro e w8 ⟨rfl,bD⟩;rw[bM.out,bN.out];obtain⟨bs,hbs⟩:=my (w8.heap.size);obtain⟨w9,av⟩:=my (w8.alloc (.cells #[.int .i64 sf,.int .i64 st] 43));have bE:Below w8.heap.size w8 w9:=av▸mr w8 _;have s0:w9.cell? ⟨bs,0,none⟩=some (.int .i64 sf):=by rw[<-av,<-hbs];exact at_new rfl
 have s1:w9.cell? ⟨bs,1,none⟩=some (.int .i64 st):=by rw[<-av,<-hbs];exact at_new rfl
 have aF:=eu (lu bC.out (lu bD bE));have c9:=aL.out w9 aF.out;obtain⟨nb',no',cZ,df,he,-,-,-,-,bF,-,hks⟩:=aM.out w9 aF.out m y HY.out;injection he with he
 injection he with e1 e2
 subst e1 e2;rw[aX.out]at bF;obtain⟨bW,bG,ay⟩:=nY hks av hbs;clear c7 y0 y1 y2 y3 y4 y5 bD bE av hbs hks;go_upto_region 13 with fail
 rw[ay.out,bG.out];clear bG;go_wp2_with fail
 clear s0 s1 c9 bF
 go_loopw [75] (λiv wr=>∃(i:Nat),iv=.int .i64 i/\i<=KN/\Hid (Below w9.heap.size w9 wr)) (λiv _=>KN-(intOf iv).toNat)
 case atStart=>exact⟨0,rfl,nO _,eu (mF _ _)⟩
 case round=>
  obtain⟨i,rfl,hi,HB⟩:=hrel;by_cases hlt:i<KN
  ·obtain⟨z,hz⟩:=pG y.ks i (by rw[aX.out];exact hlt);obtain⟨j,f',t',c,rfl,hc,hcf,hct,bH,aH,hno⟩:=bL.out z (sI hz);have bX:=(nC.1 hc).1;rw[ak.out]at bX;rw[aB.out]at aH;obtain⟨kb,ko,rfl,cz⟩:=Bu (bW.out.below HB.out) i _ hz;have af:=eu (lu aF.out HB.out);have cr:=aL.out wr af.out;obtain⟨dh,di,ja,jc,he,x0,x1,x2,x3,x4,x5,-⟩:=aM.out wr af.out j c hc;injection he with he
   injection he with e1 e2
   subst e1 e2;rw[hcf]at x1;rw[hct]at x2;have i1:(i:Int)<(KN:Int):=by omega
   have i2:(j:Int)<(NN:Int):=by omega
   clear hz hc hcf hct;go_wp2_with fail
   refine(bn.out wr _ _ _ _ f' t' af.out bH aH).mono ?_;rintro e wa ⟨rfl,bI⟩;obtain⟨aa,ae⟩:∃aa,(Wk.oF l f' t').1=aa:=⟨_,rfl⟩
   obtain⟨st',hst⟩:∃st',(Wk.oF l f' t').2=st':=⟨_,rfl⟩
   rw[ae,hst];rw[ae,hst]at hno;obtain⟨bq,hbq⟩:=my (wa.heap.size);obtain⟨wb,hwb⟩:=my (wa.alloc (.cells #[.int .i64 aa,.int .i64 st'] 43));have hbb:Below wa.heap.size wa wb:=hwb▸mr wa _;have s0:wb.cell? ⟨bq,0,none⟩=some (.int .i64 aa):=by rw[<-hwb,<-hbq];exact at_new rfl
   have s1:wb.cell? ⟨bq,1,none⟩=some (.int .i64 st'):=by rw[<-hwb,<-hbq];exact at_new rfl
   have bJ:=eu (lu HB.out (lu bI hbb));obtain⟨bK,bY⟩:=mR hwb hbq;clear bI hbb hwb hbq ae hst cr x0 x1 x2 x3 x4 x5 cz;go_upto_region 19 with fail
   rw[bY.out,bK.out];clear bK;by_cases q1:aa<=a
   ·have q2:decide (a<st')=false:=nK (by omega);have q3:decide (aa<=a)=true:=oP q1;have q4:(aa:Int)<=(a:Int):=by omega
    have q5:¬((a:Int)<(st':Int)):=by omega
    clear q1 hno;go_wp2_with fail
    go_roundw
    case rel=>exact⟨i+1,by go_num,by omega,bJ⟩
    case measure=>simp[intOf];omega
   have q3:decide (aa<=a)=false:=nK q1;have q4:¬((aa:Int)<=(a:Int)):=by omega
   clear q1 hno;go_wp2_with fail
   go_roundw
   case rel=>exact⟨i+1,by go_num,by omega,bJ⟩
   case measure=>simp[intOf];omega
  obtain rfl:i=KN:=by omega
  have af:=eu (lu aF.out HB.out);have or:=bT.out wr af.out;clear hlt;go_wp2_with fail
  refine(bV.out wr af.out).mono ?_;rintro e wp ⟨pv,rfl,hown,hbp⟩;obtain⟨p0,J,hJ,bZ,pJ⟩:=aV.out;obtain⟨P,hP⟩:=my ((Wk.rE T m).reverse);rw[hP]at hown p0 pJ;have aN:P.length=J+1:=by rw[<-hP,pE,hJ]
  rw[hJ,<-aN]at hown;obtain⟨pg,pc,hpv,-,-,-,-⟩:=pP (E:=encI) hown (by omega);subst hpv;have d0:=EX hown p0;have dJ:=EX hown pJ;obtain⟨M,hM⟩:=my (P.length);rw[hM];rw[hM]at aN;rw[ak.out]at bZ;have m0:(0:Int)<(M:Int):=by omega
  have dm:0<M:=by omega
  have m1:(J:Int)<(M:Int):=by omega
  have m2:IntKind.i64.wrap ((M:Int)-1)=(J:Int):=by rw[show(M:Int)-1=(J:Int)by omega];exact qA _ (by omega)
  have m3:((m:Int)==(m:Int))=true:=by simp
  have HD:=eu (HQ.out wp (lu bS.out (lu af.out hbp)));clear hown hbp hP aN hJ p0 pJ hM or;go_wp2_with fail
  first|exact HD.out|(go_ret;exact HD.out)
end
namespace walkInDone
open Go.ChangeShapes Go.WideShapes Go.ChangeAt Go.RowKit
open Go.ChangeMaps (open_string shut_string)
theorem contract(H:Type)(enc:TypeId×Value->H)(W:World)(base:Nat)(args:Array Value)(ds gs:List (DataW H))(before:List MemPlace)
 (hval:∀(j:Nat) t v,Try.f4.params[j]?=some t->args[j]?=some v->Value.okWide prog W .any base t v)
 (hW:DataW.Whole enc prog Try.f4.params.toList Rows.walkInSpec.vars false W args.toList ds gs before):
 Calls prog 4 args W λe W'=>∃v,e=.returned v/\Rows.walkInSpec.post enc prog Try.f4 false true false false W args v W':=by
 have ae:=hW;obtain⟨p,q,aa,hV,rfl,hfz,hnd⟩:=hW;have hA:DataW.TrodAll enc prog W 0 (λ_=>true) true Try.f4.params.toList args.toList ds p:=aa;rw[params4]at hA hval;obtain⟨v0,ah,d0,ds0,p0,q0,hargs,rfl,rfl,h0,r0⟩:=trodAll_cons hA;obtain⟨v1,vs1,d1,ds1,p1,q1,rfl,rfl,rfl,h1,r1⟩:=trodAll_cons r0;obtain⟨v2,vs2,d2,ai,p2,q2,rfl,rfl,rfl,h2,r2⟩:=trodAll_cons r1;obtain⟨rfl,rfl,rfl⟩:=trodAll_nil r2;obtain rfl:args=#[v0,v1,v2]:=by cases args;simp_all
 obtain⟨rfl,rfl⟩:=trodVars_none hV;have k0:=h0;have af:∀x∈p0,x.block<W.heap.size:=by obtain⟨m,hm⟩:=k0;exact DataW.trod_lt m _ _ _ hm
 obtain⟨s0,w0⟩:=vo underlying22 underlying3 (by kernel_rfl) (hval 0 22 v0 rfl rfl) h0;have k1:=h1;have ag:∀x∈p1,x.block<W.heap.size:=by obtain⟨m,hm⟩:=k1;exact DataW.trod_lt m _ _ _ hm
 obtain⟨s1,w1⟩:=Dk (hval 1 23 v1 rfl rfl) h1;obtain⟨a2,rfl,rfl,rfl,w2⟩:=open_int underlying3 (hval 2 3 v2 rfl rfl) h2;clear aa hval;refine(Ii v0 s0 v1 s1 a2 W w0 w1 w2).mono λe W' ⟨he,qK⟩=>?_
 subst he;exact⟨_,rfl,_,_,_,[],_,[],ae,trodAll_mk1 (shut_bool underlying4 _),(US (Below.trod laidOut (by kernel_rfl) (xS (by kernel_rfl)) k0 qK af) (US (Below.trod laidOut (by kernel_rfl) (xS (by kernel_rfl)) k1 qK ag) (US (shut_int underlying3 w2) trodAll_mk0))),rfl,qK.frame _,λh=>by cases h⟩
theorem lifted(os:Os)(started:os.Started)(H:Type)(enc:TypeId×Value->H):
 ReturnsInHanded {} Try.checked os 4 .any (Rows.walkInSpec.pre6 enc prog Try.f4 Rows.walkInRow.domain false) (Rows.walkInSpec.post enc prog Try.f4 false true false false):=by
 refine returnsInHanded_of_change (C:=Try.checked) own started (by kernel_rfl) func4
  (ChangeSpec.witness6 (enc:=enc) (C:=Try.checked) false ⟨#[],#[.slice none 0 0,.slice none 0 0,.int .i64 0],[]⟩ 8 (by kernel_rfl) (by kernel_rfl) (by kernel_rfl) (by kernel_rfl)) ?_
 intro W base args ds gs before hval hW _ _;exact contract H enc W base args ds gs before hval hW
theorem said:Rows.WalkInSaid:=
 OpenClaim.holds_of_wide 4 Try.f4 rfl rfl rfl rfl rfl rfl rfl ⟨rfl,rfl,rfl,rfl,rfl⟩ rfl rfl rfl rfl rfl (by kernel_rfl) func4 (by kernel_rfl)
  (xS (by kernel_rfl)) (by unfold Func.isWrapper;first|(rw[gu (by decide+kernel)];kernel_rfl)|(rw[fu (by decide+kernel)];exact⟨rfl,rfl⟩))
  (λos started H enc _=>lifted os started H enc)
#print axioms said
end walkInDone
end Go.Proofs.Ytfbiffdmhcjhbaa

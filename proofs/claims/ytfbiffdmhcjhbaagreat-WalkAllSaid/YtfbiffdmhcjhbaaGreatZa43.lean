import Derived.Test.YtfbiffdmhcjhbaaGreatZa40
set_option linter.all false
set_option maxHeartbeats 16000000
set_option maxRecDepth 100000
set_option synthInstance.maxSize 4000
set_option synthInstance.maxHeartbeats 0
namespace Go.Proofs.YtfbiffdmhcjhbaaGreat
open Go.RowKit Tryz
section
open Go.RowKit
open Sq
open Ar
open Fl (Tk)
theorem BU{l:List Nd}{k:Int}(h:(l.length:Int)<=k):Wk.kW l k=[]:=by
 unfold Wk.kW;cases l.length with
 |zero=>rfl
 |succ f=>
  rw[Wk.rY];split
  ·rfl
  rw[uV (by omega)]
theorem zZ{l:List Nd}(hg:Ar.bu l):∀k:Int,(Wk.kW l k).length<=l.length:=by
 have key:∀(f:Nat)(k:Int),(Wk.rY l f k).length<=f:=by
  intro f
  induction f with
  |zero=>intro k;exact fC _
  |succ f ih=>
   intro k;rw[Wk.rY];split
   ·exact gG _
   split
   ·exact gG _
   rw[gy];exact Nat.succ_le_succ (ih _)
 exact λk=>key _ k
theorem Rj(w:World)(nv:Value)(l:List Nd)(k:Int)(hN:iR w nv l)(hg:Ar.bu l)(hl:l.length<=1000000)(hk1:-1000000<=k):
 Calls prog 13 #[.agg #[nv],.int .i64 k] w λe w'=>∃v,e=.returned v/\w'.ownsRow w.heap.size 3 1 v (Wk.kW l k).length (encI.all (Wk.kW l k).reverse)/\Below w.heap.size w w':=by
 obtain⟨na,nc,rfl⟩:=hN.shape;obtain⟨Q,hQ⟩:=eX ((λe (w':World)=>∃v,e=Ending.returned v/\w'.ownsRow w.heap.size 3 1 v (Wk.kW l k).length (encI.all (Wk.kW l k).reverse)/\Below w.heap.size w w'));have HQ:=eu (λw' v (h1:w'.ownsRow w.heap.size 3 1 v (Wk.kW l k).length (encI.all (Wk.kW l k).reverse))(h2:Below w.heap.size w w')=>show Q (.returned v) w' from by rw[<-hQ];exact⟨v,rfl,h1,h2⟩);rw[hQ];have HX:=eu (λW (hW:Below w.heap.size w W) j x hj=>(hN.below hW).at_ j x hj);have HG:=eu hg;obtain⟨NN,ag⟩:=eX (l.length);have ah:=eu ag;rw[ag]at hl⊢;obtain⟨w1,hw1⟩:=eX (w.alloc (.cells #[.slice na NN nc] 36));have hb1:Below w.heap.size w w1:=hw1▸eZ w _;obtain⟨bx,hbx⟩:=eX (w.heap.size);have hx1:w1.cell? ⟨bx,0,none⟩=some (.slice na NN nc):=by rw[<-hw1,<-hbx];exact at_new rfl
 have hbk:w1.heap[bx]?=some (.cells #[.slice na NN nc] 36 (0,0)):=by rw[<-hw1,<-hbx];exact qj _ _
 obtain⟨HW1,az,HB1,aA⟩:=jk hw1 hbx hb1 hbk;have aB:=eu (show w1.ownsRow w.heap.size 3 1 (.slice none 0 0) ([]:List Int).length (encI.all [])from jq encI _ _);clear hQ hg ag hw1 hbx hb1 hbk hN
 go_enter func13,ntmps13
 go_upto_region 1 with fail
 rw[HW1.out,az.out];clear HW1;go_wp2_with fail
 clear hx1
 go_loopw [1,5,6] (λkv pv bv wr=>∃(j b:Int)(P:List Int),kv=.int .i64 j/\bv=.int .i64 b/\-1000000<=j/\b<=NN/\0<=b/\Hid (P++Wk.kW l j=Wk.kW l k)/\Hid (j<b\/Wk.kW l j=[])/\Hid (wr.ownsRow w.heap.size 3 1 pv P.length (encI.all P))/\Hid (Below w.heap.size w wr)/\Hid (wr.heap[bx]?=some (.cells #[.slice na NN nc] 36 (0,0)))) (λ_ _ bv _=>(intOf bv).toNat)
 case atStart=>exact⟨k,NN,[],rfl,rfl,hk1,by omega,by omega,eu rfl,eu (by
  by_cases h:k<(NN:Int)
  ·exact .inl h
  exact .inr (BU (by rw[ah.out];omega))),aB,HB1,aA⟩
 case round=>
  obtain⟨j,b,P,rfl,rfl,hj0,hb1,hb0,HP,HE,HO,HB,HK⟩:=hrel;obtain⟨pa,pc,hpv⟩:=(Reads.fJ (E:=encI) HO.out).shape;obtain⟨PN,ai⟩:=eX (P.length);rw[ai]at hpv;subst hpv;have aj:=eu ai;clear ai;by_cases hj:0<=j/\j<b
  ·obtain⟨h1,h2⟩:=hj;obtain⟨i,rfl⟩:∃i:Nat,j=(i:Int):=⟨j.toNat,by omega⟩
   obtain⟨x,hx⟩:=iT l i (by rw[ah.out];omega);have hu:=HG.out.up i x hx;have hou:=Wk.BI HG.out hx;have hpl:PN<=1000000:=by
    have h9:=zZ HG.out k;rw[<-HP.out,ig,aj.out,ah.out]at h9;omega
   have aC:=eu (show(P++[(i:Int)])++Wk.kW l x.u=Wk.kW l k by rw[<-HP.out,hou];simp);have aD:=eu (show x.u<(i:Int)\/Wk.kW l x.u=[]from .inl hu.2);have ak:=eu (show P.length+1<=maxLen by rw[aj.out];simp only[maxLen];omega);have av:=eu (show(P.length+1)*8<=140737488355328 by rw[aj.out];omega);have af:=eu HB.out.size;have aJ:(0:Int)<=(i:Int):=by omega
   have ax:=eu hx;have aK:-1<=x.u:=hu.1;have hu2:x.u<(i:Int):=hu.2
   clear hou hu hx HP HE;go_upto_region 5 with(at_builtin;go_must (refine jA Od rfl (.tmp 17) (.tmp 19) rfl w.heap.size _ P (i:Int) _ rfl rfl HO.out rfl ak.out av.out af.out ?_;intro v4 w4 aa hg4))
   have hb4:Below w.heap.size w w4:=(HB.out.trans ((eZ wr _).mono af.out)).grown hg4 (by have h9:=af.out;simp;omega) (λq hq=>(HO.out.lt q hq).1);have hk4:w4.heap[bx]?=some (.cells #[.slice na NN nc] 36 (0,0)):=by
    have h9:(wr.alloc (.cells #[.int .i64 (i:Int)] 3)).heap[bx]?=some (.cells #[.slice na NN nc] 36 (0,0)):=((eZ wr _).block bx (kg HK.out)).trans HK.out;exact(hg4.block bx (kg h9) (λe'=>fK HO.out HK.out (by decide) e'.symm)).trans h9
   have c0:w4.cell? ⟨bx,0,none⟩=some (.slice na NN nc):=(gQ hk4 0).trans rfl;obtain⟨nb,no,ka,kc,rfl,-,-,-,cu,-,-,-⟩:=HX.out w4 hb4 i x ax.out;have gi:(i:Int)<(NN:Int):=by omega
   obtain⟨aF,aG,aH⟩:=gW aa hb4 hk4;clear aa hg4 hb4 hk4 HO HB HK ak av af ax;go_wp2_with fail
   clear c0 cu
   go_roundw
   case rel=>exact⟨x.u,(i:Int),P++[(i:Int)],rfl,rfl,by omega,by omega,by omega,aC,aD,aF,aG,aH⟩
   case measure=>simp[intOf];omega
  have hoe:Wk.kW l j=[]:=by
   rcases HE.out with h|h
   ·exact Wk.xh (by omega)
   exact h
  have ay:P=Wk.kW l k:=by rw[<-HP.out,hoe,kH]
  have HR:=eu (Cq wr (.slice pa PN pc) P w.heap.size HO.out);have aI:=eu ay;clear hoe ay HP HE;have HD:=eu (λw' (h1:w'.ownsRow w.heap.size 3 1 (.slice pa PN pc) P.length (encI.all P.reverse))(h2:wr.grownBy w' (Value.slice pa PN pc).ownBlock)=>HQ.out w' (.slice pa PN pc) (by rw[<-aI.out];exact h1) (HB.out.grown h2 HB.out.size (λq hq=>(HO.out.lt q hq).1)));by_cases h1:0<=j
  ·have g1:¬j<b:=λh=>hj ⟨h1,h⟩
   clear hj;go_wp2_with fail
   refine HR.out.mono ?_;rintro e w5 ⟨rfl,h5,h6⟩;have ae:=eu (HD.out w5 h5 h6);clear h5 h6 HD HR;go_wp2_with fail
   first|exact ae.out|(go_ret;exact ae.out)
  clear hj;go_wp2_with fail
  refine HR.out.mono ?_;rintro e w5 ⟨rfl,h5,h6⟩;have ae:=eu (HD.out w5 h5 h6);clear h5 h6 HD HR;go_wp2_with fail
  first|exact ae.out|(go_ret;exact ae.out)
end
section
open Go.RowKit
open Sq
open Ar
open Fl (Tk)
namespace Wk
def lG(t:List Nd)(i:Nat):Nat:=(t.take i).countP (λx=>x.k==11)
theorem xM{t:List Nd}{i:Nat}{x:Nd}(h:t[i]?=some x):lG t (i+1)=lG t i+(if x.k=11 then 1 else 0):=by
 have hi:=(fT.1 h).1;have he:=(fT.1 h).2;unfold lG;rw[LP hi,xR,he,Qj];by_cases hk:x.k=11
 ·simp[hk]
 simp[hk]
end Wk
theorem NK(w:World)(nv:Value)(l:List Nd)(hN:iR w nv l)(hl:l.length<=1000000):
 Calls prog 19 #[.agg #[nv]] w λe w'=>e=.returned (.int .i64 (Wk.lG l l.length:Nat))/\Below w.heap.size w w':=by
 obtain⟨na,nc,rfl⟩:=hN.shape;have HX:=eu (λW (hW:Below w.heap.size w W) j x hj=>(hN.below hW).at_ j x hj);obtain⟨NN,ae⟩:=eX (l.length);have ai:=eu ae;rw[ae]at hl⊢;have hQ:∀w',Below w.heap.size w w'->(λe (w':World)=>e=Ending.returned (.int .i64 (Wk.lG l NN:Nat))/\Below w.heap.size w w') (.returned (.int .i64 (Wk.lG l NN:Nat))) w':=λw' h=>⟨rfl,h⟩
 obtain⟨Q,af⟩:=eX ((λe (w':World)=>e=Ending.returned (.int .i64 (Wk.lG l NN:Nat))/\Below w.heap.size w w'));rw[af]at hQ⊢;have HQ:=eu hQ;obtain⟨w1,hw1⟩:=eX (w.alloc (.cells #[.slice na NN nc] 36));have hb1:Below w.heap.size w w1:=hw1▸eZ w _;obtain⟨bx,hbx⟩:=eX (w.heap.size);have hx1:w1.cell? ⟨bx,0,none⟩=some (.slice na NN nc):=by rw[<-hw1,<-hbx];exact at_new rfl
 obtain⟨HW1,aj,HB1⟩:=gW hw1 hbx hb1;clear hQ af ae hw1 hbx hb1 hN
 go_enter func19,ntmps19
 go_upto_region 1 with fail
 rw[HW1.out,aj.out];clear HW1;go_wp2_with fail
 clear hx1
 go_loopw [3,9] (λev iv wr=>∃(i c:Nat),iv=.int .i64 i/\i<=NN/\ev=.int .i64 c/\c<=i/\Hid (c=Wk.lG l i)/\Hid (Below w.heap.size w wr)) (λ_ iv _=>NN-(intOf iv).toNat)
 case atStart=>exact⟨0,0,rfl,gG _,rfl,fC _,eu rfl,HB1⟩
 case round=>
  obtain⟨i,c,rfl,hi,rfl,hc,HC,HB⟩:=hrel;by_cases hlt:i<NN
  ·obtain⟨x,hx⟩:=iT l i (by rw[ai.out];omega);obtain⟨nb,no,ka,kc,rfl,c0,c1,c2,c3,c4,c5,-⟩:=HX.out wr HB.out i x hx;have gi:(i:Int)<(NN:Int):=by omega
   have hst:=Wk.xM hx;obtain⟨w4,hw4⟩:=eX (wr.alloc (.cells #[.int .i64 x.k,.int .i64 x.f,.int .i64 x.t,.int .i64 x.u,.slice ka x.ks.length kc,.bool x.y] 47));have ag:=eu (HB.out.trans ((hw4▸eZ wr _:Below wr.heap.size wr w4).mono HB.out.size));obtain⟨bn,hbn⟩:=eX (wr.heap.size);have d0:w4.cell? ⟨bn,0,none⟩=some (.int .i64 x.k):=by rw[<-hw4,<-hbn];exact at_new rfl
   obtain⟨aa,ah⟩:=fD hw4 hbn;by_cases h11:x.k=11
   ·rw[eT h11]at hst;have HS:=eu (show c+1=Wk.lG l (i+1)by rw[hst,<-HC.out]);have g11:(x.k==11)=true:=by simp[h11]
    clear hst hx h11 hw4 hbn;go_upto_region 5 with fail
    rw[ah.out,aa.out];clear aa c0 c1 c2 c3 c4 c5;go_wp2_with fail
    go_roundw
    case rel=>exact⟨i+1,c+1,by go_num,by omega,by go_num,by omega,HS,ag⟩
    case measure=>simp[intOf];omega
   rw[eQ h11]at hst;have HS:=eu (show c=Wk.lG l (i+1)by rw[hst,<-HC.out];rfl);have g11:(x.k==11)=false:=by simp[h11]
   clear hst hx h11 hw4 hbn;go_upto_region 5 with fail
   rw[ah.out,aa.out];clear aa c0 c1 c2 c3 c4 c5;go_wp2_with fail
   go_roundw
   case rel=>exact⟨i+1,c,by go_num,by omega,rfl,by omega,HS,ag⟩
   case measure=>simp[intOf];omega
  obtain rfl:i=NN:=by omega
  have HD:=eu (HQ.out wr HB.out);rw[<-HC.out]at HD;clear hlt HQ;go_wp2_with fail
  first|exact HD.out|(go_ret;exact HD.out)
end
end Go.Proofs.YtfbiffdmhcjhbaaGreat

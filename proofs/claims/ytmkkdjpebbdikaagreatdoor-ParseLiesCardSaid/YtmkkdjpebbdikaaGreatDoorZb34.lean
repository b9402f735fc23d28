import Derived.Test.YtmkkdjpebbdikaaGreatDoorZb32
import Derived.Test.YtmkkdjpebbdikaaGreatDoorZb33
set_option linter.all false
set_option maxHeartbeats 16000000
set_option maxRecDepth 100000
namespace Go.Proofs.YtmkkdjpebbdikaaGreatDoor
open Go.RowKit Go.Proofs.Tryz
section
open Go.RowKit
open Sq
open Ar
theorem ado(s:ByteArray)(f t:Nat):(Ps.part (Sc.eH s) f t).map UInt8.ofNat=(s.extract f t).data.toList:=by
 have h1:(s.extract f t).data.toList=(s.data.toList.drop f).take (t-f):=by
  rw[akd,akc]
 rw[h1];unfold Ps.part Sc.eH;rw[<-List.map_drop,<-aeu,XO];have e:(UInt8.ofNat∘λx:UInt8=>x.toNat)=id:=by
  funext x;simp
 first
  |rw[e,List.map_id]
  |simp[Function.comp_def]
end
section
open Go.RowKit
open Sq
open Ar
def DF(b:ByteArray)(x:Tk):Bool×List Nat:=((Qo.mI (x.1:Nat) (b.extract x.2.1 x.2.2).data.toList).2.2,(Qo.mI (x.1:Nat) (b.extract x.2.1 x.2.2).data.toList).2.1)
def DI(x:Tk)(k:Nat):Fl.Dg:=⟨4,x.2.1+k,x.2.1+k+1⟩
theorem BM(b:ByteArray)(x:Tk):Ps.iF (Sc.eH b) x=if x.1=16\/x.1=17 then(if(DF b x).1=true then[]else[(⟨3,x.2.1,x.2.2⟩:Fl.Dg)])++(DF b x).2.map (DI x)else[]:=by
 unfold Ps.iF DF;dsimp only;rw[ado];rfl
structure aeY(b:ByteArray)(x:Tk):Prop where
 lo:x.2.1<=x.2.2
 hi:x.2.2<=b.size
 len:(DF b x).2.length<=1000000
 le:∀k∈(DF b x).2,k<=1000000
theorem ami(b:ByteArray)(x:Tk)(h:aeY b x):(Ps.iF (Sc.eH b) x).length<=1000001:=by
 rw[BM];have:=h.len;split
 ·rw[iK,jl];split<;>simp<;>omega
 ·exact fP _
theorem BO(b:ByteArray):∀l:List Tk,(∀x∈l,aeY b x)->(l.flatMap (Ps.iF (Sc.eH b))).length<=l.length*1000001
 |[],_=>fP _
 |x::l,h=>by
  rw[IU,iK,iR,Dr,ahV];have h1:=ami b x (h x eG);have h3:=BO b l (λy hy=>h y (by simp[hy]));omega
theorem OC(w0 w:World)(rb:Nat)(c:Ctx)(q:Pr.QS)(lv:Value)(R:Nat->Prop)(hS:fF w0 w rb c q lv R)(hb:c.b.size<=100000)(hr:∀x∈c.l,aeY c.b x)(hd:q.s.d.length<=700000000000):
 Calls prog 25 #[RP rb] w (nW w0 w rb c lv R (.tuple #[]) {q with s:=⟨q.s.t,q.s.d++c.l.flatMap (Ps.iF (Sc.eH c.b))⟩}):=by
 have hcx:=hS.ctx;obtain⟨Q,hQ⟩:=eu (nW w0 w rb c lv R (.tuple #[]) {q with s:=⟨q.s.t,q.s.d++c.l.flatMap (Ps.iF (Sc.eH c.b))⟩});rw[hQ];obtain⟨ta,tc,av⟩:=hcx.toks.shape;have h1:=hS.tok.1;rw[av]at h1;obtain⟨NL,ah⟩:=eu (c.l.length);have bB:NL<=32768:=by rw[<-ah];exact hcx.size
 have hfl:∀k,((c.l.take k).flatMap (Ps.iF (Sc.eH c.b))).length<=40000000000:=λk=>by
  have h1:=BO c.b (c.l.take k) (λx hx=>hr x (Gl hx));have h3:(c.l.take k).length<=32768:=nX
  obtain⟨n,hn⟩:=eu ((c.l.take k).length);rw[hn]at h1 h3;clear hn;omega
 rw[ah]at h1
 have Vn:=dY (show fF w0 w rb c {q with s:=⟨q.s.t,q.s.d++(c.l.take 0).flatMap (Ps.iF (Sc.eH c.b))⟩} lv R/\FP w w rb R R from⟨by
  rw[vT,aen,nJ];exact hS,FP.refl _ _ _⟩)
 obtain⟨HQ,aW,aC,HR,aX,HD⟩:=kG hQ av ah hr hfl hd;obtain⟨aD,HB⟩:=fw hcx hb;clear hcx hQ av ah hfl hS hr hd hb
 go_enter func25,ntmps25
 go_wp2_with fail
 go_loopw [14] (λiv wr=>∃(k:Nat)(R':Nat->Prop),iv=.int .i64 k/\k<=NL/\Hid (fF w0 wr rb c {q with s:=⟨q.s.t,q.s.d++(c.l.take k).flatMap (Ps.iF (Sc.eH c.b))⟩} lv R'/\FP w wr rb R R')) (λiv _=>NL-(intOf iv).toNat)
 case atStart=>exact⟨0,R,rfl,fP _,Vn⟩
 case round=>
  obtain⟨k,R',rfl,hk,HP⟩:=hrel;by_cases hlt:k<NL
  ·obtain⟨x,hxk⟩:∃x,c.l[k]?=some x:=⟨_,fu (by rw[aC.out];exact hlt)⟩
   have hrr:=HR.out x (gW hxk);have hP:=HP.out;have hrw:=aD.out.toks.below hP.1.kL;rw[aW.out]at hrw;obtain⟨b,off,e,k0,k1,k2⟩:=iY hrw k x hxk;subst e;have hnext:(c.l.take (k+1)).flatMap (Ps.iF (Sc.eH c.b))=(c.l.take k).flatMap (Ps.iF (Sc.eH c.b))++Ps.iF (Sc.eH c.b) x:=by
    rw[Dq,hxk,ahI];congr 1;show List.flatMap _ [x]=_;rw[IU,aen,nJ]
   obtain⟨ax,aF⟩:=fw hnext hrr;obtain⟨bz,hbz⟩:=eu (wr.heap.size);obtain⟨x1,x2,x3⟩:=x;dsimp only at k0 k1 k2;obtain⟨W1,hW1⟩:=eu (wr.alloc (.cells #[.int .i64 (x1:Int),.int .i64 (x2:Int),.int .i64 (x3:Int)] 45));have Gc:Below wr.heap.size wr W1:=hW1▸dZ wr _;have kz:W1.heap[bz]?=some (.cells #[.int .i64 (x1:Int),.int .i64 (x2:Int),.int .i64 (x3:Int)] 45 (0,0)):=by rw[<-hW1,<-hbz];exact lz _ _
   have v0:W1.cell? ⟨bz,0,none⟩=some (.int .i64 (x1:Int)):=fq kz 0;have v1:W1.cell? ⟨bz,1,none⟩=some (.int .i64 (x2:Int)):=fq kz 1;have v2:W1.cell? ⟨bz,2,none⟩=some (.int .i64 (x3:Int)):=fq kz 2;have gk:(k:Int)<(NL:Int):=dS
   have zq:=dY (And.intro (hP.1.below Gc) (hP.2.trans (FP.below Gc)));obtain⟨HW1,ai⟩:=fw hW1 hbz;by_cases hq:x1=16\/x1=17
   ·have hx:=aD.out.text;obtain⟨pa,pc,hbv⟩:=hx.shape;have hsz:=HB.out;rw[hbv]at hx;obtain⟨vc,hsl,aj⟩:=af9 hx hrr.lo hrr.hi;obtain⟨sp,hsp⟩:=eu (c.b.extract x2 x3);have aj:qR w0 vc sp:=by rw[<-hsp];exact aj
    have ak:sp.size<=100000:=by rw[<-hsp,xw];omega
    have hbel:=zq.out.1.kL;have n0:W1.cell? ⟨rb,0,none⟩=some c.bv:=by
     obtain⟨nv,dv,L,hM,_⟩:=zq.out.1;exact bx0 hM.box
    rw[hbv]at n0;obtain⟨BN,hBN⟩:=eu (c.b.size);rw[hBN]at n0;have hsl:∀W:World,(Instr.slice 23 (.slice pa BN pc) (some (.int .i64 (x2:Int))) (some (.int .i64 (x3:Int))) none).run prog W=.ok vc W:=by rw[<-hBN];exact hsl
    have hcv:=λW (hW:Below w0.heap.size w0 W)=>uq (aj.below hW)
    have aG:=dY (hcv W1.drew (hbel.trans ((fD _ W1).drew.mono hbel.size)));have Px:=dY (λW=>ak9 (x1:Int) sp W ak);obtain⟨aY,aZ⟩:=fw hsp hq;have hx2:x2<=100000:=by have h1:=hrr.lo;have h3:=hrr.hi;dsimp only at h1 h3;omega
    have hzz:∀wx R5,FP W1 wx rb R' R5->wx.heap[bz]?=some (.cells #[.int .i64 (x1:Int),.int .i64 (x2:Int),.int .i64 (x3:Int)] 45 (0,0)):=λwx R5 hF=>by
     have hlt:=gK kz;have h3:=zq.out.1.off kz dU dU dU dU;have h4:=HP.out.1.lt;rw[hF.block bz hlt dS h3];exact kz
    have HZ:=dY hzz;clear hx hsz hbv aj hsp ak hbel hBN hcv hP hrw hrr hbz hW1 Gc kz HP hnext hxk hzz;go_upto_region 3 with fail
    rw[HW1.out,ai.out];clear HW1 ai k0 k1 k2
    go_cut [25] (λb wx=>b=.bool false/\W1=wx)
    case first=>
     rcases hq with hq|hq
     ·have n16:((x1:Int) !=16)=false:=by simp[hq]
      clear hq;go_wp2_with fail
      go_meet
      exact⟨rfl,rfl⟩
     ·have n16:((x1:Int) !=16)=true:=by simp[hq]
      have n17:((x1:Int) !=17)=false:=by simp[hq]
      clear hq;go_wp2_with fail
      go_meet
      exact⟨rfl,rfl⟩
    case rest=>
     obtain⟨rfl,rfl⟩:=hcut;clear hq;go_upto_region 4 with fail
     refine fO (λwx=>wx.cell? ⟨bz,0,none⟩=some (.int .i64 (x1:Int))/\wx.cell? ⟨rb,0,none⟩=some (.slice pa BN pc)/\wx.cell? ⟨bz,1,none⟩=some (.int .i64 (x2:Int))/\wx.cell? ⟨bz,2,none⟩=some (.int .i64 (x3:Int))/\(convert 23 9 vc).run prog wx=.ok (.string sp) wx) 12 dV ?_;have hH:(λwx:World=>wx.cell? ⟨bz,0,none⟩=some (.int .i64 (x1:Int))/\wx.cell? ⟨rb,0,none⟩=some (.slice pa BN pc)/\wx.cell? ⟨bz,1,none⟩=some (.int .i64 (x2:Int))/\wx.cell? ⟨bz,2,none⟩=some (.int .i64 (x3:Int))/\(convert 23 9 vc).run prog wx=.ok (.string sp) wx) W1.drew:=⟨eP v0,eP n0,eP v1,eP v2,aG.out⟩
     refine gZ 0 (.pointer (some ⟨bz,0,none⟩)) (λ_=>hH) ?_;refine rV 1 (.int .i64 (x1:Int)) (λW hW=>?_) hH ?_
     ·obtain⟨z0,z1,z2,z3,z4⟩:=hW;go_simp
     refine gZ 2 (.pointer (some ⟨rb,0,none⟩)) (λ_=>hH) ?_;refine gZ 3 (.pointer (some ⟨rb,0,none⟩)) (λ_=>hH) ?_;refine gZ 4 (.pointer (some ⟨rb,0,none⟩)) (λ_=>hH) ?_;refine tkd 11 10 5 (.slice pa BN pc) (λW hW=>?_) hH ?_
     ·obtain⟨z0,z1,z2,z3,z4⟩:=hW;go_simp
     refine gZ 6 (.pointer (some ⟨bz,1,none⟩)) (λ_=>hH) ?_;refine tkd 11 10 7 (.int .i64 (x2:Int)) (λW hW=>?_) hH ?_
     ·obtain⟨z0,z1,z2,z3,z4⟩:=hW;go_simp
     refine gZ 8 (.pointer (some ⟨bz,2,none⟩)) (λ_=>hH) ?_;refine tkd 11 10 9 (.int .i64 (x3:Int)) (λW hW=>?_) hH ?_
     ·obtain⟨z0,z1,z2,z3,z4⟩:=hW;go_simp
     refine gZ 10 vc (λ_=>hH) ?_;refine rV 11 (.string sp) (λW hW=>?_) hH ?_
     ·obtain⟨z0,z1,z2,z3,z4⟩:=hW;go_simp
     refine mY 12 λK hK=>?_
     go_simp;refine(Px.out W1.drew).mono ?_;rintro e w5 ⟨bd,rfl,aH,hb5⟩;obtain⟨TX,aI⟩:=eu (ba (Qo.mI (x1:Int) sp.data.toList).1);obtain⟨EN,ay⟩:=eu ((Qo.mI (x1:Int) sp.data.toList).2.2);rw[aI,ay];have aJ:=dY aH;have tY:=dY (eD (fD _ W1).drew hb5);have bf:=dY ay;clear aH hb5 aI ay;refine hK.out _ _ lh (λ_=>?_);clear hK K;try simp only[Act.put,fG,fB,fC]
     refine gZ 13 (.tuple #[.string TX,bd,.bool EN]) lh ?_;refine gZ 14 (.string TX) lh ?_;refine gZ 15 bd lh ?_;refine gZ 16 (.bool EN) lh ?_;refine gZ 17 (.string TX) lh ?_;refine gZ 18 bd lh ?_;refine gZ 19 (.bool EN) lh ?_;refine fJ dV ?_ _;clear Px aG hsl;obtain⟨bs,hbs⟩:=eu ((Qo.mI (x1:Int) sp.data.toList).2.1);have az:DF c.b (x1,x2,x3)=(EN,bs):=by
      unfold DF;show((Qo.mI (x1:Int) (c.b.extract x2 x3).data.toList).2.2,(Qo.mI (x1:Int) (c.b.extract x2 x3).data.toList).2.1)=_;rw[aY.out,bf.out,hbs]
     have aK:Ps.iF (Sc.eH c.b) (x1,x2,x3)=(if EN=true then[]else[(⟨3,x2,x3⟩:Fl.Dg)])++bs.map (DI (x1,x2,x3)):=by
      rw[BM,dX aZ.out,az]
     have hqo:=aF.out;have hbl:=hqo.len;have af:=hqo.le;rw[az]at hbl af;dsimp only at hbl af;have hown:=aJ.out;rw[hbs]at hown;have hb5:=tY.out;obtain⟨is,his⟩:∃is:List Int,bs.map (fun(p:Nat)=>(p:Int))=is:=⟨_,rfl⟩
     have hpl:places bs=encI.all is:=by
      rw[<-his];exact zi bs
     have hil:is.length=bs.length:=by rw[<-his,jl]
     rw[hpl,<-hil]at hown;have hown:w5.ownsRow W1.heap.size 3 encI.k bd is.length (encI.all is):=hown;obtain⟨ba',bc,rfl⟩:=(Reads.fo (E:=encI) hown).shape;obtain⟨n,hn⟩:=eu (bs.length);have aL:=zq.out.1.below hb5;have I6:FP w w5 rb R R':=zq.out.2.trans (FP.below hb5)
     have hrow:∀wx R5,FP w5 wx rb R' R5->Reads encI wx (.slice ba' is.length bc) is:=λwx R5 hF=>Reads.fo (E:=encI) (fE (w':=wx) hown (λk hk=>by
      have h1:=hown.lt k hk
      exact hF.block k h1.2 (by have:=zq.out.1.lt;omega) (λhr=>by have:=(zq.out.1.rows hr).2.1;omega)))
     have aM:=dY hrow;have bg:=dY (show∀k x,bs[k]?=some x->is[k]?=some ((x:Nat):Int)from λk x hx=>by rw[<-his,kS,hx];rfl);have aN:=dY (λwx R5 (hF:FP w5 wx rb R' R5)=>HZ.out wx R5 ((FP.below hb5).trans hF));have HN:=dY hn;have bn:=dY (show∀k∈bs,k<=1000000 from af);have Xy:=dY (show n<=1000000 by rw[<-hn];exact hbl);obtain⟨bq,bC,aA⟩:=je aK hil (And.intro aL I6);obtain⟨D0,hD0⟩:=eu (q.s.d++(c.l.take k).flatMap (Ps.iF (Sc.eH c.b)))
     have aO:=dY (show D0.length<=740000000000 by
      rw[<-hD0,iK];have:=aX.out k;have:=HD.out
      omega)
     have HD0:=dY hD0;rw[hil,hn];clear hown hb5 his hpl hil hn aL I6 hrow aK hqo hbl af az hbs aJ tY HZ zq aF hD0;have z5:=aN.out w5 R' (FP.refl _ _ _);have v1:w5.cell? ⟨bz,1,none⟩=some (.int .i64 (x2:Int)):=fq z5 1;have v2:w5.cell? ⟨bz,2,none⟩=some (.int .i64 (x3:Int)):=fq z5 2;clear z5 v0 n0
     go_upto_if 44 with fail
     go_cut [] (λwx=>∃R5:Nat->Prop,Hid (fF w0 wx rb c {q with s:=⟨q.s.t,D0++(if EN=true then[]else[(⟨3,x2,x3⟩:Fl.Dg)])⟩} lv R5/\FP w5 wx rb R' R5))
     case first=>
      cases EN with
      |true=>
       have aa:=dY (show fF w0 w5 rb c {q with s:=⟨q.s.t,D0++(if true=true then[]else[(⟨3,x2,x3⟩:Fl.Dg)])⟩} lv R'/\FP w5 w5 rb R' R' from⟨by
        rw[dX rfl,nJ,<-HD0.out];exact aA.out.1,FP.refl _ _ _⟩)
       go_wp2_with fail
       go_meet
       exact⟨R',aa⟩
      |false=>
       have ag:=dY (Mi w0 w5 rb c {q with s:=⟨q.s.t,D0⟩} lv R' 3 x2 x3 (by rw[<-HD0.out];exact aA.out.1) (by have:=aO.out;dsimp only;omega));go_wp2_with fail
       refine ag.out.mono ?_;rintro e w6 ⟨rfl,R6,aP,aQ⟩
       have aa:=dY (show fF w0 w6 rb c {q with s:=⟨q.s.t,D0++(if false=true then[]else[(⟨3,x2,x3⟩:Fl.Dg)])⟩} lv R6/\FP w5 w6 rb R' R6 from⟨by
        rw[dW dU];exact aP,aQ⟩)
       clear aP aQ ag;go_wp2_with fail
       go_meet
       exact⟨R6,aa⟩
     case rest=>
      obtain⟨R5,aa⟩:=hcut
      rename World=>w6
      obtain⟨D1,hD1⟩:=eu (D0++(if EN=true then[]else[(⟨3,x2,x3⟩:Fl.Dg)]))
      have aR:=dY (show D1.length<=740000000001 by
       rw[<-hD1,iK];have:=aO.out;have h2:(if EN=true then[]else[(⟨3,x2,x3⟩:Fl.Dg)]).length<=1:=by split<;>simp
       omega)
      rw[hD1]at aa;have HD1:=dY hD1;clear hD1 v1 v2
      have aS:=dY (show fF w0 w6 rb c {q with s:=⟨q.s.t,D1++(bs.take 0).map (DI (x1,x2,x3))⟩} lv R5/\FP w5 w6 rb R' R5 from⟨by
       rw[vT,O0,nJ];exact aa.out.1,aa.out.2⟩)
      clear aa;go_wp2_with fail
      go_loopw [53] (λjv wx=>∃(j:Nat)(R6:Nat->Prop),jv=.int .i64 j/\j<=n/\Hid (fF w0 wx rb c {q with s:=⟨q.s.t,D1++(bs.take j).map (DI (x1,x2,x3))⟩} lv R6/\FP w5 wx rb R' R6)) (λjv _=>n-(intOf jv).toNat)
      case atStart=>exact⟨0,R5,rfl,fP _,aS⟩
      case round=>
       obtain⟨j,R6,rfl,hj,ae⟩:=hrel
       rename World=>w7
       by_cases hjl:j<n
       ·obtain⟨y,hy⟩:∃y,bs[j]?=some y:=⟨_,fu (by rw[HN.out];exact hjl)⟩
        have hys:=bn.out y (gW hy);have hrow:=aM.out w7 R6 ae.out.2;obtain⟨b,off,e,ck⟩:=CQ hrow j _ (bg.out j y hy);subst e;have z7:=aN.out w7 R6 ae.out.2;have v1:w7.cell? ⟨bz,1,none⟩=some (.int .i64 (x2:Int)):=fq z7 1
        have aB:=Mi w0 w7 rb c _ lv R6 4 (x2+y) (x2+y+1) ae.out.1 (by
         show(D1++_).length<=_;have:=aR.out;have:=Xy.out
         rw[iK,jl,mX];omega)
        have hst:D1++(bs.take (j+1)).map (DI (x1,x2,x3))=(D1++(bs.take j).map (DI (x1,x2,x3)))++[⟨4,x2+y,x2+y+1⟩]:=by
         rw[Dq,hy,yF,pI];rfl
        rw[Int.natCast_add,Int.natCast_add]at aB;obtain⟨ag,aT,HF⟩:=je aB hst ae.out.2;have gj:(j:Int)<(n:Int):=dS
        have hjn:j<1000000:=by have:=Xy.out;omega
        clear hrow hy aB hst ae z7;go_wp2_with fail
        refine ag.out.mono ?_;rintro e w8 ⟨rfl,R8,aU,aV⟩;have bA:=dY (show fF w0 w8 rb c {q with s:=⟨q.s.t,D1++(bs.take (j+1)).map (DI (x1,x2,x3))⟩} lv R8/\FP w5 w8 rb R' R8 from⟨by rw[aT.out];exact aU,HF.out.trans aV⟩);clear aU aV ag aT HF ck v1;go_wp2_with fail
        go_roundw
        case rel=>exact⟨j+1,R8,fH,dS,bA⟩
        case measure=>simp[intOf];omega
       ·obtain rfl:j=n:=by omega
        have gj:¬(j:Int)<(j:Int):=dS
        have htk:bs.take j=bs:=zw wD
        have o9:=dY (show fF w0 w7 rb c {q with s:=⟨q.s.t,q.s.d++(c.l.take (k+1)).flatMap (Ps.iF (Sc.eH c.b))⟩} lv R6/\FP w w7 rb R R6 from⟨by
         have h1:=ae.out.1;rw[htk,<-HD1.out,<-HD0.out,pI,pI,<-bq.out,<-ax.out]at h1
         exact h1,aA.out.2.trans ae.out.2⟩)
        clear ae htk;go_wp2_with fail
        go_roundw
        case rel=>exact⟨k+1,R6,fH,dS,o9⟩
        case measure=>simp[intOf];omega
   ·have g16:((x1:Int)==16)=false:=by simp;omega
    have g17:((x1:Int)==17)=false:=eQ
    have n16:((x1:Int) !=16)=true:=eQ
    have n17:((x1:Int) !=17)=true:=eQ
    have o9:=dY (show fF w0 W1 rb c {q with s:=⟨q.s.t,q.s.d++(c.l.take (k+1)).flatMap (Ps.iF (Sc.eH c.b))⟩} lv R'/\FP w W1 rb R R' from⟨by
     rw[ax.out,BM,dW hq,nJ]
     exact zq.out.1,zq.out.2⟩)
    clear hP hrw hrr hbz hW1 Gc kz HP zq ax hnext hxk hq;go_upto_region 3 with fail
    rw[HW1.out,ai.out];clear HW1 ai k0 k1 k2;go_wp2_with fail
    exact aaz
  ·obtain rfl:k=NL:=by omega
   have gi:¬(k:Int)<(k:Int):=dS
   have HDn:=dY (show Q (.returned (.tuple #[])) wr by
    rw[<-HQ.out];have h1:=HP.out.1;rw[zw (by rw[aC.out];exact eO _)]at h1
    exact⟨rfl,R',h1,HP.out.2⟩)
   clear HP;go_wp2_with fail
   try go_end0
   exact HDn.out
end
section
open Go.RowKit
open Sq
open Ar
def akD(w:World)(B:Nat)(u:Value)(R:List Nd):Prop:=∃L,L.map Ln.nd=R/\OT w B u L
theorem alc(n:Int)(w:World):Calls prog 20 #[.int .i64 n] w (λe w'=>∃u,e=.returned (.agg #[u])/\akD w' w.heap.size u (fU n)/\Below w.heap.size w w'):=by
 obtain⟨m,hm⟩:=eu ((if n<0\/32768<n then 0 else n));have e:fU n=[⟨1,0,m,-1,[],false⟩]:=by unfold fU;rw[hm]
 have hO:=λu=>(⟨_,rfl,Un w u ⟨1,0,m,-1,[],false⟩ rfl⟩:akD _ w.heap.size _ [⟨1,0,m,-1,[],false⟩])
 have HO:=dY hO;rw[e];have HB:=dY (λo o'=>gD (dZ w o) o');clear e hO;by_cases h1:n<0
 ·rw[dX (.inl h1)]at hm;subst hm
  exact QL
 ·by_cases h2:32768<n
  ·rw[dX (.inr h2)]at hm;subst hm
   exact QL
  ·rw[dW (λh=>h.elim h1 h2)]at hm;subst hm
   exact QL
theorem sN{w:World}{B e s n:Nat}{v:Value}{xs:List Value}(h:w.ownsRow B e s v n xs){b:Nat}(hb:b<B)(o:Nat)(u:Value):(w.setCell ⟨b,o,none⟩ u).ownsRow B e s v n xs:=
 fE h (λk hk=>jo _ _ _ _ (by have:=(h.lt k hk).1;show k≠b;omega))
theorem OT.y8{w:World}{B:Nat}{v:Value}{L:List Ln}(h:OT w B v L){b:Nat}(hb:b<B)(o:Nat)(u:Value):OT (w.setCell ⟨b,o,none⟩ u) B v L:=
 ⟨sN h.row hb o u,λi p hp=>sN (h.kids i p hp) hb o u,h.apart⟩
theorem fF.gI{w2 w3 W4:World}{rb:Nat}{c:Ctx}{nv:Value}{L:List Ln}{n:Int}(hc:Mh c w2)(hb:Below w2.heap.size w2 w3)(hO:OT w3 w2.heap.size nv L)(hL:L.map Ln.nd=fU n)(hrb:w3.heap.size=rb)
 (hW:w3.alloc (.cells (jR c nv (.slice none 0 0) (.slice none 0 0) 0 0) 58)=W4):
 ∃R,fF w2 W4 rb c ⟨⟨fU n,[]⟩,0,0,[]⟩ (.slice none 0 0) R:=by
 subst hW hrb;have hal:=dZ w3 (.cells (jR c nv (.slice none 0 0) (.slice none 0 0) 0 0) 58);refine⟨_,nv,.slice none 0 0,L,⟨hb.trans (hal.mono hb.size),hc,hb.size,lz _ _,hO.below hal,kX fK _ _,kX qK _ _⟩,hL,⟨λi x h0 hx=>?_,λx hx=>?_⟩,rfl⟩
 ·have hx:(fU n)[i]?=some x:=hx;unfold fU at hx;cases i with
  |zero=>omega
  |succ i=>simp at hx
 ·have hx:x∈fU n:=hx;unfold fU at hx;obtain rfl:=tF.1 hx;exact fP _
theorem fF.agw{w0 w:World}{rb:Nat}{c:Ctx}{q:Pr.QS}{lv:Value}{R:Nat->Prop}(hS:fF w0 w rb c q lv R){ra:Option Addr}{n rc k:Nat}{x:Rw.R}(hn:c.rs.length=n)(aa:c.rv=.slice ra n rc)(hx:c.rs[k]?=some x):
 w.cell? ⟨rb,2,none⟩=some (.slice ra n rc)/\w.cell? ⟨rb,6,none⟩=some (.int .i64 (q.row:Int))/\∃b off,ra=some ⟨b,off,none⟩/\w.cell? ⟨b,off+k*4,none⟩=some (.int .i64 x.kind)/\w.cell? ⟨b,off+k*4+1,none⟩=some (.int .i64 x.from')/\w.cell? ⟨b,off+k*4+2,none⟩=some (.int .i64 x.bu)/\w.cell? ⟨b,off+k*4+3,none⟩=some (.int .i64 x.eT):=by
 obtain⟨nv,dv,L,hM,hL,hTr,rfl⟩:=hS;subst hn;have hr:=hM.ctx.rows.below hM.kL;rw[aa]at hr;obtain⟨b,off,e,h1,h2,h3,h4⟩:=EJ hr k x hx;exact⟨by rw[<-aa];exact bx2 hM.box,bx6 hM.box,b,off,e,h1,h2,h3,h4⟩
theorem fF.two{w0 w:World}{rb:Nat}{c:Ctx}{q:Pr.QS}{lv:Value}{R:Nat->Prop}(hS:fF w0 w rb c q lv R):w.cell? ⟨rb,2,none⟩=some c.rv/\w.cell? ⟨rb,6,none⟩=some (.int .i64 (q.row:Int))/\w.frozen? ⟨rb,6,none⟩=false:=by
 obtain⟨nv,dv,L,hM,hL,hTr,rfl⟩:=hS;exact⟨bx2 hM.box,bx6 hM.box,hM.free 6⟩
theorem WN{n:Nat}:∀l:List Nat,l.Pairwise (·<·)->(∀x∈l,x<n)->l.length<=n:=by
 have key:∀(l:List Nat)(p:Nat),l.Pairwise (·<·)->(∀x∈l,p<=x/\x<n)->p<=n->p+l.length<=n:=by
  intro l
  induction l with
  |nil=>intro p _ _ h;exact h
  |cons x r ih=>
   intro p h1 h2 _;rw[vI]at h1;have hx:=h2 x eG;have:=ih (x+1) h1.2 (λy hy=>⟨h1.1 y hy,(h2 y (by simp[hy])).2⟩) dS;rw[iR];omega
 intro l h1 h2;have:=key l 0 h1 (λx hx=>⟨fP _,h2 x hx⟩) (fP _);omega
theorem agx(b:ByteArray)(hb:b.size<=100000):∀x∈Sc.tokens (Sc.eH b),aeY b x:=λx hx=>by
 have ht:=Rw.iZ (Sc.eH b);obtain⟨j,hj⟩:=jy hx;have h1:=(ht.le j x hj).2;have h2:=mJ (Sc.eH b) x hx;rw[Sc.fM]at h2;have hl:(b.extract x.2.1 x.2.2).data.toList.length<=100000:=by
  rw[U6];show(b.extract x.2.1 x.2.2).size<=_;rw[xw];omega
 have hbd:=Ps.Ae (x.1:Nat) (b.extract x.2.1 x.2.2).data.toList;refine⟨pJ h1,h2.2,?_,λk hk=>?_⟩
 ·have:=WN (n:=100000) _ (UW (x.1:Nat) (b.extract x.2.1 x.2.2).data.toList) (λk hk=>by have:=hbd k hk;omega);show(Qo.mI (x.1:Nat) _).2.1.length<=_;omega
 ·have:=hbd k hk;omega
theorem adp(l:List Tk)(rs:List Rw.R)(h:∀r∈rs,r.from'<r.bu/\r.bu<=l.length):(rs.flatMap (Pr.tabs l)).length<=rs.length*l.length:=by
 induction rs with
 |nil=>exact fP _
 |cons r rs ih=>
  rw[IU,iK,iR,Dr,ahV];have h1:=ih (λx hx=>h x qT);have h2:=h r eG;have h3:(Pr.tabs l r).length<=l.length:=by
   unfold Pr.tabs;split
   ·have:=Ps.lo_le l (pJ h2.1);refine iU (ahL _ _) ?_;rw[ahM];omega
   ·exact fP _
  omega
def zb(X:List Tk×List Nd×List Fl.Dg)(w:World)(e:Ending)(w':World):Prop:=
 ∃tv nv dv L,e=.returned (.tuple #[tv,.agg #[nv],dv])/\w'.ownsRow w.heap.size 45 3 tv X.1.length (iQ.all X.1)/\OT w' w.heap.size nv L/\L.map Ln.nd=X.2.1/\w'.ownsRow w.heap.size 40 3 dv X.2.2.length (fK.all X.2.2)/\Below w.heap.size w w'
end
section
open Go.RowKit
open Sq
open Ar
theorem DJ(w:World)(bv:Value)(b:ByteArray)(depth:Nat)(hx:qR w bv b)(hT:oZ w)(hb:b.size<=16384)(h1:1<=depth)(h2:depth<=50):
 Calls prog 12 #[bv,.int .i64 (depth:Int)] w (zb (Ps.tree (Sc.eH b) depth) w):=by
 obtain⟨pa,pc,hbv⟩:=hx.shape;obtain⟨BN,hBN⟩:=eu (b.size);rw[hBN]at hbv;subst hbv;clear hBN;have htl:=mq (Sc.eH b);have htb:=λx hx=>mJ (Sc.eH b) x hx
 have hti:=Rw.iZ (Sc.eH b);have hsc:=Pr.scn (Sc.eH b);have hok:=acw (Sc.eH b);have ay:=agx b dS;have hread:=Pr.afV (Sc.eH b) depth;have htold:=Pr.acK (Sc.eH b);have ah:=adn (Sc.eH b) depth;rw[Sc.fM]at htl ah;have aA:Ps.tree (Sc.eH b) depth=(Sc.tokens (Sc.eH b),(Ps.read (Sc.tokens (Sc.eH b)) depth).t,Ps.qP ((Ps.read (Sc.tokens (Sc.eH b)) depth).d++Ps.jA (Sc.eH b) (Sc.tokens (Sc.eH b)))):=Qw
 rw[aA];have aO:=λW (hW:Below w.heap.size w W)=>agr (.slice pa BN pc) b W (hx.below hW) (hT.below hW)
 have tH:=dY (show∀W,Below w.heap.size w W->Calls prog 18 #[.slice pa BN pc] W (λe w'=>∃u,e=.returned u/\w'.ownsRow W.heap.size 45 3 u (Sc.tokens (Sc.eH b)).length (iQ.all (Sc.tokens (Sc.eH b)))/\Below W.heap.size W w')from aO);have bz:=Sc.fM b;have hbad:=abA b;obtain⟨T,bA⟩:=eu (Sc.tokens (Sc.eH b));rw[bA]at htl htb hti hsc hok ay hread htold ah tH⊢;obtain⟨Q,hQ⟩:=eu (zb (T,(Ps.read T depth).t,Ps.qP ((Ps.read T depth).d++Ps.jA (Sc.eH b) T)) w);rw[hQ];obtain⟨NT,aJ⟩:=eu (T.length);obtain⟨RL,aU⟩:=eu ((Rw.eF T).length);have hrl:=WI T;have aj:∀r∈Rw.eF T,r.from'<r.bu/\r.bu<=T.length:=λr hr=>⟨(Ps.rows_ok T r hr).lt,(Ps.rows_ok T r hr).le⟩
 have htc:=adp T (Rw.eF T) aj;rw[aU]at hrl htc;rw[aJ]at htl hrl htc tH;have hNs:NT<=16384:=dS
 have hRs:RL<=16384:=dS
 have ai:((Rw.eF T).flatMap (Pr.tabs T)).length<=300000000:=by
  have:RL*NT<=16384*16384:=Nat.mul_le_mul hRs hNs;omega
 have hfr:∀x∈T,x.2.1<=1000000:=λx hx=>by have:=(htb x hx).1;omega
 have d1:¬(depth:Int)<1:=dS
 have d2:¬(50:Int)<(depth:Int):=dS
 obtain⟨HX,HT,HNT,Pw,zt,HSc⟩:=kG hx hT aJ aU hti hsc;obtain⟨bB,bC⟩:=fw hok ay;have aV:=dY (hread (by rw[aJ];omega));obtain⟨aW,aX,HQ,ak,bD,bE⟩:=kG htold (ah hb) hQ aj ai hfr;obtain⟨aY,rR,aZ,TC,bF⟩:=vV hb hbad (And.intro h1 h2) hNs hRs;have HB0:=dY (dZ w (.cells #[.slice none 0 0] 31));obtain⟨b5,hb5⟩:=eu (w.heap.size);obtain⟨W0,hW0⟩:=eu (w.alloc (.cells #[.slice none 0 0] 31));have k5:W0.heap[b5]?=some (.cells #[.slice none 0 0] 31 (0,0)):=by rw[<-hW0,<-hb5];exact lz _ _
 rw[hW0]at HB0;obtain⟨aK,HW0,tY⟩:=je k5 hW0 hb5;clear aA htl htb hti hsc hok ay hread htold ah bz hbad bA hQ aJ aU hrl aj htc ai hfr hx hT hb aO hNs hRs h1 h2 k5 hW0 hb5
 go_enter func12,ntmps12
 go_wp2_with fail
 rw[HW0.out,tY.out];refine(tH.out W0 HB0.out).mono ?_;rintro e w1 ⟨tv,rfl,hown1,hb1⟩;obtain⟨ta,tc,bG⟩:=(Reads.fo (E:=iQ) (show w1.ownsRow W0.heap.size 45 iQ.k tv T.length (iQ.all T)by rw[HNT.out];exact hown1)).shape;rw[HNT.out]at bG;subst bG;have aB:Reads iQ w1 (.slice ta NT tc) T:=Reads.fo (E:=iQ) (show w1.ownsRow W0.heap.size 45 iQ.k (.slice ta NT tc) T.length (iQ.all T)by rw[HNT.out];exact hown1);obtain⟨av,HB1⟩:=fw hown1 hb1;have aC:=dY (ala (.slice pa BN pc) (.slice ta NT tc) T w1 aB D9 bE.out);have aP:=dY aB;clear hown1 hb1 aB tH d1 d2;go_wp2_with fail
 refine aC.out.mono ?_;rintro e w2 ⟨rv,rfl,hown2,hb2⟩;obtain⟨ra,rc,bH⟩:=(Reads.fo (E:=encR) hown2).shape;rw[Pw.out]at bH;subst bH;obtain⟨aD,HB2⟩:=fw hown2 hb2;have mE:=dY (alc (NT:Int) w2);clear hown2 hb2 aC;go_wp2_with fail
 refine mE.out.mono ?_;rintro e w3 ⟨nv,rfl,⟨L,hL,hO⟩,hb3⟩;obtain⟨bI,bJ,aF⟩:=(Reads.fo (E:=fZ) hO.row).shape;have hL1:L.length=1:=by have:=congrArg List.length hL;rw[jl]at this;exact this
 rw[hL1]at aF;subst aF;clear hL1;obtain⟨c,hc⟩:∃c:Ctx,(⟨b,T,Rw.eF T,depth,.slice pa BN pc,.slice ta NT tc,.slice ra RL rc⟩:Ctx)=c:=⟨_,rfl⟩
 have cb:c.b=b:=by rw[<-hc]
 have cl:c.l=T:=by rw[<-hc]
 have Ma:c.rs=Rw.eF T:=by rw[<-hc]
 have cd:c.depth=depth:=by rw[<-hc]
 have crv:c.rv=.slice ra RL rc:=by rw[<-hc]
 have hok2:Mh c w2:=by
  rw[<-hc];refine⟨HX.out.below ((HB0.out.trans (HB1.out.mono HB0.out.size)).trans (HB2.out.mono (iU HB0.out.size HB1.out.size))),aP.out.below HB2.out,Reads.fo (E:=encR) aD.out,?_,?_⟩
  ·show T.length<=32768;rw[HNT.out];have:=TC.out;omega
  ·show(Rw.eF T).length<=32768;rw[Pw.out];have:=bF.out;omega
 obtain⟨rb,hrb⟩:=eu (w3.heap.size);obtain⟨W4,aL⟩:=eu (w3.alloc (.cells (jR c (.slice bI 1 bJ) (.slice none 0 0) (.slice none 0 0) 0 0) 58));obtain⟨R4,rU⟩:=fF.gI (n:=(NT:Int)) hok2 hb3 hO hL hrb aL;have aG:=rU.ahr (Ps.limit T 0);obtain⟨EN,bf⟩:=eu (Ps.limit T 0);have bg:=abq rb c.tv T 0 W4 rU.tok.1 (by have:=rU.tok.2.1;rw[cl]at this;exact this) (fP _) D9;rw[bf]at bg aG;have f7:W4.frozen? ⟨rb,7,none⟩=false:=rU.lev.2.2.1 7;have c7:W4.cell? ⟨rb,7,none⟩=some (.int .i64 0):=by
  obtain⟨dh,di,L',hM,_⟩:=rU;exact bx7 hM.box
 have hrun:Run T depth ⟨⟨fU (NT:Int),[]⟩,0,EN,[]⟩:=by
  have:=Run.start (l:=T) (depth:=depth) D9;unfold Pr.start Pr.kQ at this;rw[HNT.out,bf]at this;exact this
 rw[<-hc]at aL;have bK:=dY bg;have cr:=dY (show w3.alloc (.cells #[.slice pa BN pc,.slice ta NT tc,.slice ra RL rc,.int .i64 (depth:Int),.slice bI 1 bJ,.slice none 0 0,.int .i64 0,.int .i64 0,.slice none 0 0] 58)=W4 from aL);obtain⟨cz,bL,aQ⟩:=je hrb aG.1 hrun;have HC:=dY (And.intro cb (And.intro cl (And.intro Ma (And.intro cd crv))));have bM:Hid (b5<w2.heap.size/\w.heap.size<=w2.heap.size):=by
  have h5:=gK aK.out;have h6:=HB1.out.size;have h7:=HB2.out.size;have h8:=HB0.out.size;exact dY ⟨dS,dS⟩
 clear hok2 rU aG bg bf hrun hL hO hb3 aL hrb hc cb cl Ma cd crv mE;go_wp2_with fail
 rw[cr.out,cz.out];refine bK.out.mono ?_;rintro e w4 ⟨rfl,rfl⟩;clear bK;go_wp2_with fail
 go_loopw [] (λwr=>∃(q:Pr.QS)(lv:Value)(R:Nat->Prop),Hid (fF w2 wr rb c q lv R)/\Hid (Run T depth q)) (λwr=>RL-(intOf ((wr.cell? ⟨rb,6,none⟩).getD undef)).toNat)
 case atStart=>exact⟨_,_,_,bL,aQ⟩
 case round=>
  obtain⟨q,lv,R,HP,HR⟩:=hrel;obtain⟨cb,cl,Ma,cd,crv⟩:=HC.out;obtain⟨c2,c6,f6⟩:=HP.out.two;rw[crv]at c2;have hle:=HR.out.le;rw[Pw.out]at hle;obtain⟨QR,hQR⟩:=eu (q.row);rw[hQR]at c6 hle;have hRs:=bF.out;by_cases hlt:QR<RL
  ·obtain⟨r,hr⟩:∃r,(Rw.eF T)[QR]?=some r:=⟨_,fu (by rw[Pw.out];exact hlt)⟩
   obtain⟨-,-,kb,ko,e,r0,r1,r2,r3⟩:=HP.out.agw (n:=RL) (k:=QR) (x:=r) (by rw[Ma];exact Pw.out) crv (by rw[Ma];exact hr);subst e;have hasks:=HR.out.asks zt.out HSc.out D9 (by rw[hQR];exact hr);have hnext:=HR.out.step zt.out HSc.out D9 (by rw[hQR];exact hr);obtain⟨bx,hbx⟩:=eu (wr.heap.size);obtain⟨W1,hW1⟩:=eu (wr.alloc (.cells #[.int .i64 r.kind,.int .i64 r.from',.int .i64 r.bu,.int .i64 r.eT] 61));have Gc:Below wr.heap.size wr W1:=hW1▸dZ wr _;have kz:W1.heap[bx]?=some (.cells #[.int .i64 r.kind,.int .i64 r.from',.int .i64 r.bu,.int .i64 r.eT] 61 (0,0)):=by rw[<-hW1,<-hbx];exact lz _ _
   have v0:W1.cell? ⟨bx,0,none⟩=some (.int .i64 (r.kind:Int)):=fq kz 0;have v1:W1.cell? ⟨bx,1,none⟩=some (.int .i64 (r.from':Int)):=fq kz 1;have v2:W1.cell? ⟨bx,2,none⟩=some (.int .i64 (r.bu:Int)):=fq kz 2;have v3:W1.cell? ⟨bx,3,none⟩=some (.int .i64 r.eT):=fq kz 3;have hP1:=HP.out.below Gc;have gk:(QR:Int)<(RL:Int):=dS
   have XA:q.s.t.length<=7000000000/\q.s.d.length<=7000000000:=by
    have h3:=HR.out.sz;have h4:=HR.out.dz;have h5:=Ah (show q.row<=16384 by omega);have h6:big 16384=6553600000:=dU
    omega
   have hst:=HR.out.ok;obtain⟨HA,HN,zq,HW1,tO,az⟩:=kG hasks hnext hP1 hW1 hbx XA;obtain⟨ax,HQR⟩:=fw hst hQR;have aic:∀x∈c.rs,x.bu<=c.l.length:=λx hx=>by rw[Ma]at hx;rw[cl];exact(ak.out x hx).2
   have aR:=dY aic;have dm:=dY (And.intro cl (And.intro Ma cd));have hend:∀e w5,tV W1 w5 rb c R (.tuple #[]) (Pr.step T (Rw.eF T) depth q r) e w5->True:=λ_ _ _=>trivial
   have hstep:∃F,(if r.kind=4 then Value.func (.func 39) #[RP rb] #[]else if r.kind=5 then .func (.func 40) #[RP rb] #[]else .func (.func 41) #[RP rb] #[])=F:=⟨_,rfl⟩
   clear hend hstep;by_cases h4:r.kind=4
   ·have IY:=aio W1 rb r.kind;rw[dX h4]at IY;have hcall:=Wy w2 W1 rb c q lv R r zq.out ax.out.ok (by rw[cl];exact bB.out) HA.out.lt (by rw[cl];exact HA.out.jC) (by rw[cd];exact aZ.out.2) (by have:=az.out.1;omega) (by have:=az.out.2;omega) aR.out (λ_=>by rw[cl,Ma,cd];exact HA.out.skm);have hsx:Pr.step T (Rw.eF T) depth q r=Pr.mark c.l c.rs c.depth q r:=by unfold Pr.step;rw[dX h4,cl,Ma,cd]
    rw[<-hsx]at hcall;obtain⟨ah8,Yc⟩:=fw IY hcall;clear IY hcall hsx hP1 hasks hnext hW1 hbx Gc kz XA hst aic hQR hr cb cl Ma cd crv hle HC h4;go_upto_region 9 with fail
    exact ZK
   ·by_cases h5:r.kind=5
    ·have IY:=aio W1 rb r.kind;rw[dW h4,dX h5]at IY;have hcall:=WC w2 W1 rb c q lv R r zq.out ax.out.ok (by rw[cl];exact bB.out) (by rw[cl];exact bE.out) HA.out.lt (by rw[cl];exact HA.out.jC) (by rw[cd];exact aZ.out.2) (by have:=az.out.1;omega) (by have:=az.out.2;omega) aR.out ax.out.bot (by rw[cd];exact ax.out.len)
      (by rw[cl];exact HA.out.el) (by rw[cl];exact HA.out.es h5) (by rw[cl];exact HA.out.re) (by rw[cl];exact ax.out.en) (by rw[cl,Ma];exact HA.out.skb)
     have hsx:Pr.step T (Rw.eF T) depth q r=Pr.body c.l c.rs c.depth q r:=by unfold Pr.step;rw[dW h4,dX h5,cl,Ma,cd]
     exact aaI
    ·have IY:=aio W1 rb r.kind;rw[dW h4,dW h5]at IY;have hcall:=ajj w2 W1 rb c q lv R r zq.out ax.out.ok (pJ HA.out.lt) (by rw[cl];exact HA.out.jC) (by have:=az.out.1;omega) (by have:=az.out.2;omega) (by have:=ax.out.len;have:=aZ.out.2;omega);have hsx:Pr.step T (Rw.eF T) depth q r=Pr.kE c.l q r:=by unfold Pr.step;rw[dW h4,dW h5,cl]
     exact aaI
  ·have bN:QR=RL:=by omega
   have gk:¬(QR:Int)<(RL:Int):=dS
   have XA:q.s.d.length<=7000000000:=by
    have h4:=HR.out.dz;have h5:=Ah (show q.row<=16384 by omega);have h6:big 16384=6553600000:=dU
    omega
   have hdone:q.s=Ps.read T depth:=by rw[HR.out.done (by rw[Pw.out,hQR];omega)];exact aV.out
   have aH:=HR.out.nine.mono (λj hj=>hj.1);have hnd:=aX.out (by rw[<-hdone];exact aH);have hall:((q.s.d++vY b)++(Rw.eF T).flatMap (Pr.tabs T))++T.flatMap (Ps.iF (Sc.eH b))=(Ps.read T depth).d++Ps.jA (Sc.eH b) T:=by
    rw[hdone,<-aW.out];unfold Pr.jA vY;rw[rR.out];simp only[pI]
   have hbl:(vY b).length<=16384:=by
    unfold vY;rw[jl];exact iU (Sg.EA _ _ _) aY.out
   have aS:oZ w2:=HT.out.below ((HB0.out.trans (HB1.out.mono HB0.out.size)).trans (HB2.out.mono (iU HB0.out.size HB1.out.size)));have hc1:=SN w2 wr rb c q lv R HP.out aS (by rw[cb];have:=aY.out;omega) dS;rw[cb]at hc1;have hc2:=λw5 R5 hS=>WG w2 w5 rb c ⟨⟨q.s.t,q.s.d++vY b⟩,q.row,q.en,q.st⟩ lv R5 hS (λx hx=>by rw[Ma]at hx;rw[cl];exact⟨pJ (ak.out x hx).1,(ak.out x hx).2⟩) (by show(q.s.d++vY b).length<=_;rw[iK];omega)
   rw[Ma,cl]at hc2;have ai:=bD.out;obtain⟨TB,bO⟩:=eu ((Rw.eF T).flatMap (Pr.tabs T));rw[bO]at hc2 hall ai;have hc3:=λw6 R6 hS=>OC w2 w6 rb c ⟨⟨q.s.t,(q.s.d++vY b)++TB⟩,q.row,q.en,q.st⟩ lv R6 hS (by rw[cb];have:=aY.out;omega) (by rw[cl,cb];exact bC.out) (by show((q.s.d++vY b)++TB).length<=_;rw[iK,iK];omega)
   rw[cl,cb]at hc3;obtain⟨QD,bn⟩:=eu (T.flatMap (Ps.iF (Sc.eH b)));rw[bn]at hc3 hall;have bq:QD.length<=40000000000:=by
    have h7:=BO b T bC.out;rw[bn,HNT.out]at h7;have h8:=O4 1000001 TC.out;omega
   have hdl:(((q.s.d++vY b)++TB)++QD).length<=1000000000000:=by
    rw[iK,iK,iK];omega
   have ay:q.s.t=(Ps.read T depth).t:=by rw[hdone]
   obtain⟨bP,bQ,bR,aI,bS,bT⟩:=kG hc1 hc2 hc3 hall hnd hdl;have aT:=dY ay;clear hc1 hc2 hc3 hall hnd hdl ay XA hdone aH hbl aS ai bO bn bq bN hlt hQR cb cl Ma cd crv hle HC HP HR bL aQ hRs;go_wp2_with fail
   refine bP.out.mono ?_;rintro e w5 ⟨rfl,R5,hS5,I6⟩;have bU:=dY hS5;clear hS5 I6 bP;go_wp2_with fail
   refine(bQ.out w5 R5 bU.out).mono ?_;rintro e w6 ⟨rfl,R6,bV,cB⟩;have HS6:=dY bV;clear bV cB bQ bU;go_wp2_with fail
   refine(bR.out w6 R6 HS6.out).mono ?_;rintro e w9 ⟨rfl,R9,cK,cO⟩;obtain⟨af,ag,L9,ae,aM,bW,rfl⟩:=cK;have ae:PM w2 w9 rb c af ag lv q.row q.en L9 (((q.s.d++vY b)++TB)++QD) q.st.reverse:=ae;have aM:L9.map Ln.nd=(Ps.read T depth).t:=by rw[<-aT.out];exact aM
   have hso:=λW (hW:Below w9.heap.size w9 W)=>agq W w2.heap.size ag (((q.s.d++vY b)++TB)++QD) (eZ ae.told hW) bT.out
   obtain⟨da,dc,hdv⟩:=(Reads.fo (E:=fK) ae.told).shape;obtain⟨nn,hnn⟩:=eu ((((q.s.d++vY b)++TB)++QD).length);obtain⟨na,nc,aF⟩:=(Reads.fo (E:=fZ) ae.nodes.row).shape;obtain⟨mm,hmm⟩:=eu (L9.length);have n4:w9.cell? ⟨rb,4,none⟩=some af:=Jc ae.box;have n5:w9.cell? ⟨rb,5,none⟩=some ag:=XD ae.box;have hfin:∀aa,Sorted w9.drew w2.heap.size ag (((q.s.d++vY b)++TB)++QD) (.returned ag) aa->(aa.heap[b5]?=some (.cells #[.slice none 0 0] 31 (0,0))/\aa.cell? ⟨rb,4,none⟩=some af/\aa.cell? ⟨rb,5,none⟩=some ag)/\Q (.returned (.tuple #[.slice ta NT tc,.agg #[af],ag])) (aa.setCell ⟨b5,0,none⟩ af):=by
    rintro aa ⟨-,D',hp,ho,hown,hg⟩;have hd:=WM hp ho (by rw[aI.out];exact bS.out);rw[aI.out]at hd;have hlow:=bM.out;have aN:Below w2.heap.size w2 w9:=ae.kL;have hgd:∀k,ag.ownBlock=some k->w2.heap.size<=k:=λk hk=>(ae.told.lt k hk).1
    have same:∀k,k<w2.heap.size->aa.heap[k]?=w2.heap[k]?:=λk hk=>by
     rw[hg.block k (by show k<w9.heap.size;have:=aN.size;omega) (λe=>by have:=hgd k e.symm;omega)];exact aN.block k hk
    have cZ:aa.heap[b5]?=some (.cells #[.slice none 0 0] 31 (0,0)):=by
     have h5:=gK aK.out;rw[same b5 hlow.1,HB2.out.block b5 (by have:=HB1.out.size;omega),HB1.out.block b5 h5];exact aK.out
    have hne:ag.ownBlock≠some rb:=λe=>eU ae.told ae.box dU e
    have bX:aa.heap[rb]?=w9.heap[rb]?:=hg.block rb ae.lt (λe=>hne e.symm);have hbw:Below w.heap.size w aa:=by
     have a1:Below w.heap.size w w2:=(HB0.out.trans (HB1.out.mono HB0.out.size)).trans (HB2.out.mono (iU HB0.out.size HB1.out.size));refine(a1.trans (aN.mono hlow.2)).trans ?_;exact(fD _ w9).drew.grown hg (by show w.heap.size<=w9.heap.size;have:=aN.size;omega) (λk hk=>by have:=hgd k hk;omega)
    refine⟨⟨cZ,(XX (a:=⟨rb,4,none⟩) bX).trans n4,(XX (a:=⟨rb,5,none⟩) bX).trans n5⟩,?_⟩;rw[<-HQ.out]
    have df:OT aa w2.heap.size af L9:=OT.over ae.nodes (fD _ w9).drew hg (λg hgg e=>by
     rcases hgg with hgg|⟨p,hp,hgg⟩
     ·exact eX ae.nodes.row ae.told dU g hgg e
     ·obtain⟨j,hj⟩:=jy hp
      exact eX (ae.nodes.kids j p hj) ae.told dU g hgg e)
    have ht1:aa.ownsRow W0.heap.size 45 3 (.slice ta NT tc) NT (iQ.all T):=fE (eZ av.out HB2.out) (λk hk=>same k (by have:=(eZ av.out HB2.out).lt k hk;omega));have bY:b5<W0.heap.size:=gK aK.out
    refine⟨.slice ta NT tc,af,ag,L9,rfl,?_,(df.y8 hlow.1 0 af).base hlow.2,aM,?_,?_⟩
    ·show(aa.setCell ⟨b5,0,none⟩ af).ownsRow w.heap.size 45 3 (.slice ta NT tc) T.length (iQ.all T);rw[HNT.out];exact lK (sN ht1 bY 0 af) HB0.out.size
    ·show(aa.setCell ⟨b5,0,none⟩ af).ownsRow w.heap.size 40 3 ag _ _;rw[<-hd];exact lK (sN hown hlow.1 0 af) hlow.2
    ·exact hbw.setCell (p:=⟨b5,0,none⟩) (by show w.heap.size<=b5;rw[tY.out];exact eO _) af
   rw[hnn]at hdv;rw[hmm]at aF;subst hdv;subst aF;have HFin:=dY hfin;have bZ:=dY (hso w9.drew (fD _ w9).drew);clear hso hfin ae aM bW cO hnn hmm bR HS6 c2 c6 f6 aI bS bT aT av aD aP;go_upto_region 14 with fail
   refine fO (λwx=>wx.cell? ⟨rb,4,none⟩=some (.slice na mm nc)/\wx.cell? ⟨rb,5,none⟩=some (.slice da nn dc)) 7 dV ?_;have hH:(λwx:World=>wx.cell? ⟨rb,4,none⟩=some (.slice na mm nc)/\wx.cell? ⟨rb,5,none⟩=some (.slice da nn dc)) w9.drew:=⟨eP n4,eP n5⟩
   refine iE 0 (.slice ta NT tc) hH ?_;refine iE 1 (.pointer (some ⟨rb,4,none⟩)) hH ?_;refine rV 2 (.agg #[.slice na mm nc]) (λW hW=>?_) hH ?_
   ·obtain⟨z0,z1⟩:=hW;go_simp
   refine gZ 3 (.pointer (some ⟨rb,5,none⟩)) (λ_=>hH) ?_;refine tkd 6 5 4 (.slice da nn dc) (λW hW=>?_) hH ?_
   ·obtain⟨z0,z1⟩:=hW;go_simp
   refine mY 5 λK hK=>?_
   go_simp;refine bZ.out.mono ?_;rintro e aa hso;obtain rfl:=hso.1;obtain⟨⟨k5,y4,y5⟩,hd⟩:=HFin.out aa hso;have x5:aa.cell? ⟨b5,0,none⟩=some (.slice none 0 0):=fq k5 0;have f5:aa.frozen? ⟨b5,0,none⟩=false:=qc k5 0;have HD:=dY hd;clear hso hd k5 n4 n5;refine hK.out _ _ (λ_=>⟨y4,y5⟩) (λhH2=>?_);clear hK K;replace hH:=hH2 dV;clear hH2;try simp only[Act.put,fG,fB,fC]
   refine iE 6 (.slice ta NT tc) hH ?_;refine mY 7 λK hK=>?_
   go_simp;refine hK.out _ _ lh (λ_=>?_);clear hK K;try simp only[Act.put,fG,fB,fC]
   refine gZ 8 (.slice da nn dc) lh ?_;refine fJ dV ?_ _;have c5:(aa.setCell ⟨b5,0,none⟩ (.slice na mm nc)).cell? ⟨b5,0,none⟩=some (.slice na mm nc):=ig _ _ _ (by rw[x5];rfl);clear x5 f5 HFin bZ;go_wp2_with fail
   refine vK (v:=.tuple #[.slice ta NT tc,.agg #[.slice na mm nc],.slice da nn dc]) ?_ rfl HD.out;simp[results,results12,go_sem,c5]
end
end Go.Proofs.YtmkkdjpebbdikaaGreatDoor

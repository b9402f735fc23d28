import Derived.Test.YtmkkdjpebbdikaaGreatDoorZn26
import Derived.Test.YtmkkdjpebbdikaaGreatDoorZn27
import Derived.Test.YtmkkdjpebbdikaaGreatDoorZn28
set_option linter.all false
set_option maxHeartbeats 16000000
set_option maxRecDepth 100000
namespace Go.Proofs.YtmkkdjpebbdikaaGreatDoor
open Go.RowKit Go.Proofs.Tryz
section
open Go.RowKit
open Sq
open Ar
theorem QN(s:ByteArray)(f t:Nat):(Ps.part (Sc.fw s) f t).map UInt8.ofNat=(s.extract f t).data.toList:=by
 have h1:(s.extract f t).data.toList=(s.data.toList.drop f).take (t-f):=by
  rw[Xu,Xr]
 rw[h1];unfold Ps.part Sc.fw;rw[<-List.map_drop,<-Rq,MY];have e:(UInt8.ofNat∘λx:UInt8=>x.toNat)=id:=by
  funext x;simp
 first
  |rw[e,List.map_id]
  |simp[Function.comp_def]
end
section
open Go.RowKit
open Sq
open Ar
def zK(b:ByteArray)(x:Tk):Bool×List Nat:=((Qo.ma (x.1:Nat) (b.extract x.2.1 x.2.2).data.toList).2.2,(Qo.ma (x.1:Nat) (b.extract x.2.1 x.2.2).data.toList).2.1)
def zL(x:Tk)(k:Nat):Fl.Dg:=⟨4,x.2.1+k,x.2.1+k+1⟩
theorem yw(b:ByteArray)(x:Tk):Ps.je (Sc.fw b) x=if x.1=16\/x.1=17 then(if(zK b x).1=true then[]else[(⟨3,x.2.1,x.2.2⟩:Fl.Dg)])++(zK b x).2.map (zL x)else[]:=by
 unfold Ps.je zK;dsimp only;rw[QN];rfl
structure Sk(b:ByteArray)(x:Tk):Prop where
 lo:x.2.1<=x.2.2
 hi:x.2.2<=b.size
 len:(zK b x).2.length<=1000000
 le:∀k∈(zK b x).2,k<=1000000
theorem Y6(b:ByteArray)(x:Tk)(h:Sk b x):(Ps.je (Sc.fw b) x).length<=1000001:=by
 rw[yw];have:=h.len;split
 ·rw[iJ,jD];split<;>simp<;>omega
 exact ic _
theorem yx(b:ByteArray):∀l:List Tk,(∀x∈l,Sk b x)->(l.flatMap (Ps.je (Sc.fw b))).length<=l.length*1000001
 |[],_=>ic _
 |x::l,h=>by
  rw[Da,iJ,jh,xL,Vy];have h1:=Y6 b x (h x (by simp));have h3:=yx b l (λy hy=>h y (by simp[hy]));omega
theorem Ha(w0 w:World)(rb:Nat)(c:Ctx)(q:Pr.QS)(lv:Value)(R:Nat->Prop)(hS:fV w0 w rb c q lv R)(hb:c.b.size<=100000)(hr:∀x∈c.l,Sk c.b x)(hd:q.s.d.length<=700000000000):
 Calls prog 25 #[RP rb] w (ng w0 w rb c lv R (.tuple #[]) {q with s:=⟨q.s.t,q.s.d++c.l.flatMap (Ps.je (Sc.fw c.b))⟩}):=by
 have hcx:=hS.ctx;obtain⟨Q,hQ⟩:=fq (ng w0 w rb c lv R (.tuple #[]) {q with s:=⟨q.s.t,q.s.d++c.l.flatMap (Ps.je (Sc.fw c.b))⟩});rw[hQ];obtain⟨ta,tc,ay⟩:=hcx.toks.shape;have h1:=hS.tok.1;rw[ay]at h1;obtain⟨NL,ai⟩:=fq (c.l.length);have bJ:NL<=32768:=by rw[<-ai];exact hcx.size
 have hfl:∀k,((c.l.take k).flatMap (Ps.je (Sc.fw c.b))).length<=40000000000:=λk=>by
  have h1:=yx c.b (c.l.take k) (λx hx=>hr x (KN hx));have h3:(c.l.take k).length<=32768:=by rw[kD];omega
  obtain⟨n,hn⟩:=fq ((c.l.take k).length);rw[hn]at h1 h3;clear hn;omega
 rw[ai]at h1
 have bq:=eZ (show fV w0 w rb c {q with s:=⟨q.s.t,q.s.d++(c.l.take 0).flatMap (Ps.je (Sc.fw c.b))⟩} lv R/\FP w w rb R R from⟨by
  rw[vG,Rm,mP];exact hS,FP.refl _ _ _⟩)
 obtain⟨HQ,bA,aG,HR,bB,HD⟩:=kJ hQ ay ai hr hfl hd;obtain⟨aH,HB⟩:=fT hcx hb;clear hcx hQ ay ai hfl hS hr hd hb
 go_enter func25,ntmps25
 go_wp2_with fail
 go_loopw [14] (λiv wr=>∃(k:Nat)(R':Nat->Prop),iv=.int .i64 k/\k<=NL/\Hid (fV w0 wr rb c {q with s:=⟨q.s.t,q.s.d++(c.l.take k).flatMap (Ps.je (Sc.fw c.b))⟩} lv R'/\FP w wr rb R R')) (λiv _=>NL-(intOf iv).toNat)
 case atStart=>exact⟨0,R,rfl,ic _,bq⟩
 case round=>
  obtain⟨k,R',rfl,hk,HP⟩:=hrel;by_cases hlt:k<NL
  ·obtain⟨x,hxk⟩:=jB c.l k (by rw[aG.out];exact hlt);have hrr:=HR.out x (iK hxk);have hP:=HP.out;have hrw:=aH.out.toks.below hP.1.lu;rw[bA.out]at hrw;obtain⟨b,off,e,k0,k1,k2⟩:=iZ hrw k x hxk;subst e;have hnext:(c.l.take (k+1)).flatMap (Ps.je (Sc.fw c.b))=(c.l.take k).flatMap (Ps.je (Sc.fw c.b))++Ps.je (Sc.fw c.b) x:=by
    rw[Hu,hxk,Xx];congr 1;show List.flatMap _ [x]=_;rw[Da,Rm,mP]
   obtain⟨az,aI⟩:=fT hnext hrr;obtain⟨bz,hbz⟩:=fq (wr.heap.size);obtain⟨x1,x2,x3⟩:=x;dsimp only at k0 k1 k2;obtain⟨W1,hW1⟩:=fq (wr.alloc (.cells #[.int .i64 (x1:Int),.int .i64 (x2:Int),.int .i64 (x3:Int)] 45));have aj:Below wr.heap.size wr W1:=hW1▸fo wr _;have kz:W1.heap[bz]?=some (.cells #[.int .i64 (x1:Int),.int .i64 (x2:Int),.int .i64 (x3:Int)] 45 (0,0)):=by rw[<-hW1,<-hbz];exact j5 _ _
   have v0:W1.cell? ⟨bz,0,none⟩=some (.int .i64 (x1:Int)):=gG kz 0;have v1:W1.cell? ⟨bz,1,none⟩=some (.int .i64 (x2:Int)):=gG kz 1;have v2:W1.cell? ⟨bz,2,none⟩=some (.int .i64 (x3:Int)):=gG kz 2;have gk:(k:Int)<(NL:Int):=by omega
   have aa:=eZ (And.intro (hP.1.below aj) (hP.2.trans (FP.below aj)));obtain⟨HW1,ak⟩:=fT hW1 hbz;by_cases hq:x1=16\/x1=17
   ·have hx:=aH.out.text;obtain⟨pa,pc,hbv⟩:=hx.shape;have hsz:=HB.out;rw[hbv]at hx;obtain⟨vc,hsl,av⟩:=Te hx hrr.lo hrr.hi;obtain⟨sp,hsp⟩:=fq (c.b.extract x2 x3);have av:xF w0 vc sp:=by rw[<-hsp];exact av
    have ax:sp.size<=100000:=by rw[<-hsp,nV];omega
    have hbel:=aa.out.1.lu;have n0:W1.cell? ⟨rb,0,none⟩=some c.bv:=by
     obtain⟨nv,dv,L,hM,_⟩:=aa.out.1;exact bx0 hM.box
    rw[hbv]at n0;obtain⟨BN,hBN⟩:=fq (c.b.size);rw[hBN]at n0;have hsl:∀W:World,(Instr.slice 23 (.slice pa BN pc) (some (.int .i64 (x2:Int))) (some (.int .i64 (x3:Int))) none).run prog W=.ok vc W:=by rw[<-hBN];exact hsl
    have hcv:=λW (hW:Below w0.heap.size w0 W)=>qT (av.below hW)
    have aJ:=eZ (hcv W1.drew (hbel.trans ((fI _ W1).drew.mono hbel.size)));have aK:=eZ (λW=>Yo (x1:Int) sp W ax);obtain⟨bC,bD⟩:=fT hsp hq;have hx2:x2<=100000:=by have h1:=hrr.lo;have h3:=hrr.hi;dsimp only at h1 h3;omega
    have hzz:∀wx R5,FP W1 wx rb R' R5->wx.heap[bz]?=some (.cells #[.int .i64 (x1:Int),.int .i64 (x2:Int),.int .i64 (x3:Int)] 45 (0,0)):=λwx R5 hF=>by
     have hlt:=il kz;have h3:=aa.out.1.off kz (by decide) (by decide) (by decide) (by decide);have h4:=HP.out.1.lt;rw[hF.block bz hlt (by omega) h3];exact kz
    have HZ:=eZ hzz;clear hx hsz hbv av hsp ax hbel hBN hcv hP hrw hrr hbz hW1 aj kz HP hnext hxk hzz;go_upto_region 3 with fail
    rw[HW1.out,ak.out];clear HW1 ak k0 k1 k2
    go_cut [25] (λb wx=>b=.bool false/\W1=wx)
    case first=>
     rcases hq with hq|hq
     ·have n16:((x1:Int) !=16)=false:=by simp[hq]
      clear hq;go_wp2_with fail
      go_meet
      exact⟨rfl,rfl⟩
     have n16:((x1:Int) !=16)=true:=by simp[hq]
     have n17:((x1:Int) !=17)=false:=by simp[hq]
     clear hq;go_wp2_with fail
     go_meet
     exact⟨rfl,rfl⟩
    case rest=>
     obtain⟨rfl,rfl⟩:=hcut;clear hq;go_upto_region 4 with fail
     refine gK (λwx=>wx.cell? ⟨bz,0,none⟩=some (.int .i64 (x1:Int))/\wx.cell? ⟨rb,0,none⟩=some (.slice pa BN pc)/\wx.cell? ⟨bz,1,none⟩=some (.int .i64 (x2:Int))/\wx.cell? ⟨bz,2,none⟩=some (.int .i64 (x3:Int))/\(convert 23 9 vc).run prog wx=.ok (.string sp) wx) 12 (by kernel_rfl) ?_;have hH:(λwx:World=>wx.cell? ⟨bz,0,none⟩=some (.int .i64 (x1:Int))/\wx.cell? ⟨rb,0,none⟩=some (.slice pa BN pc)/\wx.cell? ⟨bz,1,none⟩=some (.int .i64 (x2:Int))/\wx.cell? ⟨bz,2,none⟩=some (.int .i64 (x3:Int))/\(convert 23 9 vc).run prog wx=.ok (.string sp) wx) W1.drew:=⟨fE v0,fE n0,fE v1,fE v2,aJ.out⟩
     refine iD 0 (.pointer (some ⟨bz,0,none⟩)) rfl (by kernel_rfl) rfl fC (λW=>by go_simp) (λ_=>hH) ?_;refine ik 1 (.int .i64 (x1:Int)) rfl (by kernel_rfl) rfl fC (λW hW=>?_) hH ?_
     ·obtain⟨z0,z1,z2,z3,z4⟩:=hW;go_simp
     refine iD 2 (.pointer (some ⟨rb,0,none⟩)) rfl (by kernel_rfl) rfl fC (λW=>by go_simp) (λ_=>hH) ?_;refine iD 3 (.pointer (some ⟨rb,0,none⟩)) rfl (by kernel_rfl) rfl fC (λW=>by go_simp) (λ_=>hH) ?_;refine iD 4 (.pointer (some ⟨rb,0,none⟩)) rfl (by kernel_rfl) rfl fC (λW=>by go_simp) (λ_=>hH) ?_;refine Xo 11 10 5 (.slice pa BN pc) rfl (by kernel_rfl) rfl fC (λW hW=>?_) hH ?_
     ·obtain⟨z0,z1,z2,z3,z4⟩:=hW;go_simp
     refine iD 6 (.pointer (some ⟨bz,1,none⟩)) rfl (by kernel_rfl) rfl fC (λW=>by go_simp) (λ_=>hH) ?_;refine Xo 11 10 7 (.int .i64 (x2:Int)) rfl (by kernel_rfl) rfl fC (λW hW=>?_) hH ?_
     ·obtain⟨z0,z1,z2,z3,z4⟩:=hW;go_simp
     refine iD 8 (.pointer (some ⟨bz,2,none⟩)) rfl (by kernel_rfl) rfl fC (λW=>by go_simp) (λ_=>hH) ?_;refine Xo 11 10 9 (.int .i64 (x3:Int)) rfl (by kernel_rfl) rfl fC (λW hW=>?_) hH ?_
     ·obtain⟨z0,z1,z2,z3,z4⟩:=hW;go_simp
     refine iD 10 vc rfl (by kernel_rfl) rfl fC (λW=>by go_simp) (λ_=>hH) ?_;refine ik 11 (.string sp) rfl (by kernel_rfl) rfl fC (λW hW=>?_) hH ?_
     ·obtain⟨z0,z1,z2,z3,z4⟩:=hW;go_simp
     refine mO 12 (by kernel_rfl) rfl λK hK=>?_
     go_simp;refine(aK.out W1.drew).mono ?_;rintro e w5 ⟨bd,rfl,aL,hb5⟩;obtain⟨TX,aM⟩:=fq (ba (Qo.ma (x1:Int) sp.data.toList).1);obtain⟨EN,aA⟩:=fq ((Qo.ma (x1:Int) sp.data.toList).2.2);rw[aM,aA];have aN:=eZ aL;have aO:=eZ (fD (fI _ W1).drew hb5);have bE:=eZ aA;clear aL hb5 aM aA;refine hK.out _ _ (kC (by kernel_rfl)) (λ_=>?_);clear hK K;try simp only[Act.put,fK,fP,fO]
     refine iD 13 (.tuple #[.string TX,bd,.bool EN]) rfl (by kernel_rfl) rfl fC (λW=>by go_simp) (kC (by kernel_rfl)) ?_;refine iD 14 (.string TX) rfl (by kernel_rfl) rfl fC (λW=>by go_simp) (kC (by kernel_rfl)) ?_;refine iD 15 bd rfl (by kernel_rfl) rfl fC (λW=>by go_simp) (kC (by kernel_rfl)) ?_;refine iD 16 (.bool EN) rfl (by kernel_rfl) rfl fC (λW=>by go_simp) (kC (by kernel_rfl)) ?_;refine iD 17 (.string TX) rfl (by kernel_rfl) rfl fC (λW=>by go_simp) (kC (by kernel_rfl)) ?_;refine iD 18 bd rfl (by kernel_rfl) rfl fC (λW=>by go_simp) (kC (by kernel_rfl)) ?_;refine iD 19 (.bool EN) rfl (by kernel_rfl) rfl fC (λW=>by go_simp) (kC (by kernel_rfl)) ?_;refine gH (by kernel_rfl) ?_ _;clear aK aJ hsl;obtain⟨bs,hbs⟩:=fq ((Qo.ma (x1:Int) sp.data.toList).2.1);have aB:zK c.b (x1,x2,x3)=(EN,bs):=by
      unfold zK;show((Qo.ma (x1:Int) (c.b.extract x2 x3).data.toList).2.2,(Qo.ma (x1:Int) (c.b.extract x2 x3).data.toList).2.1)=_;rw[bC.out,bE.out,hbs]
     have aP:Ps.je (Sc.fw c.b) (x1,x2,x3)=(if EN=true then[]else[(⟨3,x2,x3⟩:Fl.Dg)])++bs.map (zL (x1,x2,x3)):=by
      rw[yw,eY bD.out,aB]
     have hqo:=aI.out;have hbl:=hqo.len;have ag:=hqo.le;rw[aB]at hbl ag;dsimp only at hbl ag;have hown:=aN.out;rw[hbs]at hown;have hb5:=aO.out;obtain⟨is,his⟩:∃is:List Int,bs.map (fun(p:Nat)=>(p:Int))=is:=⟨_,rfl⟩
     have hpl:places bs=encI.all is:=by
      rw[<-his];exact vX bs
     have hil:is.length=bs.length:=by rw[<-his,jD]
     rw[hpl,<-hil]at hown;have hown:w5.ownsRow W1.heap.size 3 encI.k bd is.length (encI.all is):=hown;obtain⟨ba',bc,rfl⟩:=(Reads.fJ (E:=encI) hown).shape;obtain⟨n,hn⟩:=fq (bs.length);have aQ:=aa.out.1.below hb5;have aR:FP w w5 rb R R':=aa.out.2.trans (FP.below hb5)
     have hrow:∀wx R5,FP w5 wx rb R' R5->Reads encI wx (.slice ba' is.length bc) is:=λwx R5 hF=>Reads.fJ (E:=encI) (fU (w':=wx) hown (λk hk=>by
      have h1:=hown.lt k hk
      exact hF.block k h1.2 (by have:=aa.out.1.lt;omega) (λhr=>by have:=(aa.out.1.rows hr).2.1;omega)))
     have aS:=eZ hrow;have bF:=eZ (show∀k x,bs[k]?=some x->is[k]?=some ((x:Nat):Int)from λk x hx=>by rw[<-his,lS,hx];rfl);have aT:=eZ (λwx R5 (hF:FP w5 wx rb R' R5)=>HZ.out wx R5 ((FP.below hb5).trans hF));have HN:=eZ hn;have bG:=eZ (show∀k∈bs,k<=1000000 from ag);have aU:=eZ (show n<=1000000 by rw[<-hn];exact hbl);obtain⟨bH,bK,aC⟩:=jF aP hil (And.intro aQ aR);obtain⟨D0,hD0⟩:=fq (q.s.d++(c.l.take k).flatMap (Ps.je (Sc.fw c.b)))
     have aV:=eZ (show D0.length<=740000000000 by
      rw[<-hD0,iJ];have:=bB.out k;have:=HD.out
      omega)
     have HD0:=eZ hD0;rw[hil,hn];clear hown hb5 his hpl hil hn aQ aR hrow aP hqo hbl ag aB hbs aN aO HZ aa aI hD0;have z5:=aT.out w5 R' (FP.refl _ _ _);have v1:w5.cell? ⟨bz,1,none⟩=some (.int .i64 (x2:Int)):=gG z5 1;have v2:w5.cell? ⟨bz,2,none⟩=some (.int .i64 (x3:Int)):=gG z5 2;clear z5 v0 n0
     go_upto_if 44 with fail
     go_cut [] (λwx=>∃R5:Nat->Prop,Hid (fV w0 wx rb c {q with s:=⟨q.s.t,D0++(if EN=true then[]else[(⟨3,x2,x3⟩:Fl.Dg)])⟩} lv R5/\FP w5 wx rb R' R5))
     case first=>
      cases EN with
      |true=>
       have ae:=eZ (show fV w0 w5 rb c {q with s:=⟨q.s.t,D0++(if true=true then[]else[(⟨3,x2,x3⟩:Fl.Dg)])⟩} lv R'/\FP w5 w5 rb R' R' from⟨by
        rw[eY rfl,mP,<-HD0.out];exact aC.out.1,FP.refl _ _ _⟩)
       go_wp2_with fail
       go_meet
       exact⟨R',ae⟩
      |false=>
       have ah:=eZ (Fb w0 w5 rb c {q with s:=⟨q.s.t,D0⟩} lv R' 3 x2 x3 (by rw[<-HD0.out];exact aC.out.1) (by have:=aV.out;dsimp only;omega));go_wp2_with fail
       refine ah.out.mono ?_;rintro e w6 ⟨rfl,R6,aW,aX⟩
       have ae:=eZ (show fV w0 w6 rb c {q with s:=⟨q.s.t,D0++(if false=true then[]else[(⟨3,x2,x3⟩:Fl.Dg)])⟩} lv R6/\FP w5 w6 rb R' R6 from⟨by
        rw[eX (by decide)];exact aW,aX⟩)
       clear aW aX ah;go_wp2_with fail
       go_meet
       exact⟨R6,ae⟩
     case rest=>
      obtain⟨R5,ae⟩:=hcut
      rename World=>w6
      obtain⟨D1,hD1⟩:=fq (D0++(if EN=true then[]else[(⟨3,x2,x3⟩:Fl.Dg)]))
      have aY:=eZ (show D1.length<=740000000001 by
       rw[<-hD1,iJ];have:=aV.out;have h2:(if EN=true then[]else[(⟨3,x2,x3⟩:Fl.Dg)]).length<=1:=by split<;>simp
       omega)
      rw[hD1]at ae;have HD1:=eZ hD1;clear hD1 v1 v2
      have aZ:=eZ (show fV w0 w6 rb c {q with s:=⟨q.s.t,D1++(bs.take 0).map (zL (x1,x2,x3))⟩} lv R5/\FP w5 w6 rb R' R5 from⟨by
       rw[vG,Ho,mP];exact ae.out.1,ae.out.2⟩)
      clear ae;go_wp2_with fail
      go_loopw [53] (λjv wx=>∃(j:Nat)(R6:Nat->Prop),jv=.int .i64 j/\j<=n/\Hid (fV w0 wx rb c {q with s:=⟨q.s.t,D1++(bs.take j).map (zL (x1,x2,x3))⟩} lv R6/\FP w5 wx rb R' R6)) (λjv _=>n-(intOf jv).toNat)
      case atStart=>exact⟨0,R5,rfl,ic _,aZ⟩
      case round=>
       obtain⟨j,R6,rfl,hj,af⟩:=hrel
       rename World=>w7
       by_cases hjl:j<n
       ·obtain⟨y,hy⟩:=jB bs j (by rw[HN.out];exact hjl);have hys:=bG.out y (iK hy);have hrow:=aS.out w7 R6 af.out.2;obtain⟨b,off,e,ck⟩:=D8 hrow j _ (bF.out j y hy);subst e;have z7:=aT.out w7 R6 af.out.2;have v1:w7.cell? ⟨bz,1,none⟩=some (.int .i64 (x2:Int)):=gG z7 1
        have aD:=Fb w0 w7 rb c _ lv R6 4 (x2+y) (x2+y+1) af.out.1 (by
         show(D1++_).length<=_;have:=aY.out;have:=aU.out
         rw[iJ,jD,kD];omega)
        have hst:D1++(bs.take (j+1)).map (zL (x1,x2,x3))=(D1++(bs.take j).map (zL (x1,x2,x3)))++[⟨4,x2+y,x2+y+1⟩]:=by
         rw[Hu,hy,wy,nQ];rfl
        rw[Int.natCast_add,Int.natCast_add]at aD;obtain⟨ah,bf,HF⟩:=jF aD hst af.out.2;have gj:(j:Int)<(n:Int):=by omega
        have hjn:j<1000000:=by have:=aU.out;omega
        clear hrow hy aD hst af z7;go_wp2_with fail
        refine ah.out.mono ?_;rintro e w8 ⟨rfl,R8,bg,bn⟩;have bI:=eZ (show fV w0 w8 rb c {q with s:=⟨q.s.t,D1++(bs.take (j+1)).map (zL (x1,x2,x3))⟩} lv R8/\FP w5 w8 rb R' R8 from⟨by rw[bf.out];exact bg,HF.out.trans bn⟩);clear bg bn ah bf HF ck v1;go_wp2_with fail
        go_roundw
        case rel=>exact⟨j+1,R8,by go_num,by omega,bI⟩
        case measure=>simp[intOf];omega
       obtain rfl:j=n:=by omega
       have gj:¬(j:Int)<(j:Int):=by omega
       have htk:bs.take j=bs:=xK (by rw[HN.out];exact fB _)
       have aF:=eZ (show fV w0 w7 rb c {q with s:=⟨q.s.t,q.s.d++(c.l.take (k+1)).flatMap (Ps.je (Sc.fw c.b))⟩} lv R6/\FP w w7 rb R R6 from⟨by
        have h1:=af.out.1;rw[htk,<-HD1.out,<-HD0.out,nQ,nQ,<-bH.out,<-az.out]at h1
        exact h1,aC.out.2.trans af.out.2⟩)
       clear af htk;go_wp2_with fail
       go_roundw
       case rel=>exact⟨k+1,R6,by go_num,by omega,aF⟩
       case measure=>simp[intOf];omega
   have g16:((x1:Int)==16)=false:=by simp;omega
   have g17:((x1:Int)==17)=false:=by simp;omega
   have n16:((x1:Int) !=16)=true:=by simp;omega
   have n17:((x1:Int) !=17)=true:=by simp;omega
   have aF:=eZ (show fV w0 W1 rb c {q with s:=⟨q.s.t,q.s.d++(c.l.take (k+1)).flatMap (Ps.je (Sc.fw c.b))⟩} lv R'/\FP w W1 rb R R' from⟨by
    rw[az.out,yw,eX hq,mP]
    exact aa.out.1,aa.out.2⟩)
   clear hP hrw hrr hbz hW1 aj kz HP aa az hnext hxk hq;go_upto_region 3 with fail
   rw[HW1.out,ak.out];clear HW1 ak k0 k1 k2;go_wp2_with fail
   go_roundw
   case rel=>exact⟨k+1,R',by go_num,by omega,aF⟩
   case measure=>simp[intOf];omega
  obtain rfl:k=NL:=by omega
  have gi:¬(k:Int)<(k:Int):=by omega
  have HDn:=eZ (show Q (.returned (.tuple #[])) wr by
   rw[<-HQ.out];have h1:=HP.out.1;rw[xK (by rw[aG.out];exact fB _)]at h1
   exact⟨rfl,R',h1,HP.out.2⟩)
  clear HP;go_wp2_with fail
  try go_end0
  exact HDn.out
end
section
open Ar
open Rw (R E)
structure YA(l:List Tk)(depth:Nat)(q:Pr.QS):Prop where
 ok:Pr.nZ q
 bot:q.st=[]\/vE q.st
 len:q.st.length<=depth+1
 en:q.en<=l.length
theorem C6(t:List Nd)(z:Nat):∀st:List Pr.Lv,(Pr.wF t z st).length=t.length
 |[]=>rfl
 |[v]=>by show(Pr.reach t v.node z).length=_;exact Pr.ry _ _ _
 |_::v::r=>C6 t z (v::r)
theorem Gq(l:List Tk)(rs:List R)(depth:Nat)(q:Pr.QS)(i:Nat):(q.st=[]\/vE q.st)->((Pr.value l rs depth q i).st=[]\/vE (Pr.value l rs depth q i).st)/\(Pr.value l rs depth q i).st.length=q.st.length:=by
 intro hb;unfold Pr.value;cases hs:q.st with
 |nil=>exact⟨.inl hs,by rw[hs]⟩
 |cons h r=>
  refine⟨.inr ?_,rfl⟩;rcases hb with hb|hb
  ·rw[hs]at hb;cases hb
  rw[hs]at hb;exact hb.head (y:={h with full:=_}) rfl
theorem vY(l:List Tk)(depth T:Nat):∀(es:List E)(q:Pr.QS),Pr.nZ q->vE q.st->q.st.length<=depth+1->
 Pr.nZ (Pr.places l depth T q es).2/\vE (Pr.places l depth T q es).2.st/\(Pr.places l depth T q es).2.st.length<=depth+1/\(Pr.places l depth T q es).2.row=q.row/\(Pr.places l depth T q es).2.en=q.en/\
  (Pr.places l depth T q es).2.s.t.length<=q.s.t.length+3*es.length+1/\(Pr.places l depth T q es).2.s.d.length<=q.s.d.length+1/\q.s.t.length<=(Pr.places l depth T q es).2.s.t.length
 |[],q,h1,h2,h3=>⟨h1,h2,h3,rfl,rfl,by show q.s.t.length<=_;omega,by show q.s.d.length<=_;omega,fB _⟩
 |e::es,q,h1,h2,h3=>by
  obtain⟨o1,o2,o3,o4,o5,o6⟩:=Pr.pO h1 l depth e;obtain⟨p1,p2,-⟩:=Av l depth e h2 h3;rw[Pr.places];by_cases h0:(Pr.place l depth q e).1=0
  ·rw[eY h0];obtain⟨a1,a2,a3,a4,a5,a6,a7,a8⟩:=vY l depth T es _ o1 p1 p2;refine⟨a1,a2,a3,by rw[a4,o5],by rw[a5,o6],?_,?_,by omega⟩
   ·rw[jh];omega
   rw[o4]at a7;exact a7
  rw[eX h0];obtain⟨f1,f2,f3⟩:=Pr.pR l q.s (Pr.mq q.st) (Pr.place l depth q e).1 e.from' T;exact⟨h1.more f1,h2,h3,rfl,rfl,by show(Pr.fault _ _ _ _ _ _).t.length<=_;omega,f3,f1⟩
theorem step_ok{l:List Tk}{rs:List R}{depth:Nat}{q:Pr.QS}{r:R}(h:YA l depth q)(hl:l.length<=32768)(hf:r.from'+1<=l.length)(hes:(Rw.iP l r).1.length<=100000)(hre:(Rw.iP l r).2<=q.en):
 YA l depth (Pr.step l rs depth q r)/\(Pr.step l rs depth q r).s.t.length<=q.s.t.length+400000/\(Pr.step l rs depth q r).s.d.length<=q.s.d.length+100000:=by
 unfold Pr.step;split
 ·
  unfold Pr.mark;dsimp only;obtain⟨g1,g2⟩:=uo l (r.from'+1) hf;split
  ·have aa:Pr.nZ ({q with en:=Pr.ky l (r.from'+1),st:=[]}:Pr.QS):=⟨h.ok.pos,λv hv=>by cases hv⟩
   obtain⟨o1,o2,o3,o4,-⟩:=Pr.lZ aa r.from';have o5:=oF (q:={q with en:=Pr.ky l (r.from'+1),st:=[]}) r.from' (.inl rfl);have o6:=pU (q:={q with en:=Pr.ky l (r.from'+1),st:=[]}) r.from' depth (ic _);have oe:(Pr.fM {q with en:=Pr.ky l (r.from'+1),st:=[]} r.from').en=Ps.limit l (r.from'+1):=rfl;obtain⟨q4,hq4⟩:=fq (Pr.fM {q with en:=Pr.ky l (r.from'+1),st:=[]} r.from');rw[hq4]at o1 o2 o3 o4 o5 o6 oe⊢;dsimp only at o2 o3 o4;obtain⟨v1,v2,v3,v4⟩:=Pr.lX o1 l rs depth (r.from'+1) (by rw[oe];exact g1) (by rw[oe];exact g2) hl;obtain⟨s1,s2⟩:=Gq l rs depth q4 (r.from'+1) (.inr o5);exact⟨⟨v1,s1,by rw[s2];exact o6,by rw[v4,oe];exact g2⟩,by omega,by rw[o4]at v3;omega⟩
  obtain⟨f1,f2,f3⟩:=Pr.pR l ⟨Pr.wF q.s.t (r.from'+1) q.st,q.s.d⟩ 0 8 (r.from'+1) r.bu;dsimp only at f1 f2 f3;rw[C6]at f1 f2;exact⟨⟨⟨wC h.ok.pos f1,λv hv=>by cases hv⟩,.inl rfl,ic _,g2⟩,by dsimp only;omega,by dsimp only;omega⟩
 split
 ·
  unfold Pr.body;dsimp only;obtain⟨x,hx⟩:=fq (Ps.lo l r.from' r.bu);rw[hx];obtain⟨o1,o2,o3,o4,-⟩:=Pr.lZ h.ok x;have o5:=oF x h.bot;have o6:=pU x depth h.len;have o7:(Pr.fM q x).en=q.en:=by unfold Pr.fM;cases q.st<;>rfl
  obtain⟨q1,hq1⟩:=fq (Pr.fM q x);rw[hq1]at o1 o2 o3 o4 o5 o6 o7⊢;obtain⟨p1,p2,p3,p4,p5,p6,p7,p8⟩:=vY l depth r.bu (Rw.iP l r).1 q1 o1 o5 o6;obtain⟨K,hK⟩:=fq (Pr.places l depth r.bu q1 (Rw.iP l r).1);rw[hK]at p1 p2 p3 p4 p5 p6 p7 p8⊢;rw[o4]at p7;rw[o7]at p5;split
  ·split
   ·obtain⟨f1,f2,f3⟩:=Pr.pR l K.2.s (Pr.mq K.2.st) 7 (Rw.iP l r).2 r.bu;exact⟨⟨p1.more f1,.inr p2,p3,by show K.2.en<=_;rw[p5];exact h.en⟩,by dsimp only;omega,by dsimp only;omega⟩
   obtain⟨v1,v2,v3,v4⟩:=Pr.lX p1 l rs depth (Rw.iP l r).2 (by rw[p5];exact hre) (by rw[p5];exact h.en) hl;obtain⟨s1,s2⟩:=Gq l rs depth K.2 (Rw.iP l r).2 (.inr p2);exact⟨⟨v1,s1,by rw[s2];exact p3,by rw[v4,p5];exact h.en⟩,by omega,by omega⟩
  exact⟨⟨p1,.inr p2,p3,by rw[p5];exact h.en⟩,by omega,by omega⟩
 
 unfold Pr.jY;dsimp only;split
 ·obtain⟨x,hx⟩:=fq (Ps.lo l r.from' r.bu);rw[hx];obtain⟨o1,o2,o3,o4,-⟩:=Pr.lZ h.ok x;have o5:=oF x h.bot;have o6:=pU x depth h.len;have o7:(Pr.fM q x).en=q.en:=by unfold Pr.fM;cases q.st<;>rfl
  obtain⟨f1,f2,f3⟩:=Pr.pR l (Pr.fM q x).s (Pr.mq (Pr.fM q x).st) 8 x r.bu;exact⟨⟨o1.more f1,.inr o5,o6,by show(Pr.fM q x).en<=_;rw[o7];exact h.en⟩,by dsimp only;omega,by dsimp only;rw[o4]at f3;omega⟩
 exact⟨h,by omega,by omega⟩
end
section
open Ar Fl
open Rw (R E)
open Fe (N9)
theorem N9.shift{l:List Tk}{P:Nat->Prop}{d:List Dg}(a:List Dg)(h:N9 l P [] d):N9 l P a (a++d):=by
 obtain⟨ds,js,h1,h2,h3,h4⟩:=h;exact⟨ds,js,by rw[h1];rfl,h2,h3,h4⟩
theorem zV{P:Nat->Prop}(l:List Tk)(s:St)(up code a b:Nat)(hc:code≠9):N9 l P s.d (Pr.fault l s up code a b).d:=by
 unfold Pr.fault;dsimp only;split
 ·exact Fe.N9.other _ _ hc
 exact Fe.N9.refl _
theorem OG{l:List Tk}{q:Pr.QS}{r:R}{depth i:Nat}(hrow:(Rw.fA l)[q.row]?=some r)(hi:i<=q.en)(he:q.en<=l.length)(hl:l.length<=32768):
 N9 l (λj=>i<=j/\j<Pr.rH (Rw.fA l) (Pr.value l (Rw.fA l) depth q i).row) q.s.d (Pr.value l (Rw.fA l) depth q i).s.d:=by
 unfold Pr.value;cases hs:q.st with
 |nil=>exact Fe.N9.refl _
 |cons h tl=>
  dsimp only;obtain⟨hck,hf⟩:=Pr.rz l.length i hl;have hn:gV (l.length:Int)=[⟨1,0,l.length,-1,[],false⟩]:=by unfold gV;rw[eX (by omega)]
  have hx:∀(i:Nat)(x:Nd),(gV (l.length:Int))[i]?=some x->x.k=1:=by
   intro i x hx;rw[hn]at hx;cases i with
   |zero=>
    have hx:(⟨1,0,l.length,-1,[],false⟩:Nd)=x:=by simpa using hx
    subst hx;rfl
   |succ i=>simp at hx
  have h9:=Fe.Gn l q.en (l.length:Int) (by omega) (depth-tl.length) 0 i ⟨gV (l.length:Int),[]⟩ ((i+1:Nat):Int) hck hf (λi x h hk=>by have:=hx i x h;omega) (λx h=>by have:=hx 0 x h;omega) (by omega) hi;have hsz:=(Pr.rA l q.en (depth-tl.length) i l.length hi he hl).2.2.1;have h9:N9 l (λj=>i<=j/\j<(jd l q.en (depth-tl.length) 0 i ⟨gV l.length,[]⟩).2.1) [] (jd l q.en (depth-tl.length) 0 i ⟨gV l.length,[]⟩).2.2.d:=h9;obtain⟨V,hV⟩:=fq (jd l q.en (depth-tl.length) 0 i ⟨gV l.length,[]⟩);rw[hV]at h9 hsz⊢;obtain⟨j,r',s1,s2,s3,s4,s5⟩:=Pr.zh hrow (next:=V.2.1) (by omega);rw[s1,Pr.nC s3];obtain⟨T,hT⟩:=fq ((if V.1=-1 then q.s.t else Pr.pY q.s.t h.cur (V.2.2.t.drop V.1.toNat)));rw[hT];refine((N9.shift q.s.d h9).trans (zV (P:=λ_=>False) l ⟨T,q.s.d++V.2.2.d⟩ h.cur 8 V.2.1 r'.bu (by decide)) (λ_ _ h=>h)).mono (λk hk=>?_);rcases hk with hk|hk
  ·exact⟨hk.1,by omega⟩
  exact hk.elim
theorem Gs(depth n:Nat)(e:E):∀st:List Pr.Lv,(Pr.mX depth n e st).1≠9
 |[]=>by show(0:Nat)≠9;decide
 |h::r=>by
  rw[Pr.mX];split
  ·show(0:Nat)≠9;decide
  split
  ·exact Gs depth n e r
  split
  ·show(5:Nat)≠9;decide
  split
  ·show(7:Nat)≠9;decide
  split
  ·show(6:Nat)≠9;decide
  split
  ·show(10:Nat)≠9;decide
  show(1:Nat)≠9;decide
theorem My(l:List Tk)(depth:Nat)(q:Pr.QS)(e:E):(Pr.place l depth q e).1≠9:=by
 unfold Pr.place;have h:=Gs depth q.st.length e q.st;obtain⟨s,hs⟩:=fq (Pr.mX depth q.st.length e q.st);rw[hs]at h⊢;obtain⟨c,z⟩:=s;dsimp only at h;unfold Pr.act;split
 ·show(0:Nat)≠9;decide
 ·split<;>(show(0:Nat)≠9;decide)
 rename_i heq;have:=congrArg Prod.fst heq;dsimp only at this⊢;omega
theorem KA{P:Nat->Prop}(l:List Tk)(depth T:Nat):∀(es:List E)(q:Pr.QS),Pr.nZ q->N9 l P q.s.d (Pr.places l depth T q es).2.s.d
 |[],q,h=>Fe.N9.refl _
 |e::es,q,h=>by
  obtain⟨o1,o2,o3,o4,o5,o6⟩:=Pr.pO h l depth e;rw[Pr.places];by_cases h0:(Pr.place l depth q e).1=0
  ·rw[eY h0,<-o4];exact KA l depth T es _ o1
  rw[eX h0];exact zV l q.s (Pr.mq q.st) _ e.from' T (My l depth q e)
theorem QO{l:List Tk}{r:R}(ht:Rw.kK 0 l)(h:Ps.oI l r)(h5:r.kind=5):r.from'<=(Rw.iP l r).2:=by
 obtain⟨n1,n2,n3,n4⟩:=Ps.wN ht h h5;have hge:=Ps.kQ l r.from' r.bu;cases hz:(Rw.iP l r).1.getLast? with
 |none=>
  rw[Vo]at hz;rw[n3 hz];exact hge
 |some z=>
  rw[n2 z hz];have:=Pr.wR _ _ n1 z (KM hz);omega
theorem Yr{l:List Tk}{q:Pr.QS}{r:R}{depth:Nat}(ht:Rw.kK 0 l)(hl:l.length<=32768)(hrow:(Rw.fA l)[q.row]?=some r)(hq:YA l depth q)(hre:(Rw.iP l r).2<=q.en):
 N9 l (λj=>r.from'<=j/\j<Pr.rH (Rw.fA l) (Pr.step l (Rw.fA l) depth q r).row) q.s.d (Pr.step l (Rw.fA l) depth q r).s.d:=by
 have hro:=Ps.rows_ok l r (iK hrow);have hlt:=hro.lt;have hle:=hro.le;unfold Pr.step;split
 ·unfold Pr.mark;dsimp only;obtain⟨g1,g2⟩:=uo l (r.from'+1) (by omega);split
  ·obtain⟨q4,hq4⟩:=fq (Pr.fM {q with en:=Pr.ky l (r.from'+1),st:=[]} r.from');have e1:q4.en=Ps.limit l (r.from'+1):=by rw[<-hq4];rfl
   have e2:q4.row=q.row:=by rw[<-hq4];rfl
   have e3:q4.s.d=q.s.d:=by rw[<-hq4];rfl
   rw[hq4];have h9:=OG (depth:=depth) (q:=q4) (i:=r.from'+1) (by rw[e2];exact hrow) (by rw[e1];exact g1) (by rw[e1];exact g2) hl;rw[e3]at h9;exact h9.mono (λj hj=>⟨by omega,hj.2⟩)
  exact zV l ⟨Pr.wF q.s.t (r.from'+1) q.st,q.s.d⟩ 0 8 _ _ (by decide)
 split
 ·rename_i h5;have aa:=QO ht hro h5;unfold Pr.body;dsimp only;obtain⟨x,hx⟩:=fq (Ps.lo l r.from' r.bu);rw[hx];obtain⟨o1,o2,o3,o4,-⟩:=Pr.lZ hq.ok x;have o5:=oF x hq.bot;have o6:=pU x depth hq.len;have o7:(Pr.fM q x).en=q.en:=by unfold Pr.fM;cases q.st<;>rfl
  have o8:(Pr.fM q x).row=q.row:=by unfold Pr.fM;cases q.st<;>rfl
  obtain⟨q1,hq1⟩:=fq (Pr.fM q x);rw[hq1]at o1 o2 o3 o4 o5 o6 o7 o8⊢;obtain⟨p1,p2,p3,p4,p5,p6,p7,p8⟩:=vY l depth r.bu (Rw.iP l r).1 q1 o1 o5 o6;have p9:=KA (P:=λ_=>False) l depth r.bu (Rw.iP l r).1 q1 o1;obtain⟨K,hK⟩:=fq (Pr.places l depth r.bu q1 (Rw.iP l r).1);rw[hK]at p1 p2 p3 p4 p5 p6 p7 p8 p9⊢;rw[o4]at p9;rw[o7]at p5;rw[o8]at p4;split
  ·split
   ·refine(p9.trans (zV (P:=λ_=>False) l K.2.s (Pr.mq K.2.st) 7 (Rw.iP l r).2 r.bu (by decide)) (λ_ _ h=>h)).mono (λj hj=>?_);exact(hj.elim id id).elim
   have h9:=OG (depth:=depth) (q:=K.2) (i:=(Rw.iP l r).2) (by rw[p4];exact hrow) (by rw[p5];exact hre) (by rw[p5];exact hq.en) hl;refine(p9.trans h9 (λ_ h _=>h)).mono (λj hj=>?_);rcases hj with hj|hj
   ·exact hj.elim
   exact⟨by omega,hj.2⟩
  exact p9.mono (λj hj=>hj.elim)
 unfold Pr.jY;dsimp only;split
 ·obtain⟨o1,o2,o3,o4,-⟩:=Pr.lZ hq.ok (Ps.lo l r.from' r.bu);have f:=zV (P:=λ_=>False) l (Pr.fM q (Ps.lo l r.from' r.bu)).s (Pr.mq (Pr.fM q (Ps.lo l r.from' r.bu)).st) 8 (Ps.lo l r.from' r.bu) r.bu (by decide);rw[o4]at f;exact f.mono (λj hj=>hj.elim)
 exact Fe.N9.refl _
end
section
open Ar Fl
open Rw (R E)
open Fe (N9)
theorem uU:∀(f op at':Nat)(l:List Tk),(Rw.jP f op at' l).length<=f
 |0,_,_,_=>ic _
 |f+1,op,at',l=>by
  rw[Rw.jP];by_cases hl:l=[]
  ·rw[eY hl];exact ic _
  rw[eX hl,jh];have:=uU f;exact Nat.succ_le_succ (this _ _ _)
theorem MB(l:List Tk):(Rw.fA l).length<=l.length:=uU _ _ _ _
theorem C8{l:List Tk}{b:Nat}:∀(es:List E)(p:Nat),Ps.nR l b p es->es.length<=b-p
 |[],p,_=>ic _
 |e::r,p,⟨h1,h2,h3,h4⟩=>by
  have:=C8 r e.bu h4;rw[jh];omega
theorem KC{l:List Tk}{b:Nat}:∀(es:List E)(p:Nat),Ps.nR l b p es->∀e∈es,e.bu<=b
 |[],p,_=>λe he=>by cases he
 |x::r,p,⟨h1,h2,h3,h4⟩=>λe he=>by
  rcases l5.1 he with rfl|he
  ·exact h3
  exact KC r _ h4 e he
def big(n:Nat):Nat:=n*400000
theorem Gt(n:Nat):big (n+1)=big n+400000:=by unfold big;omega
theorem xq{n m:Nat}(h:n<=m):big n<=big m:=Hy _ h
structure Run(l:List Tk)(depth:Nat)(q:Pr.QS):Prop where
 with':∃p:Ps.PS,q.st=Pr.BK p/\q.s=p.s/\Pr.Wf p/\Ps.Inv l (0,(Ps.start l).s) p.read p/\∀r,(Rw.fA l)[q.row]?=some r->p.read=r.from'/\q.en=Ps.limit l r.from'
 ok:YA l depth q
 nine:N9 l (λj=>j<l.length/\∀r,(Rw.fA l)[q.row]?=some r->j<r.from') [] q.s.d
 sz:q.s.t.length<=1+big q.row
 dz:q.s.d.length<=big q.row
 fin:∃f,(Rw.fA l).length<=f+q.row/\(Pr.Ia l (Rw.fA l) depth f q).s=Pr.read l depth
 le:q.row<=(Rw.fA l).length
structure Y7(l:List Tk)(depth:Nat)(q:Pr.QS)(r:R):Prop where
 lt:r.from'<r.bu
 jr:r.bu<=l.length
 el:(Rw.iP l r).1.length<=100000
 es:r.kind=5->∀e∈(Rw.iP l r).1,0<=e.fG/\Fl.cnt (Fl.raw l e.from')=true/\e.from'<e.bu/\e.bu<=r.bu
 re:(Rw.iP l r).2<=r.bu/\(Rw.iP l r).2<=q.en
 Zh:Pr.skip (Rw.fA l) q.row (Fl.jd l (Ps.limit l (r.from'+1)) depth 0 (r.from'+1) ⟨gV l.length,[]⟩).2.1<(Rw.fA l).length
 Zi:∀d,Pr.skip (Rw.fA l) q.row (Fl.jd l q.en d 0 (Rw.iP l r).2 ⟨gV l.length,[]⟩).2.1<(Rw.fA l).length
theorem Run.asks{l:List Tk}{depth:Nat}{q:Pr.QS}{r:R}(ht:Rw.kK 0 l)(hS:Pr.Q6 l)(hl:l.length<=32768)(h:Run l depth q)(hrow:(Rw.fA l)[q.row]?=some r):Y7 l depth q r:=by
 obtain⟨p,p1,p2,p3,p4,p5⟩:=h.with';obtain⟨g1,g2⟩:=p5 r hrow;have hmem:=iK hrow;have hro:=Ps.rows_ok l r hmem;have hlt:=hro.lt;have hle:=hro.le;have hlim:=Pr.DC l (i:=r.from') (by omega);have hre:(Rw.iP l r).1.length<=100000/\(Rw.iP l r).2<=r.bu/\(Rw.iP l r).2<=q.en:=by
  by_cases h5:r.kind=5
  ·obtain⟨n1,n2,n3,n4⟩:=Ps.wN ht hro h5;have hb:=iV l r.bu (Ps.lo l r.from' r.bu);have:=C8 _ _ n1
   have e1:Ps.limit l r.from'=Ps.limit l r.bu:=Pr.uO (by omega) hle (λj a b=>by
    rcases kS r.from' j with g|g
    ·exact hS.mark r hmem j g b
    obtain rfl:j=r.from':=by omega
    have:=hS.first r hmem;refine⟨λh=>?_,λh=>?_⟩
    ·have:=this.2 (.inl h);omega
    have:=this.2 (.inr h);omega)
   have e2:=Pr.DC l (i:=r.bu) hle;exact⟨by omega,n4,by rw[g2,e1];omega⟩
  have e:Rw.iP l r=([],r.from'):=by unfold Rw.iP;rw[eX h5]
  rw[e];exact⟨ic _,by dsimp only;omega,by dsimp only;rw[g2];exact hlim.1⟩
 refine⟨hlt,hle,hre.1,λh5 e he=>?_,hre.2,?_,λd=>?_⟩
 ·obtain⟨n1,n2,n3,n4⟩:=Ps.wN ht hro h5;have hb:=iV l r.bu (Ps.lo l r.from' r.bu);have hf:=Pr.CG ht hro h5 e he;have hg:=Pr.wR _ _ n1 e he;have hto:=KC _ _ n1 e he;exact⟨hf.fG,hf.cnt,hg.2,by omega⟩
 ·obtain⟨k1,k2⟩:=uo l (r.from'+1) (by omega);have hsz:=(Pr.rA l (Ps.limit l (r.from'+1)) depth (r.from'+1) l.length k1 k2 hl).2.2.1;obtain⟨j,r',s1,s2,s3,s4,s5⟩:=Pr.zh hrow (next:=(Fl.jd l (Ps.limit l (r.from'+1)) depth 0 (r.from'+1) ⟨gV l.length,[]⟩).2.1) (by omega);rw[s1];exact(gD.1 s3).1
 have hen:=h.ok.en;have hsz:=(Pr.rA l q.en d (Rw.iP l r).2 l.length hre.2.2 hen hl).2.2.1;obtain⟨j,r',s1,s2,s3,s4,s5⟩:=Pr.zh hrow (next:=(Fl.jd l q.en d 0 (Rw.iP l r).2 ⟨gV l.length,[]⟩).2.1) (by omega);rw[s1];exact(gD.1 s3).1
theorem Run.start{l:List Tk}{depth:Nat}(hl:l.length<=32768):Run l depth (Pr.start l):=by
 refine⟨⟨Ps.start l,rfl,rfl,⟨trivial,λh=>absurd rfl h⟩,Ps.ui _ hl,λr hr=>?_⟩,⟨⟨?_,λv hv=>by cases hv⟩,.inl rfl,ic _,(uo l 0 (ic _)).2⟩,Fe.N9.refl _,?_,ic _,⟨(Rw.fA l).length,fB _,rfl⟩,ic _⟩
 ·have h0:=(Pr.rws l).zero r hr;exact⟨by rw[h0];rfl,by rw[h0];rfl⟩
 ·show 0<(gV (l.length:Int)).length
  rw[show(gV (l.length:Int)).length=1 by unfold gV;rw[eX (by omega)];rfl];omega
 show(gV (l.length:Int)).length<=_;rw[show(gV (l.length:Int)).length=1 by unfold gV;rw[eX (by omega)];rfl];omega
theorem Run.step{l:List Tk}{depth:Nat}{q:Pr.QS}{r:R}(ht:Rw.kK 0 l)(hS:Pr.Q6 l)(hl:l.length<=32768)(h:Run l depth q)(hrow:(Rw.fA l)[q.row]?=some r):
 q.row<=(Pr.step l (Rw.fA l) depth q r).row/\(Pr.step l (Rw.fA l) depth q r).row<(Rw.fA l).length/\Run l depth {Pr.step l (Rw.fA l) depth q r with row:=(Pr.step l (Rw.fA l) depth q r).row+1}:=by
 have hA:=h.asks ht hS hl hrow;obtain⟨p,p1,p2,p3,p4,p5⟩:=h.with';obtain⟨g1,g2⟩:=p5 r hrow;have hmem:=iK hrow;have hF:=Pr.Kg (depth:=depth) ht hS hl hrow p1 p2 p3 p4 g1 (ic _) g2;have hok:=Ps.Ir (depth:=depth) ht p4 (Ps.rows_ok l r hmem) (ic _) (by omega);obtain⟨k1,k2,k3⟩:=step_ok (rs:=Rw.fA l) h.ok hl (by have:=hA.lt;have:=hA.jr;omega) hA.el hA.re.2;have k9:=Yr (depth:=depth) ht hl hrow h.ok hA.re.2;have h9:=h.nine;have hsz:=h.sz;have hdz:=h.dz;obtain⟨f,f1,f2⟩:=h.fin;obtain⟨hi,-⟩:=gD.1 hrow;obtain⟨P,hP⟩:=fq (Ps.row l (Rw.fA l) depth p r);rw[hP]at hF hok;have ae:∃f',f=f'+1:=⟨f-1,by omega⟩
 obtain⟨f',rfl⟩:=ae;rw[Pr.Ia,hrow]at f2;dsimp only at f2;obtain⟨Q,hQ⟩:=fq (Pr.step l (Rw.fA l) depth q r);rw[hQ]at hF k1 k2 k3 k9 f2⊢;obtain⟨b1,r',b2,b3⟩:=hF.row;have aa:=(gD.1 b2).1;have hrr:r.bu<=r'.bu:=by
  by_cases e:Q.row=q.row
  ·rw[e,hrow]at b2;obtain rfl:=jl b2;exact fB _
  have:=Pr.vg (Pr.rws l) hrow b2 (by omega);have:=(Ps.rows_ok l r' (iK b2)).lt;omega
 have hlt:=hA.lt;have hnx:∀x,(Rw.fA l)[Q.row+1]?=some x->x.from'=r'.bu:=λx hx=>(Pr.rws l).next Q.row r' x b2 hx
 refine⟨b1,aa,⟨P,hF.st,hF.s,hF.wf,hok.1,λx hx=>?_⟩,⟨⟨k1.ok.pos,k1.ok.lv⟩,k1.bot,k1.len,k1.en⟩,?_,?_,?_,⟨f',?_,f2⟩,aa⟩
 ·have h4:=hnx x hx;exact⟨by omega,by show Q.en=_;rw[<-hF.lim,<-b3,h4]⟩
 ·rw[Pr.nC b2]at k9;have af:=(Ps.rows_ok l r' (iK b2)).le;refine(h9.trans k9 (λj a b=>?_)).mono (λj hj=>⟨?_,λx hx=>?_⟩)
  ·have:=a.2 r hrow;omega
  ·rcases hj with hj|hj
   ·exact hj.1
   omega
  have h4:=hnx x hx;rcases hj with hj|hj
  ·have:=hj.2 r hrow;omega
  omega
 ·show Q.s.t.length<=1+big (Q.row+1);have h1:=Gt Q.row;have h2:=xq b1;omega
 ·show Q.s.d.length<=big (Q.row+1);have h1:=Gt Q.row;have h2:=xq b1;omega
 show _<=f'+(Q.row+1)
 omega
theorem Run.done{l:List Tk}{depth:Nat}{q:Pr.QS}(h:Run l depth q)(hq:(Rw.fA l).length<=q.row):q.s=Pr.read l depth:=by
 obtain⟨f,f1,f2⟩:=h.fin;have hn:(Rw.fA l)[q.row]?=none:=rC hq;cases f with
 |zero=>exact f2
 |succ f=>rw[Pr.Ia,hn]at f2;exact f2
end
section
open Ar Fl
open Rw (R E)
open Fe (N9)
instance Zj:DecidableEq Dg:=λa b=>decidable_of_iff (Ps.same a b=true) (Ps.same_iff a b)
theorem OH:∀(f p:Nat)(l:List Nat),(∀x∈Ps.mW f p l,p<=x)/\(Ps.mW f p l).Pairwise (·<·)
 |0,p,l=>⟨λx hx=>(by cases hx),.nil⟩
 |f+1,p,l=>by
  rw[Ps.mW];by_cases hl:l=[]
  ·rw[eY hl];exact⟨λx hx=>(by cases hx),.nil⟩
  rw[eX hl];obtain⟨c,r,rfl⟩:=List.exists_cons_of_ne_nil hl;have hp:=Sc.za c r;obtain⟨h1,h2⟩:=OH f (p+(Sc.xE (c::r)).2) ((c::r).drop (Sc.xE (c::r)).2);split
  ·refine⟨λx hx=>?_,?_⟩
   ·rcases l5.1 hx with rfl|hx
    ·exact fB _
    have:=h1 x hx;omega
   rw[zF];exact⟨λy hy=>by have:=h1 y hy;omega,h2⟩
  exact⟨λx hx=>by have:=h1 x hx;omega,h2⟩
theorem NF:∀(f p:Nat)(l:List UInt8),(∀x∈(Qo.zC f p l).2.1,p<=x)/\(Qo.zC f p l).2.1.Pairwise (·<·)
 |0,_,_=>⟨λx hx=>(by cases hx),.nil⟩
 |_+1,_,[]=>⟨λx hx=>(by cases hx),.nil⟩
 |f+1,p,c::r=>by
  rw[Qo.zC];by_cases q:c=34
  ·rw[eY q];exact⟨λx hx=>(by cases hx),.nil⟩
  rw[eX q];obtain⟨h1,h2⟩:=NF f (p+1) r;by_cases q2:c=92
  ·rw[eY q2];cases he:Es.esc (c::r)with
   |none=>
    dsimp only;refine⟨λx hx=>?_,?_⟩
    ·rcases l5.1 hx with rfl|hx
     ·exact fB _
     have:=h1 x hx;omega
    rw[zF];exact⟨λy hy=>by have:=h1 y hy;omega,h2⟩
   |some y=>
    obtain⟨v,k⟩:=y;dsimp only;obtain⟨g1,g2⟩:=NF f (p+k) ((c::r).drop k);exact⟨λx hx=>by have:=g1 x hx;omega,g2⟩
  rw[eX q2];exact⟨λx hx=>by have:=h1 x hx;omega,h2⟩
theorem KD(kind:Int)(l:List UInt8):(Qo.ma kind l).2.1.Pairwise (·<·):=by
 unfold Qo.ma;split
 ·exact .nil
 split
 ·exact .nil
 split
 ·exact .nil
 split
 ·exact(NF _ _ _).2
 exact .nil
theorem zA{l:List Tk}(ht:Rw.kK 0 l){i j:Nat}(hij:i<j)(hj:j<l.length):mM l i<mM l j:=by
 have hi:l[i]?=some l[i]:=mR (by omega);have hj':l[j]?=some l[j]:=mR hj;have h1:=(ht.le i _ hi).2;have h2:=ht.lt i j _ _ hij hi hj';unfold mM;rw[hi,hj'];dsimp only;omega
def Xm(a b:Dg):Prop:=a.f<b.f\/a.code<b.code
theorem AA{b:List Nat}{l:List Tk}{r:R}{x:Dg}(h:x∈Ps.tabs b l r):x.code=2/\∃j,r.from'<=j/\j<r.bu/\x.f=mM l j:=by
 unfold Ps.tabs at h;split at h
 ·obtain⟨i,hi,hx⟩:=List.mem_filterMap.1 h;rw[Hq]at hi;have:=Ps.kQ l r.from' r.bu;split at hx
  ·obtain rfl:=jl hx;refine⟨rfl,r.from'+i,by omega,?_,rfl⟩;by_cases hlt:r.from'<=r.bu
   ·have:=Ps.lo_le l hlt;omega
   have:Ps.lo l r.from' r.bu=r.from':=by
    unfold Ps.lo;rw[show r.bu-r.from'=0 by omega];rfl
   omega
  cases hx
 cases h
theorem Uv{b:List Nat}{l:List Tk}(ht:Rw.kK 0 l){r:R}(hr:r.bu<=l.length)(hlt:r.from'<r.bu):(Ps.tabs b l r).Pairwise Xm:=by
 unfold Ps.tabs;split
 ·refine List.Pairwise.filterMap _ (R:=fun(i j:Nat)=>i<j/\j<Ps.lo l r.from' r.bu-r.from') (λi j hij x hx y hy=>?_) ?_
  ·split at hx
   ·split at hy
    ·obtain rfl:=jl hx;obtain rfl:=jl hy;have:=Ps.lo_le l (nX hlt);exact .inl (zA ht (by omega) (by omega))
    cases hy
   cases hx
  refine Ri (fun{a b} ha hb hab=>?_) (List.pairwise_lt_range (n:=Ps.lo l r.from' r.bu-r.from'));exact⟨hab,Hq.1 hb⟩
 exact .nil
theorem Uw{l:List Tk}:(Rw.fA l).Pairwise (λr r'=>r.bu<=r'.from'):=by
 rw[Rz];intro i j hi hj hij;exact Pr.vg (Pr.rws l) (mR hi) (mR hj) hij
theorem Bu{b:List Nat}{x:Tk}{y:Dg}(hx:x.2.1<x.2.2)(h:y∈Ps.je b x):(y.code=3\/y.code=4)/\x.2.1<=y.f/\y.f<x.2.2:=by
 unfold Ps.je at h;split at h
 ·rcases mU.1 h with h|h
  ·split at h
   ·cases h
   obtain rfl:=vF.1 h;exact⟨.inl rfl,fB _,hx⟩
  obtain⟨k,hk,rfl⟩:=xJ.1 h;have:=Ps.Au _ _ k hk;unfold Ps.part at this;rw[jD,kD,iT]at this;exact⟨.inr rfl,by dsimp only;omega,by dsimp only;omega⟩
 cases h
theorem MC{b:List Nat}{x:Tk}:(Ps.je b x).Pairwise Xm:=by
 unfold Ps.je;split
 ·dsimp only;rw[Ry];refine⟨?_,?_,λa ha y hy=>?_⟩
  ·split
   ·exact .nil
   exact XE _ _
  ·rw[Vt];exact(KD _ _).imp (λh=>.inl (by dsimp only;omega))
  split at ha
  ·cases ha
  obtain rfl:=vF.1 ha;obtain⟨k,hk,rfl⟩:=xJ.1 hy;exact .inr (by dsimp only;omega)
 exact .nil
theorem Jq{b:List Nat}(x:Tk)(y:Dg)(h:y∈Ps.je b x):y.code=3\/y.code=4:=by
 unfold Ps.je at h;split at h
 ·rcases mU.1 h with h|h
  ·split at h
   ·cases h
   obtain rfl:=vF.1 h;exact .inl rfl
  obtain⟨k,hk,rfl⟩:=xJ.1 h;exact .inr rfl
 cases h
theorem Xl{a b:Dg}(h:Xm a b)(hc:a.code<=b.code):a≠b:=by
 rintro rfl;unfold Xm at h;omega
theorem ME(b:List Nat):(Ps.nM b (Sc.tokens b)).Nodup:=by
 have ht:=Rw.kW b;obtain⟨l,hl⟩:=fq (Sc.tokens b);rw[hl]at ht⊢;have h1:∀x∈(Ps.mW b.length 0 b).map (λp=>(⟨1,p,p+1⟩:Dg)),x.code=1:=λx hx=>by
  obtain⟨p,_,rfl⟩:=xJ.1 hx;rfl
 have h2:∀x∈(Rw.fA l).flatMap (Ps.tabs b l),x.code=2:=λx hx=>by
  obtain⟨r,_,hx⟩:=KL.1 hx;exact(AA hx).1
 have h3:∀x∈l.flatMap (Ps.je b),x.code=3\/x.code=4:=λx hx=>by
  obtain⟨r,_,hx⟩:=KL.1 hx;exact Jq r x hx
 unfold Ps.nM;unfold List.Nodup;rw[Ry,Ry];refine⟨⟨?_,?_,λx hx y hy e=>?_⟩,?_,λx hx y hy e=>?_⟩
 ·rw[Vt];refine(OH _ _ _).2.imp (fun{x y} h e=>?_);have:=congrArg Dg.f e;dsimp only at this;omega
 ·refine Ri (R:=Xm) (fun{x y} hx hy h=>Xl h (by rw[h2 x hx,h2 y hy];exact fB _)) ?_;rw[XD];refine⟨λr hr=>?_,?_⟩
  ·have:=Ps.rows_ok l r hr;exact Uv ht this.le this.lt
  refine Ri (fun{r r'} hr hr' hle x hx y hy=>?_) (Uw (l:=l));obtain⟨_,i,_,i2,i3⟩:=AA hx;obtain⟨_,j,j1,j2,j3⟩:=AA hy;have:=(Ps.rows_ok l r' hr').le;exact .inl (by rw[i3,j3];exact zA ht (by omega) (by omega))
 ·have:=h1 x hx;have:=h2 y hy;subst e;omega
 ·have key:(l.flatMap (Ps.je b)).Pairwise (λx y=>Xm x y/\(x.f<y.f\/x.code<=y.code)):=by
   rw[XD];refine⟨λx hx=>?_,?_⟩
   ·exact(MC (b:=b) (x:=x)).imp_of_mem (fun{y z} hy hz h=>⟨h,by rcases h with h|h;exact .inl h;exact .inr (by omega)⟩)
   rw[Rz];intro i j hi hj hij x hx y hy;have gi:l[i]?=some l[i]:=mR hi;have gj:l[j]?=some l[j]:=mR hj;have k1:=(ht.le i _ gi).2;have k2:=(ht.le j _ gj).2;have k3:=ht.lt i j _ _ hij gi gj;have m1:=(Bu k1 hx).2;have m2:=(Bu k2 hy).2;exact⟨.inl (by omega),.inl (by omega)⟩
  refine key.imp (fun{x y} h e=>?_);subst e;rcases h.1 with h|h<;>omega
 rcases mU.1 hx with hx|hx
 ·have:=h1 x hx;have:=h3 y hy;subst e;omega
 have:=h2 x hx;have:=h3 y hy;subst e;omega
theorem MF(b:List Nat)(depth:Nat)(hb:b.length<=16384)(g:Nat×Nat):(Ps.read (Sc.tokens b) depth).d.countP (Ps.over g)<=1:=by
 have ht:=Rw.kW b;have hl:=vV b;obtain⟨h1,h2,h3,h4⟩:=Ps.J2 (Sc.tokens b) depth ht (by omega);have hcode:∀x∈(Ps.read (Sc.tokens b) depth).d,5<=x.code/\x.code<=10:=λx hx=>by obtain⟨f,t,_,_,_,_,_,g1,g2⟩:=h4 x hx;exact⟨g1,g2⟩
 have aa:Fe.errs (Sc.tokens b) (Ps.read (Sc.tokens b) depth).t g=(Ps.read (Sc.tokens b) depth).d.countP (Ps.over g):=by
  rw[<-Ps.Mm (Ps.read (Sc.tokens b) depth).d hcode g];exact h3 g
 rw[<-aa];rcases uB (Fe.errs (Sc.tokens b) (Ps.read (Sc.tokens b) depth).t g)with h|h
 ·omega
 have h':0<Fe.errs (Sc.tokens b) (Ps.read (Sc.tokens b) depth).t g:=h
 unfold Fe.errs at h';rw[Xw]at h';obtain⟨x,hx,hp⟩:=h';obtain⟨i,hi⟩:=lh hx;rw[qH,qH,uD,uD,uD]at hp;have:=Ps.P5 ht h1 h2 hi hp.1;rw[show g=(mM (Sc.tokens b) x.f.toNat,too (Sc.tokens b) (x.t-1).toNat)by rw[hp.2.1,hp.2.2]];exact Nat.le_of_eq this
theorem QP(b:List Nat)(depth:Nat)(hb:b.length<=16384)(h9:N9 (Sc.tokens b) (λj=>j<(Sc.tokens b).length) [] (Ps.read (Sc.tokens b) depth).d):
 ((Ps.read (Sc.tokens b) depth).d++Ps.nM b (Sc.tokens b)).Nodup:=by
 have ht:=Rw.kW b;have hl:=vV b;obtain⟨h1,h2,h3,h4⟩:=Ps.J2 (Sc.tokens b) depth ht (by omega);have hcode:∀x∈(Ps.read (Sc.tokens b) depth).d,5<=x.code/\x.code<=10:=λx hx=>by obtain⟨f,t,_,_,_,_,_,g1,g2⟩:=h4 x hx;exact⟨g1,g2⟩
 have hov:=MF b depth hb;obtain⟨l,hll⟩:=fq (Sc.tokens b);obtain⟨D,hD⟩:=fq ((Ps.read (Sc.tokens b) depth).d);have hto:=ME b;have hti:=Ps.Uh b;rw[hll]at ht hto hti h9 hD hcode hov⊢;rw[hD]at h9 hcode hov⊢;rw[List.nodup_append];refine⟨?_,hto,λx hx y hy e=>?_⟩
 ·rw[XC];intro x;by_cases hc:x.code=9
  ·obtain⟨ds,js,e1,e2,e3,e4⟩:=h9;rw[Rx]at e1;subst e1;have e5:D.count x=(D.filter (λy=>y.code==9)).count x:=by
    rw[List.count_filter (by simpa using hc)]
   rw[e5,e2];have hnd:(js.map (Fe.nine l)).Nodup:=by
    unfold List.Nodup;rw[Vt];refine Ri (fun{i j} hi hj hij e=>?_) e3;have hf:=congrArg Dg.f e;have hf:mM l i=mM l j:=hf;rcases Nat.lt_or_gt_of_ne hij with h|h
    ·have:=zA ht h (e4 j hj);omega
    have:=zA ht h (e4 i hi);omega
   exact XC.1 hnd x
  by_cases hm:x∈D
  ·have hcx:=hcode x hm;have hb:Ps.zw x=true:=by
    unfold Ps.zw;simp;omega
   refine jU ?_ (hov (x.f,x.t));unfold List.count;refine List.countP_mono_left (λy hy he=>?_);have he:y=x:=by simpa using he
   subst he;unfold Ps.over;rw[hb];simp
  rw[List.count_eq_zero_of_not_mem hm];omega
 have:=hcode x hx;have:=(hti y hy).2.2;subst e;omega
theorem MG{d s:List Dg}(hp:s.Perm d)(ho:s.Pairwise (λa b=>Ps.less b a=false))(hd:d.Nodup):s=Ps.yF d:=by
 refine Ps.Ob ?_ (Ps.Po d) (λy=>by rw[Ps.Pp];exact hp.mem_iff);have hn:s.Nodup:=hp.nodup_iff.2 hd;unfold Ps.Ih;unfold List.Nodup at hn
 exact(ho.and hn).imp (λh=>by
  have h1:=Ps.FI h.1 (λe=>h.2 e.symm)
  exact h1)
end
section
open Go.RowKit
open Sq
open Ar
def XQ(w:World)(B:Nat)(u:Value)(R:List Nd):Prop:=∃L,L.map Ln.nd=R/\OT w B u L
theorem Yt(n:Int)(w:World):Calls prog 20 #[.int .i64 n] w (λe w'=>∃u,e=.returned (.agg #[u])/\XQ w' w.heap.size u (gV n)/\Below w.heap.size w w'):=by
 obtain⟨m,hm⟩:=fq ((if n<0\/32768<n then 0 else n));have e:gV n=[⟨1,0,m,-1,[],false⟩]:=by unfold gV;rw[hm]
 have hO:=λu=>(⟨_,rfl,J6 w u ⟨1,0,m,-1,[],false⟩ rfl⟩:XQ _ w.heap.size _ [⟨1,0,m,-1,[],false⟩])
 have HO:=eZ hO;rw[e];have HB:=eZ (λo o'=>gX (fo w o) o');clear e hO;by_cases h1:n<0
 ·rw[eY (.inl h1)]at hm;subst hm
  go_enter func20,ntmps20
  go_wp2;refine pW (v:=.agg #[.slice (some ⟨w.heap.size+1,0,none⟩) 1 1]) ?_ rfl ⟨_,rfl,HO.out _,HB.out _ _⟩;simp[results,results20,go_sem]
 by_cases h2:32768<n
 ·rw[eY (.inr h2)]at hm;subst hm
  go_enter func20,ntmps20
  go_wp2;refine pW (v:=.agg #[.slice (some ⟨w.heap.size+1,0,none⟩) 1 1]) ?_ rfl ⟨_,rfl,HO.out _,HB.out _ _⟩;simp[results,results20,go_sem]
 rw[eX (λh=>h.elim h1 h2)]at hm;subst hm
 go_enter func20,ntmps20
 go_wp2;refine pW (v:=.agg #[.slice (some ⟨w.heap.size+1,0,none⟩) 1 1]) ?_ rfl ⟨_,rfl,HO.out _,HB.out _ _⟩;simp[results,results20,go_sem]
theorem qx{w:World}{B e s n:Nat}{v:Value}{xs:List Value}(h:w.ownsRow B e s v n xs){b:Nat}(hb:b<B)(o:Nat)(u:Value):(w.setCell ⟨b,o,none⟩ u).ownsRow B e s v n xs:=
 fU h (λk hk=>jf _ _ _ _ (by have:=(h.lt k hk).1;show k≠b;omega))
theorem OT.vN{w:World}{B:Nat}{v:Value}{L:List Ln}(h:OT w B v L){b:Nat}(hb:b<B)(o:Nat)(u:Value):OT (w.setCell ⟨b,o,none⟩ u) B v L:=
 ⟨qx h.row hb o u,λi p hp=>qx (h.kids i p hp) hb o u,h.apart⟩
theorem fV.jW{w2 w3 W4:World}{rb:Nat}{c:Ctx}{nv:Value}{L:List Ln}{n:Int}(hc:Fa c w2)(hb:Below w2.heap.size w2 w3)(hO:OT w3 w2.heap.size nv L)(hL:L.map Ln.nd=gV n)(hrb:w3.heap.size=rb)
 (hW:w3.alloc (.cells (jN c nv (.slice none 0 0) (.slice none 0 0) 0 0) 58)=W4):
 ∃R,fV w2 W4 rb c ⟨⟨gV n,[]⟩,0,0,[]⟩ (.slice none 0 0) R:=by
 subst hW hrb;have hal:=fo w3 (.cells (jN c nv (.slice none 0 0) (.slice none 0 0) 0 0) 58);refine⟨_,nv,.slice none 0 0,L,⟨hb.trans (hal.mono hb.size),hc,hb.size,j5 _ _,hO.below hal,kY ib _ _,kY pg _ _⟩,hL,⟨λi x h0 hx=>?_,λx hx=>?_⟩,rfl⟩
 ·have hx:(gV n)[i]?=some x:=hx;unfold gV at hx;cases i with
  |zero=>omega
  |succ i=>simp at hx
 have hx:x∈gV n:=hx;unfold gV at hx;obtain rfl:=vF.1 hx;exact ic _
theorem fV.Ux{w0 w:World}{rb:Nat}{c:Ctx}{q:Pr.QS}{lv:Value}{R:Nat->Prop}(hS:fV w0 w rb c q lv R){ra:Option Addr}{n rc k:Nat}{x:Rw.R}(hn:c.rs.length=n)(aa:c.rv=.slice ra n rc)(hx:c.rs[k]?=some x):
 w.cell? ⟨rb,2,none⟩=some (.slice ra n rc)/\w.cell? ⟨rb,6,none⟩=some (.int .i64 (q.row:Int))/\∃b off,ra=some ⟨b,off,none⟩/\w.cell? ⟨b,off+k*4,none⟩=some (.int .i64 x.kind)/\w.cell? ⟨b,off+k*4+1,none⟩=some (.int .i64 x.from')/\w.cell? ⟨b,off+k*4+2,none⟩=some (.int .i64 x.bu)/\w.cell? ⟨b,off+k*4+3,none⟩=some (.int .i64 x.fG):=by
 obtain⟨nv,dv,L,hM,hL,hTr,rfl⟩:=hS;subst hn;have hr:=hM.ctx.rows.below hM.lu;rw[aa]at hr;obtain⟨b,off,e,h1,h2,h3,h4⟩:=Ah hr k x hx;exact⟨by rw[<-aa];exact Yx hM.box,Q7 hM.box,b,off,e,h1,h2,h3,h4⟩
theorem fV.two{w0 w:World}{rb:Nat}{c:Ctx}{q:Pr.QS}{lv:Value}{R:Nat->Prop}(hS:fV w0 w rb c q lv R):w.cell? ⟨rb,2,none⟩=some c.rv/\w.cell? ⟨rb,6,none⟩=some (.int .i64 (q.row:Int))/\w.frozen? ⟨rb,6,none⟩=false:=by
 obtain⟨nv,dv,L,hM,hL,hTr,rfl⟩:=hS;exact⟨Yx hM.box,Q7 hM.box,hM.free 6⟩
theorem MH{n:Nat}:∀l:List Nat,l.Pairwise (·<·)->(∀x∈l,x<n)->l.length<=n:=by
 have key:∀(l:List Nat)(p:Nat),l.Pairwise (·<·)->(∀x∈l,p<=x/\x<n)->p<=n->p+l.length<=n:=by
  intro l
  induction l with
  |nil=>intro p _ _ h;exact h
  |cons x r ih=>
   intro p h1 h2 _;rw[zF]at h1;have hx:=h2 x (by simp);have:=ih (x+1) h1.2 (λy hy=>⟨h1.1 y hy,(h2 y (by simp[hy])).2⟩) (by omega);rw[jh];omega
 intro l h1 h2;have:=key l 0 h1 (λx hx=>⟨ic _,h2 x hx⟩) (ic _);omega
theorem Uy(b:ByteArray)(hb:b.size<=100000):∀x∈Sc.tokens (Sc.fw b),Sk b x:=λx hx=>by
 have ht:=Rw.kW (Sc.fw b);obtain⟨j,hj⟩:=lh hx;have h1:=(ht.le j x hj).2;have h2:=vk (Sc.fw b) x hx;rw[Sc.gJ]at h2;have hl:(b.extract x.2.1 x.2.2).data.toList.length<=100000:=by
  rw[KF];show(b.extract x.2.1 x.2.2).size<=_;rw[nV];omega
 have hbd:=Ps.Au (x.1:Nat) (b.extract x.2.1 x.2.2).data.toList;refine⟨nX h1,h2.2,?_,λk hk=>?_⟩
 ·have:=MH (n:=100000) _ (KD (x.1:Nat) (b.extract x.2.1 x.2.2).data.toList) (λk hk=>by have:=hbd k hk;omega);show(Qo.ma (x.1:Nat) _).2.1.length<=_;omega
 have:=hbd k hk;omega
theorem QT(l:List Tk)(rs:List Rw.R)(h:∀r∈rs,r.from'<r.bu/\r.bu<=l.length):(rs.flatMap (Pr.tabs l)).length<=rs.length*l.length:=by
 induction rs with
 |nil=>exact ic _
 |cons r rs ih=>
  rw[Da,iJ,jh,xL,Vy];have h1:=ih (λx hx=>h x (by simp[hx]));have h2:=h r (by simp);have h3:(Pr.tabs l r).length<=l.length:=by
   unfold Pr.tabs;split
   ·have:=Ps.lo_le l (nX h2.1);refine jU (Vp _ _) ?_;rw[Vq];omega
   exact ic _
  omega
def vP(X:List Tk×List Nd×List Fl.Dg)(w:World)(e:Ending)(w':World):Prop:=
 ∃tv nv dv L,e=.returned (.tuple #[tv,.agg #[nv],dv])/\w'.ownsRow w.heap.size 45 3 tv X.1.length (iU.all X.1)/\OT w' w.heap.size nv L/\L.map Ln.nd=X.2.1/\w'.ownsRow w.heap.size 40 3 dv X.2.2.length (ib.all X.2.2)/\Below w.heap.size w w'
end
section
open Go.RowKit
open Sq
open Ar
theorem NG(w:World)(bv:Value)(b:ByteArray)(depth:Nat)(hx:xF w bv b)(hT:oO w)(hb:b.size<=16384)(h1:1<=depth)(h2:depth<=50):
 Calls prog 12 #[bv,.int .i64 (depth:Int)] w (vP (Ps.tree (Sc.fw b) depth) w):=by
 obtain⟨pa,pc,hbv⟩:=hx.shape;obtain⟨BN,hBN⟩:=fq (b.size);rw[hBN]at hbv;subst hbv;clear hBN;have htl:=vV (Sc.fw b);have htb:=λx hx=>vk (Sc.fw b) x hx
 have hti:=Rw.kW (Sc.fw b);have hsc:=Pr.Zb (Sc.fw b);have hok:=Qg (Sc.fw b);have aO:=Uy b (by omega);have hread:=Pr.T8 (Sc.fw b) depth;have htold:=Pr.Qi (Sc.fw b);have ay:=QP (Sc.fw b) depth;rw[Sc.gJ]at htl ay;have aV:Ps.tree (Sc.fw b) depth=(Sc.tokens (Sc.fw b),(Ps.read (Sc.tokens (Sc.fw b)) depth).t,Ps.yF ((Ps.read (Sc.tokens (Sc.fw b)) depth).d++Ps.nM (Sc.fw b) (Sc.tokens (Sc.fw b)))):=by unfold Ps.tree;rw[eX (by omega)]
 rw[aV];have bH:=λW (hW:Below w.heap.size w W)=>Uu (.slice pa BN pc) b W (hx.below hW) (hT.below hW)
 have aM:=eZ (show∀W,Below w.heap.size w W->Calls prog 18 #[.slice pa BN pc] W (λe w'=>∃u,e=.returned u/\w'.ownsRow W.heap.size 45 3 u (Sc.tokens (Sc.fw b)).length (iU.all (Sc.tokens (Sc.fw b)))/\Below W.heap.size W w')from bH);have bY:=Sc.gJ b;have hbad:=OE b;obtain⟨T,bZ⟩:=fq (Sc.tokens (Sc.fw b));rw[bZ]at htl htb hti hsc hok aO hread htold ay aM⊢;obtain⟨Q,hQ⟩:=fq (vP (T,(Ps.read T depth).t,Ps.yF ((Ps.read T depth).d++Ps.nM (Sc.fw b) T)) w);rw[hQ];obtain⟨NT,bB⟩:=fq (T.length);obtain⟨RL,bO⟩:=fq ((Rw.fA T).length);have hrl:=MB T;have aG:∀r∈Rw.fA T,r.from'<r.bu/\r.bu<=T.length:=λr hr=>⟨(Ps.rows_ok T r hr).lt,(Ps.rows_ok T r hr).le⟩
 have htc:=QT T (Rw.fA T) aG;rw[bO]at hrl htc;rw[bB]at htl hrl htc aM;have hNs:NT<=16384:=by omega
 have hRs:RL<=16384:=by omega
 have aB:((Rw.fA T).flatMap (Pr.tabs T)).length<=300000000:=by
  have:RL*NT<=16384*16384:=Nat.mul_le_mul hRs hNs;omega
 have hfr:∀x∈T,x.2.1<=1000000:=λx hx=>by have:=(htb x hx).1;omega
 have d1:¬(depth:Int)<1:=by omega
 have d2:¬(50:Int)<(depth:Int):=by omega
 obtain⟨HX,HT,ak,az,cr,HSc⟩:=kJ hx hT bB bO hti hsc;obtain⟨cz,cB⟩:=fT hok aO;have bP:=eZ (hread (by rw[bB];omega));obtain⟨bQ,bR,HQ,aH,cK,cO⟩:=kJ htold (ay hb) hQ aG aB hfr;obtain⟨bS,cZ,bT,aI,df⟩:=sP hb hbad (And.intro h1 h2) hNs hRs;have HB0:=eZ (fo w (.cells #[.slice none 0 0] 31));obtain⟨b5,hb5⟩:=fq (w.heap.size);obtain⟨W0,hW0⟩:=fq (w.alloc (.cells #[.slice none 0 0] 31));have k5:W0.heap[b5]?=some (.cells #[.slice none 0 0] 31 (0,0)):=by rw[<-hW0,<-hb5];exact j5 _ _
 rw[hW0]at HB0;obtain⟨bC,HW0,dh⟩:=jF k5 hW0 hb5;clear aV htl htb hti hsc hok aO hread htold ay bY hbad bZ hQ bB bO hrl aG htc aB hfr hx hT hb bH hNs hRs h1 h2 k5 hW0 hb5
 go_enter func12,ntmps12
 go_wp2_with fail
 rw[HW0.out,dh.out];refine(aM.out W0 HB0.out).mono ?_;rintro e w1 ⟨tv,rfl,hown1,hb1⟩;obtain⟨ta,tc,di⟩:=(Reads.fJ (E:=iU) (show w1.ownsRow W0.heap.size 45 iU.k tv T.length (iU.all T)by rw[ak.out];exact hown1)).shape;rw[ak.out]at di;subst di;have aW:Reads iU w1 (.slice ta NT tc) T:=Reads.fJ (E:=iU) (show w1.ownsRow W0.heap.size 45 iU.k (.slice ta NT tc) T.length (iU.all T)by rw[ak.out];exact hown1);obtain⟨aJ,HB1⟩:=fT hown1 hb1;have aX:=eZ (Yq (.slice pa BN pc) (.slice ta NT tc) T w1 aW (by rw[ak.out];have:=aI.out;omega) cO.out);have bI:=eZ aW;clear hown1 hb1 aW aM d1 d2;go_wp2_with fail
 refine aX.out.mono ?_;rintro e w2 ⟨rv,rfl,hown2,hb2⟩;obtain⟨ra,rc,dm⟩:=(Reads.fJ (E:=encR) hown2).shape;rw[az.out]at dm;subst dm;obtain⟨aY,HB2⟩:=fT hown2 hb2;have bJ:=eZ (Yt (NT:Int) w2);clear hown2 hb2 aX;go_wp2_with fail
 refine bJ.out.mono ?_;rintro e w3 ⟨nv,rfl,⟨L,hL,hO⟩,hb3⟩;obtain⟨dn,dw,aZ⟩:=(Reads.fJ (E:=gP) hO.row).shape;have hL1:L.length=1:=by have:=congrArg List.length hL;rw[jD]at this;exact this
 rw[hL1]at aZ;subst aZ;clear hL1;obtain⟨c,hc⟩:∃c:Ctx,(⟨b,T,Rw.fA T,depth,.slice pa BN pc,.slice ta NT tc,.slice ra RL rc⟩:Ctx)=c:=⟨_,rfl⟩
 have cb:c.b=b:=by rw[<-hc]
 have cl:c.l=T:=by rw[<-hc]
 have af:c.rs=Rw.fA T:=by rw[<-hc]
 have cd:c.depth=depth:=by rw[<-hc]
 have aA:c.rv=.slice ra RL rc:=by rw[<-hc]
 have hok2:Fa c w2:=by
  rw[<-hc];refine⟨HX.out.below ((HB0.out.trans (HB1.out.mono HB0.out.size)).trans (HB2.out.mono (jU HB0.out.size HB1.out.size))),bI.out.below HB2.out,Reads.fJ (E:=encR) aY.out,?_,?_⟩
  ·show T.length<=32768;rw[ak.out];have:=aI.out;omega
  show(Rw.fA T).length<=32768;rw[az.out];have:=df.out;omega
 obtain⟨rb,hrb⟩:=fq (w3.heap.size);obtain⟨W4,bD⟩:=fq (w3.alloc (.cells (jN c (.slice dn 1 dw) (.slice none 0 0) (.slice none 0 0) 0 0) 58));obtain⟨R4,aP⟩:=fV.jW (n:=(NT:Int)) hok2 hb3 hO hL hrb bD;have bf:=aP.U7 (Ps.limit T 0);obtain⟨EN,bU⟩:=fq (Ps.limit T 0);have bV:=Ox rb c.tv T 0 W4 aP.tok.1 (by have:=aP.tok.2.1;rw[cl]at this;exact this) (ic _) (by rw[ak.out];have:=aI.out;omega);rw[bU]at bV bf;have f7:W4.frozen? ⟨rb,7,none⟩=false:=aP.Q8.2.2.1 7;have c7:W4.cell? ⟨rb,7,none⟩=some (.int .i64 0):=by
  obtain⟨dX,dY,L',hM,_⟩:=aP;exact YF hM.box
 have hrun:Run T depth ⟨⟨gV (NT:Int),[]⟩,0,EN,[]⟩:=by
  have:=Run.start (l:=T) (depth:=depth) (by rw[ak.out];have:=aI.out;omega);unfold Pr.start Pr.ky at this;rw[ak.out,bU]at this;exact this
 rw[<-hc]at bD;have dx:=eZ bV;have dP:=eZ (show w3.alloc (.cells #[.slice pa BN pc,.slice ta NT tc,.slice ra RL rc,.int .i64 (depth:Int),.slice dn 1 dw,.slice none 0 0,.int .i64 0,.int .i64 0,.slice none 0 0] 58)=W4 from bD);obtain⟨dQ,dA,bK⟩:=jF hrb bf.1 hrun;have HC:=eZ (And.intro cb (And.intro cl (And.intro af (And.intro cd aA))));have dB:Hid (b5<w2.heap.size/\w.heap.size<=w2.heap.size):=by
  have h5:=il bC.out;have h6:=HB1.out.size;have h7:=HB2.out.size;have h8:=HB0.out.size;exact eZ ⟨by omega,by omega⟩
 clear hok2 aP bf bV bU hrun hL hO hb3 bD hrb hc cb cl af cd aA bJ;go_wp2_with fail
 rw[dP.out,dQ.out];refine dx.out.mono ?_;rintro e w4 ⟨rfl,rfl⟩;clear dx;go_wp2_with fail
 go_loopw [] (λwr=>∃(q:Pr.QS)(lv:Value)(R:Nat->Prop),Hid (fV w2 wr rb c q lv R)/\Hid (Run T depth q)) (λwr=>RL-(intOf ((wr.cell? ⟨rb,6,none⟩).getD undef)).toNat)
 case atStart=>exact⟨_,_,_,dA,bK⟩
 case round=>
  obtain⟨q,lv,R,HP,HR⟩:=hrel;obtain⟨cb,cl,af,cd,aA⟩:=HC.out;obtain⟨c2,c6,f6⟩:=HP.out.two;rw[aA]at c2;have hle:=HR.out.le;rw[az.out]at hle;obtain⟨QR,hQR⟩:=fq (q.row);rw[hQR]at c6 hle;have hRs:=df.out;by_cases hlt:QR<RL
  ·obtain⟨r,hr⟩:=jB (Rw.fA T) QR (by rw[az.out];exact hlt);obtain⟨-,-,kb,ko,e,r0,r1,r2,r3⟩:=HP.out.Ux (n:=RL) (k:=QR) (x:=r) (by rw[af];exact az.out) aA (by rw[af];exact hr);subst e;have hasks:=HR.out.asks cr.out HSc.out (by rw[ak.out];have:=aI.out;omega) (by rw[hQR];exact hr);have hnext:=HR.out.step cr.out HSc.out (by rw[ak.out];have:=aI.out;omega) (by rw[hQR];exact hr);obtain⟨bx,hbx⟩:=fq (wr.heap.size);obtain⟨W1,hW1⟩:=fq (wr.alloc (.cells #[.int .i64 r.kind,.int .i64 r.from',.int .i64 r.bu,.int .i64 r.fG] 61));have bE:Below wr.heap.size wr W1:=hW1▸fo wr _;have kz:W1.heap[bx]?=some (.cells #[.int .i64 r.kind,.int .i64 r.from',.int .i64 r.bu,.int .i64 r.fG] 61 (0,0)):=by rw[<-hW1,<-hbx];exact j5 _ _
   have v0:W1.cell? ⟨bx,0,none⟩=some (.int .i64 (r.kind:Int)):=gG kz 0;have v1:W1.cell? ⟨bx,1,none⟩=some (.int .i64 (r.from':Int)):=gG kz 1;have v2:W1.cell? ⟨bx,2,none⟩=some (.int .i64 (r.bu:Int)):=gG kz 2;have v3:W1.cell? ⟨bx,3,none⟩=some (.int .i64 r.fG):=gG kz 3;have hP1:=HP.out.below bE;have gk:(QR:Int)<(RL:Int):=by omega
   have aQ:q.s.t.length<=7000000000/\q.s.d.length<=7000000000:=by
    have h3:=HR.out.sz;have h4:=HR.out.dz;have h5:=xq (show q.row<=16384 by omega);have h6:big 16384=6553600000:=by decide
    omega
   have hst:=HR.out.ok;obtain⟨HA,HN,aR,HW1,aS,aT⟩:=kJ hasks hnext hP1 hW1 hbx aQ;obtain⟨aK,aU⟩:=fT hst hQR;have aN:∀x∈c.rs,x.bu<=c.l.length:=λx hx=>by rw[af]at hx;rw[cl];exact(aH.out x hx).2
   have bL:=eZ aN;have dZ:=eZ (And.intro cl (And.intro af cd));have hend:∀e w5,qM W1 w5 rb c R (.tuple #[]) (Pr.step T (Rw.fA T) depth q r) e w5->True:=λ_ _ _=>trivial
   have hstep:∃F,(if r.kind=4 then Value.func (.func 39) #[RP rb] #[]else if r.kind=5 then .func (.func 40) #[RP rb] #[]else .func (.func 41) #[RP rb] #[])=F:=⟨_,rfl⟩
   clear hend hstep;by_cases h4:r.kind=4
   ·have ag:=VQ W1 rb r.kind;rw[eY h4]at ag;have hcall:=Mt w2 W1 rb c q lv R r aR.out aK.out.ok (by rw[cl];exact cz.out) HA.out.lt (by rw[cl];exact HA.out.jr) (by rw[cd];exact bT.out.2) (by have:=aT.out.1;omega) (by have:=aT.out.2;omega) bL.out (λ_=>by rw[cl,af,cd];exact HA.out.Zh);have hsx:Pr.step T (Rw.fA T) depth q r=Pr.mark c.l c.rs c.depth q r:=by unfold Pr.step;rw[eY h4,cl,af,cd]
    rw[<-hsx]at hcall;obtain⟨aj,ah⟩:=fT ag hcall;clear ag hcall hsx hP1 hasks hnext hW1 hbx bE kz aQ hst aN hQR hr cb cl af cd aA hle HC h4;go_upto_region 9 with fail
    rw[HW1.out,aS.out];clear HW1 aS r0 r1 r2 r3;go_wp2_with fail
    refine aj.out.mono ?_;rintro e w5 ⟨rfl,rfl⟩;clear aj;go_wp2_with fail
    refine ah.out.mono ?_;rintro e w5 ⟨rfl,bg,R5,hS5,aL⟩;obtain⟨bn,av,f56⟩:=hS5.two;obtain⟨n1,n2,n3⟩:=HN.out;rw[az.out]at n2;obtain⟨q5,aC⟩:=fq (Pr.step T (Rw.fA T) depth q r);rw[aC]at hS5 av n1 n2 n3;obtain⟨Q5,aD⟩:=fq (q5.row);rw[aD]at av n1 n2 n3;rw[aU.out]at n1;have aF:=eZ (hS5.setRow (Q5+1)).1;have bq:=eZ n3;clear hS5 aL aC aD bn ah HN HA aR n3 v0 v1 v2 v3 c2 c6 f6;go_wp2_with fail
    go_roundw
    case rel=>exact⟨_,bg,R5,aF,bq⟩
    case measure=>
     have e2:∀v,(w5.setCell ⟨rb,6,none⟩ v).cell? ⟨rb,6,none⟩=some v:=λv=>gU _ _ _ (by rw[av];rfl)
     have e3:wr.cell? ⟨rb,6,none⟩=some (.int .i64 (QR:Int)):=by rw[HP.out.two.2.1,aU.out]
     simp[intOf,e2,e3];omega
   by_cases h5:r.kind=5
   ·have ag:=VQ W1 rb r.kind;rw[eX h4,eY h5]at ag;have hcall:=Mv w2 W1 rb c q lv R r aR.out aK.out.ok (by rw[cl];exact cz.out) (by rw[cl];exact cO.out) HA.out.lt (by rw[cl];exact HA.out.jr) (by rw[cd];exact bT.out.2) (by have:=aT.out.1;omega) (by have:=aT.out.2;omega) bL.out aK.out.bot (by rw[cd];exact aK.out.len)
     (by rw[cl];exact HA.out.el) (by rw[cl];exact HA.out.es h5) (by rw[cl];exact HA.out.re) (by rw[cl];exact aK.out.en) (by rw[cl,af];exact HA.out.Zi)
    have hsx:Pr.step T (Rw.fA T) depth q r=Pr.body c.l c.rs c.depth q r:=by unfold Pr.step;rw[eX h4,eY h5,cl,af,cd]
    rw[<-hsx]at hcall;obtain⟨aj,ah⟩:=fT ag hcall;clear ag hcall hsx hP1 hasks hnext hW1 hbx bE kz aQ hst aN hQR hr cb cl af cd aA hle HC h5 h4;go_upto_region 9 with fail
    rw[HW1.out,aS.out];clear HW1 aS r0 r1 r2 r3;go_wp2_with fail
    refine aj.out.mono ?_;rintro e w5 ⟨rfl,rfl⟩;clear aj;go_wp2_with fail
    refine ah.out.mono ?_;rintro e w5 ⟨rfl,bg,R5,hS5,aL⟩;obtain⟨bn,av,f56⟩:=hS5.two;obtain⟨n1,n2,n3⟩:=HN.out;rw[az.out]at n2;obtain⟨q5,aC⟩:=fq (Pr.step T (Rw.fA T) depth q r);rw[aC]at hS5 av n1 n2 n3;obtain⟨Q5,aD⟩:=fq (q5.row);rw[aD]at av n1 n2 n3;rw[aU.out]at n1;have aF:=eZ (hS5.setRow (Q5+1)).1;have bq:=eZ n3;clear hS5 aL aC aD bn ah HN HA aR n3 v0 v1 v2 v3 c2 c6 f6;go_wp2_with fail
    go_roundw
    case rel=>exact⟨_,bg,R5,aF,bq⟩
    case measure=>
     have e2:∀v,(w5.setCell ⟨rb,6,none⟩ v).cell? ⟨rb,6,none⟩=some v:=λv=>gU _ _ _ (by rw[av];rfl)
     have e3:wr.cell? ⟨rb,6,none⟩=some (.int .i64 (QR:Int)):=by rw[HP.out.two.2.1,aU.out]
     simp[intOf,e2,e3];omega
   have ag:=VQ W1 rb r.kind;rw[eX h4,eX h5]at ag;have hcall:=WL w2 W1 rb c q lv R r aR.out aK.out.ok (nX HA.out.lt) (by rw[cl];exact HA.out.jr) (by have:=aT.out.1;omega) (by have:=aT.out.2;omega) (by have:=aK.out.len;have:=bT.out.2;omega);have hsx:Pr.step T (Rw.fA T) depth q r=Pr.jY c.l q r:=by unfold Pr.step;rw[eX h4,eX h5,cl]
   rw[<-hsx]at hcall;obtain⟨aj,ah⟩:=fT ag hcall;clear ag hcall hsx hP1 hasks hnext hW1 hbx bE kz aQ hst aN hQR hr cb cl af cd aA hle HC h5 h4;go_upto_region 9 with fail
   rw[HW1.out,aS.out];clear HW1 aS r0 r1 r2 r3;go_wp2_with fail
   refine aj.out.mono ?_;rintro e w5 ⟨rfl,rfl⟩;clear aj;go_wp2_with fail
   refine ah.out.mono ?_;rintro e w5 ⟨rfl,bg,R5,hS5,aL⟩;obtain⟨bn,av,f56⟩:=hS5.two;obtain⟨n1,n2,n3⟩:=HN.out;rw[az.out]at n2;obtain⟨q5,aC⟩:=fq (Pr.step T (Rw.fA T) depth q r);rw[aC]at hS5 av n1 n2 n3;obtain⟨Q5,aD⟩:=fq (q5.row);rw[aD]at av n1 n2 n3;rw[aU.out]at n1;have aF:=eZ (hS5.setRow (Q5+1)).1;have bq:=eZ n3;clear hS5 aL aC aD bn ah HN HA aR n3 v0 v1 v2 v3 c2 c6 f6;go_wp2_with fail
   go_roundw
   case rel=>exact⟨_,bg,R5,aF,bq⟩
   case measure=>
    have e2:∀v,(w5.setCell ⟨rb,6,none⟩ v).cell? ⟨rb,6,none⟩=some v:=λv=>gU _ _ _ (by rw[av];rfl)
    have e3:wr.cell? ⟨rb,6,none⟩=some (.int .i64 (QR:Int)):=by rw[HP.out.two.2.1,aU.out]
    simp[intOf,e2,e3];omega
  have dC:QR=RL:=by omega
  have gk:¬(QR:Int)<(RL:Int):=by omega
  have aQ:q.s.d.length<=7000000000:=by
   have h4:=HR.out.dz;have h5:=xq (show q.row<=16384 by omega);have h6:big 16384=6553600000:=by decide
   omega
  have hdone:q.s=Ps.read T depth:=by rw[HR.out.done (by rw[az.out,hQR];omega)];exact bP.out
  have bz:=HR.out.nine.mono (λj hj=>hj.1);have hnd:=bR.out (by rw[<-hdone];exact bz);have hall:((q.s.d++sV b)++(Rw.fA T).flatMap (Pr.tabs T))++T.flatMap (Ps.je (Sc.fw b))=(Ps.read T depth).d++Ps.nM (Sc.fw b) T:=by
   rw[hdone,<-bQ.out];unfold Pr.nM sV;rw[cZ.out];simp only[nQ]
  have hbl:(sV b).length<=16384:=by
   unfold sV;rw[jD];exact jU (Sg.z8 _ _ _) bS.out
  have bM:oO w2:=HT.out.below ((HB0.out.trans (HB1.out.mono HB0.out.size)).trans (HB2.out.mono (jU HB0.out.size HB1.out.size)));have hc1:=Jp w2 wr rb c q lv R HP.out bM (by rw[cb];have:=bS.out;omega) (by omega);rw[cb]at hc1;have hc2:=λw5 R5 hS=>Mx w2 w5 rb c ⟨⟨q.s.t,q.s.d++sV b⟩,q.row,q.en,q.st⟩ lv R5 hS (λx hx=>by rw[af]at hx;rw[cl];exact⟨nX (aH.out x hx).1,(aH.out x hx).2⟩) (by show(q.s.d++sV b).length<=_;rw[iJ];omega)
  rw[af,cl]at hc2;have aB:=cK.out;obtain⟨TB,dD⟩:=fq ((Rw.fA T).flatMap (Pr.tabs T));rw[dD]at hc2 hall aB;have hc3:=λw6 R6 hS=>Ha w2 w6 rb c ⟨⟨q.s.t,(q.s.d++sV b)++TB⟩,q.row,q.en,q.st⟩ lv R6 hS (by rw[cb];have:=bS.out;omega) (by rw[cl,cb];exact cB.out) (by show((q.s.d++sV b)++TB).length<=_;rw[iJ,iJ];omega)
  rw[cl,cb]at hc3;obtain⟨QD,bW⟩:=fq (T.flatMap (Ps.je (Sc.fw b)));rw[bW]at hc3 hall;have bX:QD.length<=40000000000:=by
   have h7:=yx b T cB.out;rw[bW,ak.out]at h7;have h8:=Hy 1000001 aI.out;omega
  have hdl:(((q.s.d++sV b)++TB)++QD).length<=1000000000000:=by
   rw[iJ,iJ,iJ];omega
  have aO:q.s.t=(Ps.read T depth).t:=by rw[hdone]
  obtain⟨dE,dF,dG,bA,dH,dI⟩:=kJ hc1 hc2 hc3 hall hnd hdl;have bN:=eZ aO;clear hc1 hc2 hc3 hall hnd hdl aO aQ hdone bz hbl bM aB dD bW bX dC hlt hQR cb cl af cd aA hle HC HP HR dA bK hRs;go_wp2_with fail
  refine dE.out.mono ?_;rintro e w5 ⟨rfl,R5,hS5,aL⟩;have dJ:=eZ hS5;clear hS5 aL dE;go_wp2_with fail
  refine(dF.out w5 R5 dJ.out).mono ?_;rintro e w6 ⟨rfl,R6,dK,dR⟩;have aF:=eZ dK;clear dK dR dF dJ;go_wp2_with fail
  refine(dG.out w6 R6 aF.out).mono ?_;rintro e w9 ⟨rfl,R9,dS,dU⟩;obtain⟨ai,ax,L9,ae,bF,dL,rfl⟩:=dS;have ae:PM w2 w9 rb c ai ax lv q.row q.en L9 (((q.s.d++sV b)++TB)++QD) q.st.reverse:=ae;have bF:L9.map Ln.nd=(Ps.read T depth).t:=by rw[<-bN.out];exact bF
  have hso:=λW (hW:Below w9.heap.size w9 W)=>TR W w2.heap.size ax (((q.s.d++sV b)++TB)++QD) (fQ ae.told hW) dI.out
  obtain⟨da,dc,hdv⟩:=(Reads.fJ (E:=ib) ae.told).shape;obtain⟨nn,hnn⟩:=fq ((((q.s.d++sV b)++TB)++QD).length);obtain⟨na,nc,aZ⟩:=(Reads.fJ (E:=gP) ae.nodes.row).shape;obtain⟨mm,hmm⟩:=fq (L9.length);have n4:w9.cell? ⟨rb,4,none⟩=some ai:=Dk ae.box;have n5:w9.cell? ⟨rb,5,none⟩=some ax:=MR ae.box;have hfin:∀aa,Sorted w9.drew w2.heap.size ax (((q.s.d++sV b)++TB)++QD) (.returned ax) aa->(aa.heap[b5]?=some (.cells #[.slice none 0 0] 31 (0,0))/\aa.cell? ⟨rb,4,none⟩=some ai/\aa.cell? ⟨rb,5,none⟩=some ax)/\Q (.returned (.tuple #[.slice ta NT tc,.agg #[ai],ax])) (aa.setCell ⟨b5,0,none⟩ ai):=by
   rintro aa ⟨-,D',hp,ho,hown,hg⟩;have hd:=MG hp ho (by rw[bA.out];exact dH.out);rw[bA.out]at hd;have hlow:=dB.out;have bG:Below w2.heap.size w2 w9:=ae.lu;have hgd:∀k,ax.ownBlock=some k->w2.heap.size<=k:=λk hk=>(ae.told.lt k hk).1
   have same:∀k,k<w2.heap.size->aa.heap[k]?=w2.heap[k]?:=λk hk=>by
    rw[hg.block k (by show k<w9.heap.size;have:=bG.size;omega) (λe=>by have:=hgd k e.symm;omega)];exact bG.block k hk
   have dV:aa.heap[b5]?=some (.cells #[.slice none 0 0] 31 (0,0)):=by
    have h5:=il bC.out;rw[same b5 hlow.1,HB2.out.block b5 (by have:=HB1.out.size;omega),HB1.out.block b5 h5];exact bC.out
   have hne:ax.ownBlock≠some rb:=λe=>fF ae.told ae.box (by decide) e
   have dM:aa.heap[rb]?=w9.heap[rb]?:=hg.block rb ae.lt (λe=>hne e.symm);have hbw:Below w.heap.size w aa:=by
    have a1:Below w.heap.size w w2:=(HB0.out.trans (HB1.out.mono HB0.out.size)).trans (HB2.out.mono (jU HB0.out.size HB1.out.size));refine(a1.trans (bG.mono hlow.2)).trans ?_;exact(fI _ w9).drew.grown hg (by show w.heap.size<=w9.heap.size;have:=bG.size;omega) (λk hk=>by have:=hgd k hk;omega)
   refine⟨⟨dV,(Nc (a:=⟨rb,4,none⟩) dM).trans n4,(Nc (a:=⟨rb,5,none⟩) dM).trans n5⟩,?_⟩;rw[<-HQ.out]
   have dW:OT aa w2.heap.size ai L9:=OT.over ae.nodes (fI _ w9).drew hg (λg hgg e=>by
    rcases hgg with hgg|⟨p,hp,hgg⟩
    ·exact fH ae.nodes.row ae.told (by decide) g hgg e
    obtain⟨j,hj⟩:=lh hp
    exact fH (ae.nodes.kids j p hj) ae.told (by decide) g hgg e)
   have ht1:aa.ownsRow W0.heap.size 45 3 (.slice ta NT tc) NT (iU.all T):=fU (fQ aJ.out HB2.out) (λk hk=>same k (by have:=(fQ aJ.out HB2.out).lt k hk;omega));have dN:b5<W0.heap.size:=il bC.out
   refine⟨.slice ta NT tc,ai,ax,L9,rfl,?_,(dW.vN hlow.1 0 ai).base hlow.2,bF,?_,?_⟩
   ·show(aa.setCell ⟨b5,0,none⟩ ai).ownsRow w.heap.size 45 3 (.slice ta NT tc) T.length (iU.all T);rw[ak.out];exact lq (qx ht1 dN 0 ai) HB0.out.size
   ·show(aa.setCell ⟨b5,0,none⟩ ai).ownsRow w.heap.size 40 3 ax _ _;rw[<-hd];exact lq (qx hown hlow.1 0 ai) hlow.2
   exact hbw.setCell (p:=⟨b5,0,none⟩) (by show w.heap.size<=b5;rw[dh.out];exact fB _) ai
  rw[hnn]at hdv;rw[hmm]at aZ;subst hdv;subst aZ;have HFin:=eZ hfin;have dO:=eZ (hso w9.drew (fI _ w9).drew);clear hso hfin ae bF dL dU hnn hmm dG aF c2 c6 f6 bA dH dI bN aJ aY bI;go_upto_region 14 with fail
  refine gK (λwx=>wx.cell? ⟨rb,4,none⟩=some (.slice na mm nc)/\wx.cell? ⟨rb,5,none⟩=some (.slice da nn dc)) 7 (by kernel_rfl) ?_;have hH:(λwx:World=>wx.cell? ⟨rb,4,none⟩=some (.slice na mm nc)/\wx.cell? ⟨rb,5,none⟩=some (.slice da nn dc)) w9.drew:=⟨fE n4,fE n5⟩
  refine ik 0 (.slice ta NT tc) rfl (by kernel_rfl) rfl fC (λW hW=>by go_simp) hH ?_;refine ik 1 (.pointer (some ⟨rb,4,none⟩)) rfl (by kernel_rfl) rfl fC (λW hW=>by go_simp) hH ?_;refine ik 2 (.agg #[.slice na mm nc]) rfl (by kernel_rfl) rfl fC (λW hW=>?_) hH ?_
  ·obtain⟨z0,z1⟩:=hW;go_simp
  refine iD 3 (.pointer (some ⟨rb,5,none⟩)) rfl (by kernel_rfl) rfl fC (λW=>by go_simp) (λ_=>hH) ?_;refine Xo 6 5 4 (.slice da nn dc) rfl (by kernel_rfl) rfl fC (λW hW=>?_) hH ?_
  ·obtain⟨z0,z1⟩:=hW;go_simp
  refine mO 5 (by kernel_rfl) rfl λK hK=>?_
  go_simp;refine dO.out.mono ?_;rintro e aa hso;obtain rfl:=hso.1;obtain⟨⟨k5,y4,y5⟩,hd⟩:=HFin.out aa hso;have x5:aa.cell? ⟨b5,0,none⟩=some (.slice none 0 0):=gG k5 0;have f5:aa.frozen? ⟨b5,0,none⟩=false:=nH k5 0;have HD:=eZ hd;clear hso hd k5 n4 n5;refine hK.out _ _ (λ_=>⟨y4,y5⟩) (λhH2=>?_);clear hK K;replace hH:=hH2 (by kernel_rfl);clear hH2;try simp only[Act.put,fK,fP,fO]
  refine ik 6 (.slice ta NT tc) rfl (by kernel_rfl) rfl fC (λW hW=>by go_simp) hH ?_;refine mO 7 (by kernel_rfl) rfl λK hK=>?_
  go_simp;refine hK.out _ _ (kC (by kernel_rfl)) (λ_=>?_);clear hK K;try simp only[Act.put,fK,fP,fO]
  refine iD 8 (.slice da nn dc) rfl (by kernel_rfl) rfl fC (λW=>by go_simp) (kC (by kernel_rfl)) ?_;refine gH (by kernel_rfl) ?_ _;have c5:(aa.setCell ⟨b5,0,none⟩ (.slice na mm nc)).cell? ⟨b5,0,none⟩=some (.slice na mm nc):=gU _ _ _ (by rw[x5];rfl);clear x5 f5 HFin dO;go_wp2_with fail
  refine pW (v:=.tuple #[.slice ta NT tc,.agg #[.slice na mm nc],.slice da nn dc]) ?_ rfl HD.out;simp[results,results12,go_sem,c5]
end
end Go.Proofs.YtmkkdjpebbdikaaGreatDoor

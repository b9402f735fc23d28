/- The law correctorlaw12.ParseErrors: whatever the input, the call returns true, and each argument reads afterwards as it read before. Conditions: none but those of the form (package-level variables as the program text lays them, tied by the card).
   The idea stands in the walk (W12Er) and in what it imports; this text is the frame. -/
import Derived.Test.YtmkkdjpebbdikaaGreatDoorZb37
import Derived.ChangeOld
import Derived.ShutString
import Derived.Test.YtmkkdjpebbdikaaGreatDoorCards
import Derived.Test.YtmkkdjpebbdikaaGreatDoorTie
set_option linter.all false
set_option maxHeartbeats 16000000
set_option maxRecDepth 100000
namespace Go.Proofs.YtmkkdjpebbdikaaGreatDoor
open Go.RowKit Go.Proofs.Tryz
def aeZ:=@trodAll_cons_mk
section
open Go.RowKit
open Sg
open Sq
open Ar
theorem WY{T:List Tk}{D:List Fl.Dg}{x:Nd}{NT:Nat}(hT:T.length=NT)(l1:0<=x.f)(l2:x.f<x.t)(l3:x.t<=(T.length:Int))(l5:D.countP (Ps.over (Fl.kW T x.f.toNat,Fl.too T (x.t-1).toNat))=1):
 ∃(F E1:Nat)(y z:Tk),x.f=(F:Int)/\x.t=(E1:Int)+1/\F<NT/\E1<NT/\F<=E1/\T[F]?=some y/\T[E1]?=some z/\D.countP (Ps.over (y.2.1,z.2.2))=1:=by
 have hF:x.f=(x.f.toNat:Int):=dS
 have hE:x.t=((x.t-1).toNat:Int)+1:=dS
 have aa:x.f.toNat<T.length:=dS
 have ae:(x.t-1).toNat<T.length:=dS
 refine⟨x.f.toNat,(x.t-1).toNat,T[x.f.toNat],T[(x.t-1).toNat],hF,hE,dS,dS,dS,fu aa,fu ae,?_⟩;have h1:Fl.kW T x.f.toNat=(T[x.f.toNat]).2.1:=by unfold Fl.kW;rw[fu aa]
 have h2:Fl.too T (x.t-1).toNat=(T[(x.t-1).toNat]).2.2:=by unfold Fl.too;rw[fu ae]
 rw[<-h1,<-h2];exact l5
def zy(D:List Fl.Dg)(g:Nat×Nat)(i:Nat):Nat:=(D.take i).countP (Ps.over g)
theorem WZ{D:List Fl.Dg}{g:Nat×Nat}{i:Nat}{x:Fl.Dg}(h:D[i]?=some x):zy D g (i+1)=zy D g i+(if Ps.over g x=true then 1 else 0):=by
 have hi:=(eY.1 h).1;have he:=(eY.1 h).2;unfold zy;rw[Ve hi,rZ,he,XN]
theorem agE(D:List Fl.Dg)(g:Nat×Nat)(i:Nat):zy D g i<=i:=by
 unfold zy;have:=XL (p:=Ps.over g) (l:=D.take i);rw[mX]at this;omega
theorem adA(D:List Fl.Dg)(g:Nat×Nat):zy D g D.length=D.countP (Ps.over g):=by unfold zy;rw[LJ]
theorem Xa{w:World}{a:Option Addr}{cap:Nat}{T:List Tk}(h:Reads iQ w (.slice a T.length cap) T)(j:Nat)(x:Tk)(hx:T[j]?=some x):
 ∃b off,a=some ⟨b,off,none⟩/\w.cell? ⟨b,off+j*3+1,none⟩=some (.int .i64 (x.2.1:Int))/\w.cell? ⟨b,off+j*3+2,none⟩=some (.int .i64 (x.2.2:Int)):=by
 obtain⟨b,off,rfl,hat⟩:=h.at_ j x hx;exact⟨b,off,rfl,hat 1 _ rfl,hat 2 _ rfl⟩
theorem B5(v0:Value)(l0:List Int)(v1:Value)(l1:List Int)(v2:Value)(s2:ByteArray)(dp:Int)(w:World)(h0:tK .i64 w v0 l0)(h1:tK .i64 w v1 l1)(h2:qR w v2 s2)(_:(Lit.int .i64 dp).wf=true)(hT:oZ w):
 Calls prog 4 #[v0,v1,v2,.int .i64 dp] w λe w'=>e=.returned (.bool true)/\Below w.heap.size w w':=by
 have HQ:=dY (λw'=>show Below w.heap.size w w'->(λe (w':World)=>e=Ending.returned (.bool true)/\Below w.heap.size w w') (.returned (.bool true)) w' from λh=>⟨rfl,h⟩);obtain⟨Q,hQ⟩:=eu ((λe (w':World)=>e=Ending.returned (.bool true)/\Below w.heap.size w w'));rw[hQ]at HQ⊢;have HK:=dY (Bl w hT);have HT:=dY (λW (hW:Below w.heap.size w W)=>hT.below hW);have Ja:=dY (λW (hW:Below w.heap.size w W)=>Ny v0 l0 v2 s2 W (h0.below hW) (h2.below hW));have F9:=dY (λW (hW:Below w.heap.size w W)=>uG v1 l1 W (h1.below hW));obtain⟨m,hm,hw1⟩:=sJ dp 20 20 rfl dU dU;have HW1:=dY hw1;obtain⟨d,hd⟩:=eu (m+1);have e1:IntKind.i64.wrap ((1:Int)+(m:Int))=(d:Int):=Ea
 have HE:=dY e1;have hd1:1<=d:=dS
 have hd2:d<=20:=dS
 clear hQ hT h0 h1 h2 hw1 e1
 go_enter func4,ntmps4
 go_wp2_with fail
 refine HK.out.mono ?_;rintro e w1 ⟨rfl,hb1⟩;have HB1:=dY hb1;clear hb1 HK;go_wp2_with fail
 refine(Ja.out w1 HB1.out).mono ?_;rintro e w2 ⟨va,Sa,rfl,hBa,aM,hb2⟩;have HB2:=dY (eD HB1.out hb2);obtain⟨aa,ca,rfl⟩:=hBa.shape;have yn:=dY hBa;clear hb2 Ja hBa;go_wp2_with fail
 refine(F9.out w2 HB2.out).mono ?_;rintro e w3 ⟨vb,Sb,rfl,hBb,hSb,-,hb3⟩;obtain⟨HB3,ag⟩:=fw (eD HB2.out hb3) (yn.out.below hb3);obtain⟨ab,cb,rfl⟩:=hBb.shape;have az:=dY hBb;clear hb3 F9 hBb yn;obtain⟨ib,hib⟩:∃b,w3.heap.size=b:=⟨_,rfl⟩
 obtain⟨w4,hw4⟩:=eu (w3.alloc (.cells #[.slice aa Sa.size ca,.slice ab Sb.size cb] 23));have hrow:w4.heap[ib]?=some (.cells #[.slice aa Sa.size ca,.slice ab Sb.size cb] 23 (0,0)):=by rw[<-hw4,<-hib];exact lz _ _
 have hb4:Below w3.heap.size w3 w4:=hw4▸dZ w3 _
 have aA:=dY (show∀k,k<2->∃v S,ahs ib w4 k v S from λk hk=>by
  have key:∀W,Below w4.heap.size w4 W->W.heap[ib]?=some (.cells #[.slice aa Sa.size ca,.slice ab Sb.size cb] 23 (0,0)):=λW hW=>(hW.block ib (gK hrow)).trans hrow
  match k,hk with
  |0,_=>exact⟨_,Sa,dS,λW hW=>⟨fq (key W hW) 0,(ag.out.below hb4).below hW⟩⟩
  |1,_=>exact⟨_,Sb,dS,λW hW=>⟨fq (key W hW) 1,(az.out.below hb4).below hW⟩⟩)
 obtain⟨qQ,aN,aO⟩:=je (eD HB3.out hb4) hw4 hib;clear hrow hb4 hw4 hib aM hSb ag az;go_upto_region 4 with fail
 rw[aN.out,aO.out];go_wp2_with fail
 go_loopw [10] (λiv wr=>∃k:Nat,iv=.int .i64 (k:Int)/\k<=2/\Hid (Below w4.heap.size w4 wr)) (λiv _=>2-(intOf iv).toNat)
 case atStart=>exact⟨0,rfl,dS,dY (fD _ _)⟩
 case round=>
  obtain⟨k,rfl,hk,HR⟩:=hrel;by_cases hlt:k<2
  ·obtain⟨tv0,S,hL2⟩:=aA.out k hlt;have g1:(k:Int)<2:=by omega
   have hc1:=(hL2.2 wr HR.out).1;have hsz:=hL2.1;have hbw:Below w.heap.size w wr:=eD qQ.out HR.out;have Pv:=dY (λW (hW:Below wr.heap.size wr W)=>DJ W tv0 S d (hL2.2 W (eD HR.out hW)).2 (HT.out W (eD hbw hW)) dS hd1 dS);have hls:=Iu (Sc.eH S) d JE hd1 dS;obtain⟨X,hX⟩:=eu (Ps.tree (Sc.eH S) d);rw[hX]at Pv hls;obtain⟨NT,aB⟩:∃TK,X.1.length=TK:=⟨_,rfl⟩
   obtain⟨NN,aC⟩:∃TL,X.2.1.length=TL:=⟨_,rfl⟩
   obtain⟨ND,aD⟩:∃DL,X.2.2.length=DL:=⟨_,rfl⟩
   have HLen:=dY (show X.1.length=NT/\X.2.1.length=NN/\X.2.2.length=ND from⟨aB,aC,aD⟩);obtain⟨yo,aP⟩:=fw hls hbw;clear hls hX aB aC aD hbw hsz hL2;go_upto_region 7 with fail
   go_cut [11,12,13] (λa b c wx=>∃bt ta tc na nc da dc,a=.slice ta NT tc/\b=.pointer (some ⟨bt,0,none⟩)/\c=.slice da ND dc/\Hid (yw X wr wx (.slice ta NT tc) (.slice na NN nc) (.slice da ND dc) bt))
   case first=>
    exact ZH
   case rest=>
    obtain⟨bt,ta,tc,na,nc,da,dc,rfl,rfl,rfl,hend⟩:=hcut
    rename World=>w5
    obtain⟨ah,GM,ai⟩:=hend.out.1.reads;have hb5:=hend.out.2.2;have hbx:=jh hend.out.2.1;have aj:=GM.size_le;have ak:=ai.size_le;rw[HLen.out.2.1]at aj;rw[HLen.out.2.2]at ak;have hNb:NN<=9223372036854775807:=iU aj dU;have bq:ND<=9223372036854775807:=iU ak dU;have av:=ah.size_le;rw[HLen.out.1]at av;have ax:=dY (show NT<=9223372036854775807 from iU av dU);clear av;have tO:=dY (λW (hW:Below w5.heap.size w5 W)=>eB hW hbx);have aQ:=dY (λW (hW:Below w5.heap.size w5 W)(i:Nat)(x:Nd)(hx:X.2.1[i]?=some x)=>iC.at_ (w:=W) (l:=X.2.1) (a:=na) (cap:=nc) (by rw[HLen.out.2.1];exact GM.below hW) i x hx);have aR:=dY (λW (hW:Below w5.heap.size w5 W)(j:Nat)(x:Fl.Dg)(hx:X.2.2[j]?=some x)=>lH (w:=W) (D:=X.2.2) (a:=da) (cap:=dc) (by rw[HLen.out.2.2];exact ai.below hW) j x hx);have HAT:=dY (λW (hW:Below w5.heap.size w5 W)(j:Nat)(x:Tk)(hx:X.1[j]?=some x)=>Xa (w:=W) (T:=X.1) (a:=ta) (cap:=tc) (by rw[HLen.out.1];exact ah.below hW) j x hx);have aS:=dY (eD HR.out hb5);clear hend hb5 hbx ah GM ai aj ak hc1 Pv aP;go_upto_region 9 with fail
    go_loopw [14] (λiv wx=>∃i:Nat,iv=.int .i64 (i:Int)/\i<=NN/\Hid (Below w5.heap.size w5 wx)) (λiv _=>NN-(intOf iv).toNat)
    case atStart=>exact⟨0,rfl,dS,dY (fD _ _)⟩
    case round=>
     obtain⟨i,rfl,hi,HB⟩:=hrel
     rename World=>wx
     have b0:=tO.out wx HB.out;by_cases hlt2:i<NN
     ·have g2:(i:Int)<(NN:Int):=by omega
      obtain⟨x,hx⟩:∃x,X.2.1[i]?=some x:=⟨_,fu (by rw[HLen.out.2.1];exact hlt2)⟩
      obtain⟨nb,off,ka,kc,rfl,c0,c1,c2,c3,c4,c5,-⟩:=aQ.out wx HB.out i x hx;by_cases hk:x.k=11
      ·obtain⟨l1,l2,l3,l4,l5⟩:=yo.out.2.2.2.2.2 i x hx hk;obtain⟨F,E1,y,z,hF,hE,aF,aG,aH,hy,hz,l5⟩:=WY HLen.out.1 l1 l2 l3 l5;have aI:=dY (λW (hW:Below w5.heap.size w5 W)=>HAT.out W hW F y hy);have aJ:=dY (λW (hW:Below w5.heap.size w5 W)=>HAT.out W hW E1 z hz);obtain⟨y1,hy1⟩:=eu (y.2.1);obtain⟨z2,hz2⟩:=eu (z.2.2);rw[hy1,hz2]at l5;rw[hy1]at aI;rw[hz2]at aJ;have aT:=dY l5;rw[hk]at c0;rw[hF]at c1;rw[hE]at c2;rw[l4]at c4;obtain⟨af,aU,aV⟩:=je aG aF aH;clear l1 l2 l3 l4 l5 hk hF hE hy hz hy1 hz2 hx aG aF aH;have c4:wx.cell? ⟨nb,off+i*6+4,none⟩=some (.slice ka 0 kc):=c4;obtain⟨w3,hw3⟩:=eu (wx.alloc (.cells #[.int .i64 11,.int .i64 (F:Int),.int .i64 ((E1:Int)+1),.int .i64 x.u,.slice ka 0 kc,.bool x.y] 38));obtain⟨xb,hxb⟩:=eu (wx.heap.size);have hb3:Below wx.heap.size wx w3:=hw3▸dZ wx _;have blk:w3.heap[xb]?=some (.cells #[.int .i64 11,.int .i64 (F:Int),.int .i64 ((E1:Int)+1),.int .i64 x.u,.slice ka 0 kc,.bool x.y] 38 (0,0)):=by rw[<-hw3,<-hxb];exact lz _ _
       have n0:=fq blk 0;have n1:=fq blk 1;have n2:=fq blk 2;have n4:=fq blk 4;have aW:=dY (λW (hW:Below w3.heap.size w3 W)=>eB hW n1);have aX:=dY (λW (hW:Below w3.heap.size w3 W)=>eB hW n2);have HB3:=dY (HB.out.trans (hb3.mono HB.out.size));obtain⟨HW3,ae⟩:=fw hw3 hxb;have g4:¬((E1:Int)+1<=(F:Int)):=by have:=aV.out;omega
       have g5:¬((NT:Int)<(E1:Int)+1):=by have:=af.out;omega
       clear hw3 hxb hb3 blk;go_upto_region 12 with fail
       rw[HW3.out,ae.out];clear HW3 ae c0 c1 c2 c3 c4 c5 b0;go_wp2_with fail
       clear n0 n1 n2 n4 g4 g5
       go_loopw [16,17] (λcv iv wz=>∃j:Nat,iv=.int .i64 (j:Int)/\j<=ND/\cv=.int .i64 (zy X.2.2 (y1,z2) j:Int)/\Hid (Below w3.heap.size w3 wz)) (λ_ iv _=>ND-(intOf iv).toNat)
       case atStart=>exact⟨0,rfl,dS,rfl,dY (fD _ _)⟩
       case round=>
        obtain⟨j,rfl,hj,rfl,HZ⟩:=hrel
        rename World=>wz
        have hC:=agE X.2.2 (y1,z2) j;by_cases hlt3:j<ND
        ·have g6:(j:Int)<(ND:Int):=by omega
         obtain⟨g,hg⟩:∃g,X.2.2[j]?=some g:=⟨_,fu (by rw[HLen.out.2.2];exact hlt3)⟩
         have hwz:=eD HB3.out HZ.out;obtain⟨db,aZ,rfl,d0,d1,d2⟩:=aR.out wz hwz j g hg;obtain⟨tb,aK,rfl,t1,-⟩:=aI.out wz hwz;obtain⟨aY,ay,he2,-,t2⟩:=aJ.out wz hwz;obtain⟨rfl,rfl⟩:tb=aY/\aK=ay:=by simpa using he2
         have m1:=aW.out wz HZ.out;have m2:=aX.out wz HZ.out;have hs:=WZ (g:=(y1,z2)) hg;obtain⟨C,aL⟩:=eu (zy X.2.2 (y1,z2) j);rw[aL]at hs hC⊢;have hov:Ps.over (y1,z2) g=(Ps.iX g&&(g.f==y1&&g.t==z2)):=rfl;obtain⟨gc,hgc⟩:∃c,g.code=c:=⟨_,rfl⟩
         obtain⟨gf,hgf⟩:∃c,g.f=c:=⟨_,rfl⟩
         obtain⟨gt,hgt⟩:∃c,g.t=c:=⟨_,rfl⟩
         have HG:=dY (And.intro hgc (And.intro hgf hgt));have Vn:=dY hs;rw[hgc]at d0;rw[hgf]at d1;rw[hgt]at d2;have s1:IntKind.i64.wrap ((E1:Int)+1-1)=(E1:Int):=by rw[sj _ (by have:=af.out;have:=ax.out;omega)];omega
         have s3:IntKind.i64.wrap (E1:Int)=(E1:Int):=sj _ (by have:=af.out;have:=ax.out;omega);have bf:NT<=9223372036854775807:=ax.out;have bg:F<NT:=aU.out
         have bn:E1<NT:=af.out
         clear hwz he2 hs aL hgc hgf hgt hg;by_cases q1:gf=y1
         ·have r1:((gf:Int)==(y1:Int))=true:=by simp[q1]
          by_cases q2:gt=z2
          ·have r2:((gt:Int)==(z2:Int))=true:=by simp[q2]
           by_cases q3:5<=gc
           ·have r3:decide ((5:Int)<=(gc:Int))=true:=kD dS;by_cases q4:gc<=8
            ·have r4:decide ((gc:Int)<=8)=true:=kD dS;have HS:=dY (show zy X.2.2 (y1,z2) (j+1)=C+1 from by rw[Vn.out,dX Qp]);clear hov q1 q2 q3;go_wp2_with fail
             exact aaN
            ·have r4:decide ((gc:Int)<=8)=false:=ic dS;by_cases q5:gc=10
             ·have r5:((gc:Int)==10)=true:=by simp[q5]
              have HS:=dY (show zy X.2.2 (y1,z2) (j+1)=C+1 from by rw[Vn.out,dX Qp]);clear hov q1 q2 q3;go_wp2_with fail
              exact aaN
             ·have r5:((gc:Int)==10)=false:=by simp;omega
              exact aaP
           ·have r3:decide ((5:Int)<=(gc:Int))=false:=ic dS;have r5:((gc:Int)==10)=false:=by simp;omega
            exact aaP
          ·have r2:((gt:Int)==(z2:Int))=false:=by simp;omega
           have q3:True:=trivial;have HS:=dY (show zy X.2.2 (y1,z2) (j+1)=C from Qx);clear hov q1 q2 q3;go_wp2_with fail
           exact QH
         ·have r1:((gf:Int)==(y1:Int))=false:=by simp;omega
          have q2:True:=trivial;have q3:True:=trivial;have HS:=dY (show zy X.2.2 (y1,z2) (j+1)=C from Qx);clear hov q1 q2 q3;go_wp2_with fail
          exact QH
        ·obtain rfl:j=ND:=by omega
         have g6:¬((j:Int)<(j:Int)):=dS
         have hall:=adA X.2.2 (y1,z2);rw[HLen.out.2.2,aT.out]at hall;rw[hall];have tN:=dY (eD HB3.out HZ.out);clear hall hC;go_wp2_with fail
         go_roundw
         case rel=>exact⟨i+1,fH,dS,tN⟩
         case measure=>simp[intOf];omega
      ·have g3:(x.k==11)=false:=by simp[hk]
       obtain⟨n,hn⟩:=eu (x.ks.length);rw[hn]at c4;obtain⟨w3,hw3⟩:=eu (wx.alloc (.cells #[.int .i64 x.k,.int .i64 x.f,.int .i64 x.t,.int .i64 x.u,.slice ka n kc,.bool x.y] 38));obtain⟨xb,hxb⟩:=eu (wx.heap.size);have hb3:Below wx.heap.size wx w3:=hw3▸dZ wx _;have blk:w3.heap[xb]?=some (.cells #[.int .i64 x.k,.int .i64 x.f,.int .i64 x.t,.int .i64 x.u,.slice ka n kc,.bool x.y] 38 (0,0)):=Qq
       have n0:=fq blk 0;have HB3:=dY (HB.out.trans (hb3.mono HB.out.size));obtain⟨HW3,ae⟩:=fw hw3 hxb;clear hw3 hxb hb3 blk hx hk hn;go_upto_region 12 with fail
       rw[HW3.out,ae.out];clear HW3 ae c0 c1 c2 c3 c4 c5 b0;go_wp2_with fail
       go_roundw
       case rel=>exact⟨i+1,fH,dS,HB3⟩
       case measure=>simp[intOf];omega
     ·have g2:¬((i:Int)<(NN:Int)):=by omega
      have HR6:=dY (eD aS.out HB.out);go_wp2_with fail
      go_roundw
      case rel=>exact⟨k+1,fH,dS,HR6⟩
      case measure=>simp[intOf];omega
  ·exact aat
end
namespace parseErrorsDone
open Go.ChangeShapes Go.WideShapes Go.ChangeAt Go.RowKit
open Go.ChangeMaps (open_string shut_string)
theorem contract(H:Type)(enc:TypeId×Value->H)(W:World)(base:Nat)(args:Array Value)(ds gs:List (DataW H))(before:List MemPlace)
 (hval:∀(j:Nat) t v,Tryz.f4.params[j]?=some t->args[j]?=some v->Value.okWide prog W .any base t v)
 (hW:DataW.Whole enc prog Tryz.f4.params.toList Rows.parseErrorsSpec.vars false W args.toList ds gs before) (hL:laidMetH prog Rows.parseErrorsRow.laid W):
 Calls prog 4 args W λe W'=>∃v,e=.returned v/\Rows.parseErrorsSpec.post enc prog Tryz.f4 false true false false W args v W':=by
 have ae:=hW;obtain⟨p,q,aa,hV,rfl,hfz,hnd⟩:=hW;have hA:DataW.TrodAll enc prog W 0 (λ_=>true) true Tryz.f4.params.toList args.toList ds p:=aa;rw[params4]at hA hval;obtain⟨v0,ai,d0,ds0,p0,q0,hargs,rfl,rfl,h0,r0⟩:=trodAll_cons hA;obtain⟨v1,vs1,d1,ds1,p1,q1,rfl,rfl,rfl,h1,r1⟩:=trodAll_cons r0;obtain⟨v2,vs2,d2,aj,p2,q2,rfl,rfl,rfl,h2,r2⟩:=trodAll_cons r1;obtain⟨v3,vs3,d3,ds3,p3,q3,rfl,rfl,rfl,h3,r3⟩:=trodAll_cons r2;obtain⟨rfl,rfl,rfl⟩:=trodAll_nil r3;obtain rfl:args=#[v0,v1,v2,v3]:=AU
 obtain⟨rfl,rfl⟩:=trodVars_none hV;have k0:=h0;have af:∀x∈p0,x.block<W.heap.size:=JD
 obtain⟨s0,w0⟩:=lC underlying22 underlying3 dV (hval 0 22 v0 rfl rfl) h0;have k1:=h1;have ag:∀x∈p1,x.block<W.heap.size:=Qn
 obtain⟨s1,w1⟩:=lC underlying22 underlying3 dV (hval 1 22 v1 rfl rfl) h1;have k2:=h2;have ah:∀x∈p2,x.block<W.heap.size:=YS
 obtain⟨s2,w2⟩:=FV (hval 2 23 v2 rfl rfl) h2;obtain⟨a3,rfl,rfl,rfl,w3⟩:=open_int underlying3 (hval 3 3 v3 rfl rfl) h3;clear aa hval;refine(B5 v0 s0 v1 s1 v2 s2 a3 W w0 w1 w2 w3 (mO hL)).mono λe W' ⟨he,kL⟩=>?_
 subst he;exact⟨_,rfl,_,_,_,[],_,[],ae,trodAll_mk1 (Vh underlying4 _),(aeZ (Below.trod laidOut dV (pM dV) k0 kL af) (aeZ (Below.trod laidOut dV (pM dV) k1 kL ag) (aeZ (Below.trod laidOut dV (pM dV) k2 kL ah) (aeZ (shut_int underlying3 w3) trodAll_mk0)))),rfl,kL.frame _,λh=>fV⟩
theorem mi(os:Os):laidMet prog Rows.parseErrorsRow.laid ((iP os).forCall (λ_ _=>0) ⟨#[],#[.slice none 0 0,.slice none 0 0,.slice none 0 0,.int .i64 0],[]⟩).memory:=
 laidMet_of_run' 8 dV dV
theorem reads(os:Os){H:Type}(enc:TypeId×Value->H):∃places,DataW.whole enc prog ((iP os).forCall (λ_ _=>0) ⟨#[],#[.slice none 0 0,.slice none 0 0,.slice none 0 0,.int .i64 0],[]⟩).memory Tryz.f4.params.toList Rows.parseErrorsSpec.vars false (#[.slice none 0 0,.slice none 0 0,.slice none 0 0,.int .i64 0]:Array Value).toList 8=some ([.nil,.nil,.nil,.lit (.int .i64 0)],[],places):=
 ⟨[],dV⟩
theorem lifted(os:Os)(started:os.Started)(H:Type)(enc:TypeId×Value->H)(F:Stop.Interp):
 ReturnsInHanded {} Tryz.checked os 4 .any ((OpenSpec.ofChange Rows.parseErrorsSpec).preRow enc prog Tryz.f4 Rows.parseErrorsRow.domain false Rows.parseErrorsRow.laid) (((OpenSpec.ofChange Rows.parseErrorsSpec).at F).post enc prog Tryz.f4 false true false false):=by
 obtain⟨places,hx⟩:=reads os enc;refine returnsInHanded_of_row (C:=Tryz.checked) (s:=OpenSpec.ofChange Rows.parseErrorsSpec) own started dV func4
  (witness_row_at (enc:=enc) (C:=Tryz.checked) false (iP os) #[.slice none 0 0,.slice none 0 0,.slice none 0 0,.int .i64 0] rfl dV dV dV
   (OpenSpec.preRow_of_cond 8 hx dV (λk hk=>wF) dV (mi os))) ?_
 intro W base args ds gs before hval hW _ _ _ hL _ _;exact contract H enc W base args ds gs before hval hW hL
theorem said:Rows.ParseErrorsSaid:=
 OpenClaim.holds_of_cond 4 Tryz.f4 rfl rfl rfl rfl rfl rfl rfl ⟨rfl,rfl,rfl,rfl,rfl⟩ rfl rfl rfl rfl rfl dV func4 dV
  (pM dV) (by unfold Func.isWrapper;first|(rw[dX gV];kernel_rfl)|(rw[dW gV];exact⟨rfl,rfl⟩))
  (λos started H enc _ F=>AV)
theorem plain(f:FuncId)(fn:Func)(hf:Tryz.pinned.checked.prog.funcNamed "corrector/correctorlaw12.ParseErrors"=some f)(hfn:Tryz.pinned.checked.prog.funcs[f]?=some fn):
 true=Tryz.pinned.checked.prog.looks []/\∀(j:Nat) t,fn.params[j]?=some t->Tryz.pinned.checked.prog.wantsStandIn t=false:=by
 obtain rfl:f=4:=iG ((show prog.funcNamed "corrector/correctorlaw12.ParseErrors"=some 4 by kernel_rfl).symm.trans hf)|>.symm
 obtain rfl:fn=Tryz.f4:=(iG (func4.symm.trans hfn)).symm;refine⟨dV,λj t ht=>?_⟩;rw[params4]at ht;have hall:([22,22,23,3]:List TypeId).all (λu=>!prog.wantsStandIn u)=true:=dV
 have hin:t∈([22,22,23,3]:List TypeId):=AX
 have h2:prog.wantsStandIn t=false:=AY
 exact h2
theorem card:Rows.ParseErrorsCardSaid:=
 Claim7.holds_tied_plain_at .later [] _ _ _ _ said (λ_ h=>fV) dV (λ_ h=>fV) parseErrors_row_tie rfl ⟨rfl,rfl⟩ dV rfl plain dV
#print axioms card
end parseErrorsDone
end Go.Proofs.YtmkkdjpebbdikaaGreatDoor

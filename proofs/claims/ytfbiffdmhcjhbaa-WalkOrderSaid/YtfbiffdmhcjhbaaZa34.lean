import Derived.Test.YtfbiffdmhcjhbaaZa33
set_option linter.all false
set_option maxHeartbeats 16000000
set_option maxRecDepth 100000
namespace Go.Proofs.Ytfbiffdmhcjhbaa
open Go.RowKit Try
section
open Go.RowKit
open Sg
open Sq
def I1:List (List UInt8):=[[97],[98,58,32],[45,32],[10],[10],[10,32,32],[10,32,32,32,32],[107,101,121,58,32],[91],[93],[123],[125],[44,32],[58,32],[39,105,116,39,39,115,39],[34,120,92,110,34],[35,32,110,111,116,101,10],[38,110,32],[42,110],[33,33,105,110,116,32],[124,10],[62,45,10],[45,45,45],[46,46,46],[9],[13,10],[32],[49],[126],[39,111,112,101,110],[34,92,113,34],[45],[58],[116,101,120,116,32,111,102,32,119,111,114,100,115],[10,45,32],[10,107,58,32],[32,32],[35,32,111,102,102],[44],[124,43],[10,10]]
abbrev Ch:List Value:=[Value.string ⟨#[97]⟩,Value.string ⟨#[98,58,32]⟩,Value.string ⟨#[45,32]⟩,Value.string ⟨#[10]⟩,Value.string ⟨#[10]⟩,Value.string ⟨#[10,32,32]⟩,Value.string ⟨#[10,32,32,32,32]⟩,Value.string ⟨#[107,101,121,58,32]⟩,Value.string ⟨#[91]⟩,Value.string ⟨#[93]⟩,Value.string ⟨#[123]⟩,Value.string ⟨#[125]⟩,Value.string ⟨#[44,32]⟩,Value.string ⟨#[58,32]⟩,Value.string ⟨#[39,105,116,39,39,115,39]⟩,Value.string ⟨#[34,120,92,110,34]⟩,Value.string ⟨#[35,32,110,111,116,101,10]⟩,Value.string ⟨#[38,110,32]⟩,Value.string ⟨#[42,110]⟩,Value.string ⟨#[33,33,105,110,116,32]⟩,Value.string ⟨#[124,10]⟩,Value.string ⟨#[62,45,10]⟩,Value.string ⟨#[45,45,45]⟩,Value.string ⟨#[46,46,46]⟩,Value.string ⟨#[9]⟩,Value.string ⟨#[13,10]⟩,Value.string ⟨#[32]⟩,Value.string ⟨#[49]⟩,Value.string ⟨#[126]⟩,Value.string ⟨#[39,111,112,101,110]⟩,Value.string ⟨#[34,92,113,34]⟩,Value.string ⟨#[45]⟩,Value.string ⟨#[58]⟩,Value.string ⟨#[116,101,120,116,32,111,102,32,119,111,114,100,115]⟩,Value.string ⟨#[10,45,32]⟩,Value.string ⟨#[10,107,58,32]⟩,Value.string ⟨#[32,32]⟩,Value.string ⟨#[35,32,111,102,102]⟩,Value.string ⟨#[44]⟩,Value.string ⟨#[124,43]⟩,Value.string ⟨#[10,10]⟩]
theorem MU:Ch=I1.map λp=>Value.string ⟨p.toArray⟩:=rfl
theorem Jv:∀k:Fin 41,((I1[k.val]?).map λp=>decide (p.length<=13))=some true:=by decide+kernel
theorem Qz(k:Nat)(hk:k<41):∃X:ByteArray,X.size<=13/\Ch[k]?=some (.string X):=by
 have h:=Jv ⟨k,hk⟩;simp only at h;cases hp:I1[k]? with
 |none=>rw[hp]at h;cases h
 |some p=>
  rw[hp,Lp]at h;injection h with h
  refine⟨⟨p.toArray⟩,by show p.toArray.size<=13;simpa using h,?_⟩;rw[MU,r9,hp];rfl
def TG(w:World)(e:Ending)(w':World):Prop:=∃X:ByteArray,e=.returned (.string X)/\X.size<=13/\Below w.heap.size w w'
theorem MV(x:Int)(w:World):
 Calls prog 25 #[.int .i64 x] w (TG w):=by
 obtain⟨m,hm,aa⟩:=Ib x 41 (by decide) (by decide);obtain⟨X,hX,h5⟩:=Qz m hm;obtain⟨tc,htc⟩:∃tc,tc=w.heap.size:=⟨_,rfl⟩
 obtain⟨V,hV⟩:∃V,V=w.alloc (.cells Ch.toArray 9):=⟨_,rfl⟩
 have ae:=hV▸mr w (.cells Ch.toArray 9);have af:=eu ae;have c0:V.cell? ⟨tc,m,none⟩=some (.string X):=by
  rw[hV,htc,Rn];show(Ch.toArray)[m]?=_;rw[Lh];exact h5
 obtain⟨HV,ag,HW⟩:=nY hV htc (aa V);have hm0:(m:Int)<41:=by omega
 have hm1:(0:Int)<=(m:Int):=by omega
 have HX:=eu hX;clear h5 aa hV htc ae hX
 go_enter func25,ntmps25
 go_wp2_with fail
 rw[<-HV.out,<-ag.out];refine HW.out.mono ?_;rintro e w2 ⟨rfl,rfl⟩;go_wp2_with fail
 go_ret;exact⟨X,rfl,HX.out,af.out⟩
end
section
open Go.RowKit
open Sg
open Sq
def OH(w:World)(e:Ending)(w':World):Prop:=∃v,∃t:ByteArray,e=.returned v/\uG w' v t/\t.size<=400/\Below w.heap.size w w'
theorem EU(a b:ByteArray):cellsOf (a++b)=cellsOf a++cellsOf b:=by simp[cellsOf]
theorem G8(v0:Value)(l0:List Int)(v1:Value)(s:ByteArray)(w:World)(h0:xU .i64 w v0 l0)(h1:uG w v1 s):
 Calls prog 9 #[v0,v1] w (OH w):=by
 have hs:=h1.size_le;simp only[maxLen]at hs;obtain⟨a0,cap0,rfl⟩:=h0.shape;obtain⟨a1,ay,rfl⟩:=h1.shape;have hl:=h0.len;obtain⟨m,hm⟩:∃m,m=min s.size 30:=⟨_,rfl⟩
 have hmin:min (s.size:Int) 30=(m:Int):=by omega
 obtain⟨vc,hsl,aa⟩:=OG (hi:=m) h1 (by omega);have hmz:(s.extract 0 m).size=m:=by rw[ext_size s 0 m (by omega)];omega
 obtain⟨c,hc⟩:=my (s.extract 0 m);rw[hc]at aa hmz;have az:m<=30:=by omega
 obtain⟨H0,HV,ag⟩:=nY h0 aa hmz;clear h0 h1 hm aa hc hmz hs
 go_enter func9,ntmps9
 go_wp2_with fail
 go_loopw [5,6] (λbv i wr=>∃(k:Nat)(t:ByteArray),i=.int .i64 k/\k<=60/\wr.ownsRow w.heap.size 5 1 bv t.size (cellsOf t)/\t.size<=50*k/\Below w.heap.size w wr) (λ_ i _=>60-(intOf i).toNat)
 case atStart=>exact⟨0,⟨#[]⟩,rfl,by omega,Iw _ _ _ _,nO _,mF _ w⟩
 case round=>
  obtain⟨k,t,rfl,hk,hown,ht,hb⟩:=hrel;obtain⟨HO,HB⟩:=mR hown hb;clear hown hb;by_cases hlt:k<l0.length/\k<60
  ·obtain⟨hlt1,hlt2⟩:=hlt;have hi1:(k:Int)<(l0.length:Int):=by omega
   have hi2:(k:Int)<60:=by omega
   go_upto_region 5 with fail
   go_cut [21] (λq wx=>(∃b:Bool,q=.bool b)/\wr=wx)
   case first=>
    go_wp2_with fail
    go_meet
    exact⟨⟨_,rfl⟩,rfl⟩
   case rest=>
   obtain⟨⟨q,rfl⟩,rfl⟩:=hcut
   go_upto_if 21 with fail
   go_cut [5] (λbv wx=>∃t2:ByteArray,wx.ownsRow w.heap.size 5 1 bv t2.size (cellsOf t2)/\t2.size<=50*k+30/\Below w.heap.size w wx)
   case first=>
    cases q with
    |true=>
     go_wp2_with (at_builtin;go_must (refine zQ rfl (.tmp 22) (.tmp 27) rfl w.heap.size _ _ _ rfl HO.out vc c rfl (HV.out.below HB.out) (by have:=ag.out;omega) HB.out.size ?_;intro v3 w3 hown3 hg3))
     go_meet
     have hsz:(t++c).size=t.size+c.size:=pZ t c;exact⟨t++c,by rw[hsz,EU];exact hown3,by have:=ag.out;omega,HB.out.grown hg3 (by have:=HB.out.size;omega) (λj hj=>(HO.out.lt j hj).1)⟩
    |false=>
     go_wp2_with fail
     go_meet
     exact⟨t,HO.out,by omega,HB.out⟩
   case rest=>
   obtain⟨t2,hown2,ht2,hb2⟩:=hcut;obtain⟨aj,HB2⟩:=mR hown2 hb2;obtain⟨b1,aA,rfl,q2,q3,hc1⟩:=(H0.out.below hb2).at_ hlt1;simp only[maxLen]at q3;obtain⟨y,hy⟩:=my (l0.getD k 0);rw[hy]at hc1;have HP:=eu (MV y wc);clear hown2 hb2 hy HO;go_wp2_with fail
   refine HP.out.mono ?_;rintro e w4 ⟨X,rfl,hX,hb4⟩;have ah:=eu (mU aj.out hb4);have ae:=eu (HB2.out.trans (hb4.mono HB2.out.size));obtain⟨i0,hi,hz0,hz1,hz2⟩:=Fa infoByte;have HI:=eu hi;clear hb4 hi;go_wp2_with (at_builtin;go_must (refine Lib.wpList_append_own_string (P:=prog) _ rfl (.tmp 29) (.tmp 34) 23 9 rfl w.heap.size 5 i0 underlying23 underlying9 HI.out hz0 hz1 hz2 _ _ _ rfl ah.out X rfl (by simp only[maxLen];omega) (by omega) ae.out.size ?_;intro v5 w5 hown5 hg5 hnil))
   go_roundw
   case rel=>
    have hsz:(t2++X).size=t2.size+X.size:=pZ t2 X;exact⟨k+1,t2++X,by go_num,by omega,by rw[hsz,EU];exact hown5,by omega,ae.out.grown hg5 (by have:=ae.out.size;omega) (λj hj=>(ah.out.lt j hj).1)⟩
   case measure=>simp[intOf];omega
  have hown:=HO.out;have af:=uG.mW hown;obtain⟨at',aB,rfl⟩:=af.shape;obtain⟨m4,ak⟩:∃m4,m4=min t.size 400:=⟨_,rfl⟩
  have av:min (t.size:Int) 400=(m4:Int):=by omega
  obtain⟨vt,aC,ai⟩:=OG (hi:=m4) af (by omega);have ax:(t.extract 0 m4).size=m4:=by rw[ext_size t 0 m4 (by omega)];omega
  have HD:=eu (show OH w (.returned vt) wr from⟨vt,_,rfl,ai,by omega,HB.out⟩);clear hown af ak ai ax;by_cases hlt1:k<l0.length
  ·have hi1:(k:Int)<(l0.length:Int):=by omega
   have hi2:¬((k:Int)<60):=by omega
   clear hlt;go_wp2_with fail
   go_ret;exact HD.out
  have hi1:¬((k:Int)<(l0.length:Int)):=by omega
  clear hlt;go_wp2_with fail
  go_ret;exact HD.out
end
end Go.Proofs.Ytfbiffdmhcjhbaa

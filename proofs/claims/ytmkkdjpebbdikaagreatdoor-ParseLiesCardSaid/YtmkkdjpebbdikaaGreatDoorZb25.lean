import Derived.Test.YtmkkdjpebbdikaaGreatDoorZb23
import Derived.Deep.RegionLaw
import Derived.Deep.RegionWith
import Derived.IntWalk
import Derived.Shelf.Strings.Runes
set_option linter.all false
set_option maxHeartbeats 16000000
set_option maxRecDepth 100000
namespace Go.Proofs.YtmkkdjpebbdikaaGreatDoor
open Go.RowKit Tryz
def Gy:=@Go.below_drewN
section
open Go.Shelf
def Ov:Go.Shelf.Ren:=⟨fun|119=>145|137=>144|151=>135|152=>117|217=>162|224=>146|225=>147|266=>178|n=>n,fun|0=>0|3=>3|4=>4|5=>5|9=>9|21=>21|46=>108|n=>n,λn=>n⟩
theorem UD:Lays.n151 prog Ov:={
 mixed:=dV,
 f119:=func145.trans (congrArg some dV),
 f137:=func144.trans (congrArg some dV),
 f151:=func135.trans (congrArg some dV),
 f152:=func117.trans (congrArg some dV),
 f217:=func162.trans (congrArg some dV),
 f224:=func146.trans (congrArg some dV),
 f225:=func147.trans (congrArg some dV),
 f266:=func178.trans (congrArg some dV),
 t0:=underlying0,
 a0:=isAgg0,
 z0:=sizeOf0,
 v0:=zeroValue0,
 t3:=underlying3,
 a3:=isAgg3,
 z3:=sizeOf3,
 v3:=zeroValue3,
 t4:=underlying4,
 a4:=isAgg4,
 z4:=sizeOf4,
 v4:=zeroValue4,
 t5:=underlying5,
 a5:=isAgg5,
 z5:=sizeOf5,
 v5:=zeroValue5,
 t9:=underlying9,
 a9:=isAgg9,
 z9:=sizeOf9,
 v9:=zeroValue9,
 t21:=underlying21,
 a21:=isAgg21,
 z21:=sizeOf21,
 v21:=zeroValue21,
 t46:=underlying108,
 a46:=isAgg108,
 z46:=sizeOf108,
 v46:=zeroValue108}
def Ow:Go.Shelf.Ren:=⟨fun|137=>144|217=>162|266=>178|n=>n,fun|3=>3|5=>5|9=>9|n=>n,λn=>n⟩
theorem afZ:Lays.n137 prog Ow:={
 mixed:=dV,
 f137:=func144.trans (congrArg some dV),
 f217:=func162.trans (congrArg some dV),
 f266:=func178.trans (congrArg some dV),
 t3:=underlying3,
 a3:=isAgg3,
 z3:=sizeOf3,
 v3:=zeroValue3,
 t5:=underlying5,
 a5:=isAgg5,
 z5:=sizeOf5,
 v5:=zeroValue5,
 t9:=underlying9,
 a9:=isAgg9,
 z9:=sizeOf9,
 v9:=zeroValue9}
def Ox:Go.Shelf.Ren:=⟨fun|99=>79|206=>121|n=>n,fun|3=>3|4=>4|9=>9|n=>n,λn=>n⟩
theorem af0:Lays.n99 prog Ox:={
 mixed:=dV,
 f99:=func79.trans (congrArg some dV),
 f206:=func121.trans (congrArg some dV),
 t3:=underlying3,
 a3:=isAgg3,
 z3:=sizeOf3,
 v3:=zeroValue3,
 t4:=underlying4,
 a4:=isAgg4,
 z4:=sizeOf4,
 v4:=zeroValue4,
 t9:=underlying9,
 a9:=isAgg9,
 z9:=sizeOf9,
 v9:=zeroValue9}
end
section
open Go.RowKit
open Sg
theorem uo(s:ByteArray)(h:0<s.size):Sc.eH s=(s[0]'h).toNat::Sc.eH (s.extract 1 s.size):=by
 have:=Sc.drop_cons s 0 h;rw[lM]at this;rw[this,Sc.l7 s 0 h,Sc.lL]
theorem wV(s:ByteArray)(k:Nat)(h:s.size<=maxLen):(s.extract k s.size).size<=maxLen:=uQ
theorem aho(s:ByteArray)(i:Nat)(h:i<s.size):(s[i]'h).toNat<256:=XW _
theorem ajm(s:ByteArray)(w:World)(hs:s.size<=100000)(h0:0<s.size):
 Calls prog 88 #[.string s] w λe w'=>e=.returned (.tuple #[.int .i64 (kI (Sc.named (Sc.eH s)).1),.int .i64 (Sc.named (Sc.eH s)).2])/\Below w.heap.size w w':=by
 have hm:s.size<=maxLen:=pg
 have hz:=wV s 1 hm;have hN:=afr (s.extract 1 s.size) w hz;have hT:=ab8 (s.extract 1 s.size) w hz;have hb:=aho s 0 h0;have hlo:(1:Int)<=(s.size:Int):=dS
 have rN:=Sc.og Sc.Jb (Sc.eH (s.extract 1 s.size));have rT:=Sc.og Sc.PH (Sc.eH (s.extract 1 s.size));rw[Sc.fM,xw]at rN rT;rw[uo s h0,Sc.named];generalize Sc.run Sc.Jb (Sc.eH (s.extract 1 s.size))=n at*;generalize Sc.run Sc.PH (Sc.eH (s.extract 1 s.size))=t at*;have hn2:(n:Int)+1<=100001:=dS
 have ht2:(t:Int)+1<=100001:=dS
 clear rN rT hm hz;by_cases c1:(s[0]'h0).toNat=38
 ·rw[dX c1];have g1:(((s[0]'h0).toNat:Int)==38)=true:=by rw[c1];rfl
  have HN:=dY hN;clear hN hT c1;by_cases hn:n=0
  ·exact aak
  ·exact aad
 ·rw[dW c1];have g1:(((s[0]'h0).toNat:Int)==38)=false:=jE.2 dS;by_cases c2:(s[0]'h0).toNat=42
  ·rw[dX c2];have g2:(((s[0]'h0).toNat:Int)==42)=true:=by rw[c2];rfl
   have HN:=dY hN;clear hN hT c1 c2;by_cases hn:n=0
   ·exact aak
   ·exact aad
  ·rw[dW c2];have g2:(((s[0]'h0).toNat:Int)==42)=false:=jE.2 dS;by_cases c3:(s[0]'h0).toNat=33
   ·rw[dX c3];have g3:(((s[0]'h0).toNat:Int)==33)=true:=by rw[c3];rfl
    have HT:=dY hT;clear hN hT c1 c2 c3
    go_enter func88,ntmps88
    go_wp2_with fail
    refine HT.out.mono ?_;rintro e w1 ⟨rfl,hb⟩;go_wp2_with fail
    go_ret2;exact⟨by rw[Int.add_comm];rfl,hb⟩
   ·rw[dW c3];have g3:(((s[0]'h0).toNat:Int)==33)=false:=jE.2 dS;clear hN hT c1 c2 c3
    go_enter func88,ntmps88
    go_wp2_with fail
    go_ret2;exact⟨rfl,fD _ _⟩
theorem af1(s:ByteArray)(i:Nat)(h:i<s.size):Sc.vW ((Sc.eH s).drop i)=
 if(s.get! i).toNat=39 then(if i+1<s.size/\(s.get! (i+1)).toNat=39 then Sc.vW ((Sc.eH s).drop (i+2))+2 else 1)else Sc.vW ((Sc.eH s).drop (i+1))+1:=by
 rw[Sc.drop_cons s i h];by_cases h1:i+1<s.size
 ·rw[Sc.drop_cons s (i+1) h1,Sc.vW];by_cases c:(s.get! i).toNat=39
  ·rw[dX c,dX c];by_cases d:(s.get! (i+1)).toNat=39
   ·rw[dX d,dX ⟨h1,d⟩]
   ·rw[dW d,dW (λx=>d x.2)]
  ·rw[dW c,dW c]
 ·rw[Sc.drop_nil s (i+1) dS,Sc.vW];by_cases c:(s.get! i).toNat=39
  ·rw[dX c,dW (λx=>h1 x.1)];rfl
  ·rw[dW c];rfl
theorem acT(s:ByteArray)(i:Nat)(h:s.size<=i):Sc.vW ((Sc.eH s).drop i)=0:=by rw[Sc.drop_nil s i h];rfl
theorem af2(s:ByteArray)(i:Nat)(h:i<s.size):Sc.vX ((Sc.eH s).drop i)=
 if(s.get! i).toNat=34 then 1 else if(s.get! i).toNat=92 then(if i+1<s.size then Sc.vX ((Sc.eH s).drop (i+2))+2 else 1)else Sc.vX ((Sc.eH s).drop (i+1))+1:=by
 rw[Sc.drop_cons s i h];by_cases h1:i+1<s.size
 ·rw[Sc.drop_cons s (i+1) h1,Sc.vX];by_cases c:(s.get! i).toNat=34
  ·rw[dX c,dX c]
  ·rw[dW c,dW c];by_cases d:(s.get! i).toNat=92
   ·rw[dX d,dX d,dX h1]
   ·rw[dW d,dW d]
 ·rw[Sc.drop_nil s (i+1) dS,Sc.vX];by_cases c:(s.get! i).toNat=34
  ·rw[dX c];rfl
  ·rw[dW c];by_cases d:(s.get! i).toNat=92
   ·rw[dX d,dW h1];rfl
   ·rw[dW d];rfl
theorem Ng(s:ByteArray)(i:Nat)(h:s.size<=i):Sc.vX ((Sc.eH s).drop i)=0:=by rw[Sc.drop_nil s i h];rfl
theorem akW(s:ByteArray)(i:Nat)(h:i<s.size):([39,39]:List UInt8).isPrefixOf (s.extract i s.size).data.toList=decide (i+1<s.size/\(s.get! i).toNat=39/\(s.get! (i+1)).toNat=39):=by
 have:=akB (s.extract i s.size) 39 39 dU dU;rw[aid,aeK,aeK,oW]at this;rw[show([39,39]:List UInt8)=[UInt8.ofNat 39,UInt8.ofNat 39]from rfl,this];congr 1;exact propext ⟨λx=>⟨dS,x.2⟩,λx=>⟨dS,x.2⟩⟩
theorem af3(s:ByteArray)(w:World)(hs:s.size<=100000)(h0:0<s.size):
 Calls prog 126 #[.string s] w λe w'=>e=.returned (.int .i64 (Sc.vW ((Sc.eH s).drop 1)+1:Nat))/\w'=w:=by
 obtain⟨R,hR⟩:=eu (Sc.vW ((Sc.eH s).drop 1)+1);rw[hR];have HR:=dY hR;clear hR
 go_enter func126,ntmps126
 go_wp2
 go_loopg [3] s.size (λgf i wr=>∃(p:Nat),i=.int .i64 p/\wr=w/\1<=p/\p<=s.size+1/\s.size<=p+gf/\Hid (R=Sc.vW ((Sc.eH s).drop p)+min p s.size))
 case atStart=>exact⟨1,rfl,rfl,eO _,dS,dS,dY (by rw[<-HR.out,IW dS])⟩
 case round=>
  obtain⟨p,rfl,rfl,hp1,hp2,hf,HE⟩:=hrel;by_cases hlt:p<s.size
  ·obtain⟨g',rfl⟩:∃g',gk=g'+1:=⟨gk-1,dS⟩
   have hi:(p:Int)<(s.size:Int):=dS
   have hA:=af1 s p hlt;have hm:min p s.size=p:=IW dS;have hP:=C8 (s.extract p s.size) ⟨#[39,39]⟩ wr;rw[show((⟨#[39,39]⟩:ByteArray).data.toList.isPrefixOf (s.extract p s.size).data.toList)=_ from akW s p hlt]at hP;have hE:=HE.out;rw[hA,hm]at hE;by_cases c:p+1<s.size/\(s.get! p).toNat=39/\(s.get! (p+1)).toNat=39
   ·rw[kD c]at hP;rw[dX c.2.1,dX ⟨c.1,c.2.2⟩]at hE;have HP:=dY hP;have HE2:=dY (show R=Sc.vW ((Sc.eH s).drop (p+2))+min (p+2) s.size from Qu);have hq:p+2<=s.size+1:=by omega
    clear hA hP hE HE c hm;go_wp2_with fail
    refine HP.out.mono ?_;rintro e w1 ⟨rfl,rfl⟩;go_wp2_with fail
    go_roundg g'
    case measure=>omega
    case rel=>exact⟨p+2,fH,rfl,dS,hq,dS,HE2⟩
   ·rw[ic c]at hP;have HP:=dY hP;have hge:=Sc.l7 s p hlt;by_cases d:(s.get! p).toNat=39
    ·rw[dX d,dW (λx=>c ⟨x.1,d,x.2⟩)]at hE;have g:(((s[p]'hlt).toNat:Int)==39)=true:=by rw[hge,d];rfl
     have HE2:=dY hE;clear hA hP hE HE c hm d hge;go_wp2_with fail
     refine HP.out.mono ?_;rintro e w1 ⟨rfl,rfl⟩;go_wp2_with fail
     go_ret;exact⟨by rw[HE2.out];simp;omega,rfl⟩
    ·rw[dW d]at hE;have g:(((s[p]'hlt).toNat:Int)==39)=false:=jE.2 (by rw[hge];omega);have HE2:=dY (show R=Sc.vW ((Sc.eH s).drop (p+1))+min (p+1) s.size from Qu);clear hA hP hE HE c hm d hge;go_wp2_with fail
     refine HP.out.mono ?_;rintro e w1 ⟨rfl,rfl⟩;go_wp2_with fail
     exact aax
  ·have hi:¬((p:Int)<(s.size:Int)):=by omega
   have hE:=HE.out;rw[acT s p dS,ahU dS,jY]at hE;have HE2:=dY hE;clear hE HE;go_wp2_with fail
   go_ret;exact⟨D7,rfl⟩
theorem af4(s:ByteArray)(w:World)(hs:s.size<=100000)(h0:0<s.size):
 Calls prog 127 #[.string s] w λe w'=>e=.returned (.int .i64 (Sc.vX ((Sc.eH s).drop 1)+1:Nat))/\w'=w:=by
 obtain⟨R,hR⟩:=eu (Sc.vX ((Sc.eH s).drop 1)+1);rw[hR];have HR:=dY hR;clear hR
 go_enter func127,ntmps127
 go_wp2
 go_loopg [3] s.size (λgf i wr=>∃(p:Nat),i=.int .i64 p/\wr=w/\1<=p/\p<=s.size+1/\s.size<=p+gf/\Hid (R=Sc.vX ((Sc.eH s).drop p)+min p s.size))
 case atStart=>exact⟨1,rfl,rfl,eO _,dS,dS,dY (by rw[<-HR.out,IW dS])⟩
 case round=>
  obtain⟨p,rfl,rfl,hp1,hp2,hf,HE⟩:=hrel;by_cases hlt:p<s.size
  ·obtain⟨g',rfl⟩:∃g',gk=g'+1:=⟨gk-1,dS⟩
   have hi:(p:Int)<(s.size:Int):=dS
   have hA:=af2 s p hlt;have hm:min p s.size=p:=IW dS;have hE:=HE.out;have hge:=Sc.l7 s p hlt;rw[hA,hm]at hE;by_cases c:(s.get! p).toNat=34
   ·rw[dX c]at hE;have g:(((s[p]'hlt).toNat:Int)==92)=false:=by rw[hge,c];rfl
    have g2:(((s[p]'hlt).toNat:Int)==34)=true:=by rw[hge,c];rfl
    have HE2:=dY hE;clear hA hE HE c hm hge;go_wp2_with fail
    go_ret;exact⟨by rw[HE2.out];simp;omega,rfl⟩
   ·rw[dW c]at hE;have g2:(((s[p]'hlt).toNat:Int)==34)=false:=jE.2 (by rw[hge];omega);by_cases d:(s.get! p).toNat=92
    ·rw[dX d]at hE;have g:(((s[p]'hlt).toNat:Int)==92)=true:=by rw[hge,d];rfl
     have HE2:=dY (show R=Sc.vX ((Sc.eH s).drop (p+2))+min (p+2) s.size from by
      rw[hE];by_cases q:p+1<s.size
      ·rw[dX q,IW dS];omega
      ·rw[dW q,ahU dS,Ng s _ dS];omega)
     clear hA hE HE c hm d hge;go_wp2_with fail
     go_roundg g'
     case measure=>omega
     case rel=>exact⟨p+2,fH,rfl,dS,dS,dS,HE2⟩
    ·rw[dW d]at hE;have g:(((s[p]'hlt).toNat:Int)==92)=false:=jE.2 (by rw[hge];omega);have HE2:=dY (show R=Sc.vX ((Sc.eH s).drop (p+1))+min (p+1) s.size from Qu);clear hA hE HE c hm d hge;go_wp2_with fail
     exact aax
  ·have hi:¬((p:Int)<(s.size:Int)):=by omega
   have hE:=HE.out;rw[Ng s p dS,ahU dS,jY]at hE;have HE2:=dY hE;clear hE HE;go_wp2_with fail
   go_ret;exact⟨D7,rfl⟩
theorem af5(s:ByteArray)(w:World)(hs:s.size<=100000)(h0:0<s.size):
 Calls prog 89 #[.string s] w λe w'=>e=.returned (.tuple #[.int .i64 (kI (Sc.quoted (Sc.eH s)).1),.int .i64 (Sc.quoted (Sc.eH s)).2])/\w'=w:=by
 have h1:=af3 s w hs h0;have h2:=af4 s w hs h0;have hb:=aho s 0 h0;rw[<-Sc.lL]at h1 h2;rw[uo s h0,Sc.quoted];by_cases c1:(s[0]'h0).toNat=39
 ·rw[dX c1];have g1:(((s[0]'h0).toNat:Int)==39)=true:=by rw[c1];rfl
  have H1:=dY h1;clear h1 h2 c1;generalize Sc.vW (Sc.eH (s.extract 1 s.size))=n at*
  go_enter func89,ntmps89
  go_wp2_with fail
  refine H1.out.mono ?_;rintro e w1 ⟨rfl,rfl⟩;go_wp2_with fail
  go_ret2;exact⟨rfl,rfl⟩
 ·rw[dW c1];have g1:(((s[0]'h0).toNat:Int)==39)=false:=jE.2 dS;by_cases c2:(s[0]'h0).toNat=34
  ·rw[dX c2];have g2:(((s[0]'h0).toNat:Int)==34)=true:=by rw[c2];rfl
   have H2:=dY h2;clear h1 h2 c1 c2;generalize Sc.vX (Sc.eH (s.extract 1 s.size))=n at*
   go_enter func89,ntmps89
   go_wp2_with fail
   refine H2.out.mono ?_;rintro e w1 ⟨rfl,rfl⟩;go_wp2_with fail
   go_ret2;exact⟨rfl,rfl⟩
  ·rw[dW c2];have g2:(((s[0]'h0).toNat:Int)==34)=false:=jE.2 dS;clear h1 h2 c1 c2
   go_enter func89,ntmps89
   go_wp2_with fail
   go_ret2;exact⟨rfl,rfl⟩
end
section
open Go.RowKit
open Sg
open Sq
theorem ajn(op:Bool)(s:ByteArray)(h:0<s.size):Sc.key op (Sc.eH s)=(Sc.part (Sc.eH s)||(op&&Sc.Mb (s[0]'h).toNat)):=by
 rw[uo s h];rfl
theorem Nh(b op:Nat)(s:ByteArray)(w:World)(hs:s.size<=maxLen)(c5:w.cell? ⟨b,5,none⟩=some (.int .i64 op)):
 Calls prog 123 #[.pointer (some ⟨b,0,none⟩),.string s] w λe w'=>e=.returned (.bool (Sc.key (decide (0<op)) (Sc.eH s)))/\w'=w:=by
 have hP:=xL s w hs;by_cases h0:0<s.size
 ·rw[ajn _ s h0];have hF:=ag9 (s[0]'h0).toNat w;cases hp:Sc.part (Sc.eH s)with
  |true=>
   rw[hp]at hP;have HP:=dY hP;clear hP hp hF
   go_enter func123,ntmps123
   exact Eg
  |false=>
   rw[hp]at hP;have HP:=dY hP;by_cases ho:0<op
   ·have aa:(0:Int)<(op:Int):=by omega
    rw[kD ho];have HF:=dY hF;generalize Sc.Mb (s[0]'h0).toNat=F at*;clear hP hp hF
    go_enter func123,ntmps123
    go_wp2_with fail
    refine HP.out.mono ?_;rintro e w1 ⟨rfl,rfl⟩;go_wp2_with fail
    refine HF.out.mono ?_;rintro e w1 ⟨rfl,rfl⟩;go_wp2_with fail
    exact pz
   ·obtain rfl:op=0:=by omega
    clear hP hp hF ho
    go_enter func123,ntmps123
    exact Eg
 ·obtain rfl:=CG s dS;rw[show Sc.part (Sc.eH ⟨#[]⟩)=true from rfl]at hP;have HP:=dY hP;clear hP h0
  go_enter func123,ntmps123
  exact Eg
theorem acU(b:Nat)(v:Value)(l:List Tk)(x:Tk)(w:World)(hl:(l++[x]).length<=100000)(c1:w.cell? ⟨b,1,none⟩=some v)(hR:Reads iQ w v (l++[x])):
 Calls prog 86 #[.pointer (some ⟨b,0,none⟩)] w λe w'=>e=.returned (.bool (x.1==2||x.1==3))/\Below w.heap.size w w':=by
 obtain⟨a,cap,rfl⟩:=hR.shape;obtain⟨tb,off,rfl,d0,d1,d2⟩:=iY hR l.length x eG;obtain⟨n,hn⟩:=eu (l.length);have hN:(l++[x]).length=n+1:=by simp[hn]
 rw[hn]at d0 d1 d2;rw[hN]at c1 hl;have e1:((n+1:Nat):Int)-1=(n:Int):=dS
 have i1:(0:Int)<=(n:Int):=dS
 have i2:(n:Int)<((n+1:Nat):Int):=dS
 obtain⟨k,f,t⟩:=x;simp only at d0 d1 d2⊢;have hk:((k==2||k==3):Bool)=(((k:Int)==2)||((k:Int)==3)):=by
  rw[qb];simp;omega
 rw[hk];clear hR hn hN d1 d2 hk
 go_enter func86,ntmps86
 go_wp2_with fail
 go_big_quiet (fail)
 have hb:=Gy (fD w.heap.size w) nq;cases g2:((k:Int)==2)
 all_goals
  go_wp2_with fail
  go_ret;exact⟨by rw[g2];rfl,hb⟩
end
section
open Go.RowKit
open Sg
open Sq
def Mem(w:World)(b:Nat)(s:ByteArray)(v:Value)(at' row en op base least:Int)(dash:Bool):Prop:=
 w.heap[b]?=some (.cells #[.string s,v,.int .i64 at',.int .i64 row,.int .i64 en,.int .i64 op,.int .i64 base,.int .i64 least,.bool dash] 67 (0,0))
variable {w w':World}{b:Nat}{s:ByteArray}{v:Value}{at' row en op base least:Int}{dash:Bool}
theorem Mem.c(h:Mem w b s v at' row en op base least dash):w.cell? ⟨b,0,none⟩=some (.string s)/\w.cell? ⟨b,1,none⟩=some v/\w.cell? ⟨b,2,none⟩=some (.int .i64 at')/\w.cell? ⟨b,3,none⟩=some (.int .i64 row)/\w.cell? ⟨b,4,none⟩=some (.int .i64 en)/\w.cell? ⟨b,5,none⟩=some (.int .i64 op)/\w.cell? ⟨b,6,none⟩=some (.int .i64 base)/\w.cell? ⟨b,7,none⟩=some (.int .i64 least)/\w.cell? ⟨b,8,none⟩=some (.bool dash):=
 ⟨(fq h 0).trans rfl,(fq h 1).trans rfl,(fq h 2).trans rfl,(fq h 3).trans rfl,(fq h 4).trans rfl,(fq h 5).trans rfl,(fq h 6).trans rfl,(fq h 7).trans rfl,(fq h 8).trans rfl⟩
theorem Mem.f(h:Mem w b s v at' row en op base least dash)(o:Nat):w.frozen? ⟨b,o,none⟩=false:=qc h o
theorem Mem.lt(h:Mem w b s v at' row en op base least dash):b<w.heap.size:=(Dl.1 h).1
theorem Mem.below(h:Mem w b s v at' row en op base least dash)(hb:Below w.heap.size w w'):Mem w' b s v at' row en op base least dash:=(hb.block b h.lt).trans h
theorem Mem.grown{r:Option Nat}(h:Mem w b s v at' row en op base least dash)(hg:w.grownBy w' r)(hne:r≠some b):Mem w' b s v at' row en op base least dash:=(hg.block b h.lt (λe=>hne e.symm)).trans h
theorem Mem.set1(h:Mem w b s v at' row en op base least dash)(u:Value):Mem (w.setCell ⟨b,1,none⟩ u) b s u at' row en op base least dash:=sw h u
theorem Mem.set2(h:Mem w b s v at' row en op base least dash)(u:Int):Mem (w.setCell ⟨b,2,none⟩ (.int .i64 u)) b s v u row en op base least dash:=sw h _
theorem Mem.alZ(h:Mem w b s v at' row en op base least dash)(u:Int):Mem (w.setCell ⟨b,3,none⟩ (.int .i64 u)) b s v at' u en op base least dash:=sw h _
theorem Mem.al0(h:Mem w b s v at' row en op base least dash)(u:Int):Mem (w.setCell ⟨b,4,none⟩ (.int .i64 u)) b s v at' row u op base least dash:=sw h _
theorem Mem.alL(h:Mem w b s v at' row en op base least dash)(u:Int):Mem (w.setCell ⟨b,5,none⟩ (.int .i64 u)) b s v at' row en u base least dash:=sw h _
theorem Mem.ail(h:Mem w b s v at' row en op base least dash)(u:Int):Mem (w.setCell ⟨b,6,none⟩ (.int .i64 u)) b s v at' row en op u least dash:=sw h _
theorem Mem.aeX(h:Mem w b s v at' row en op base least dash)(u:Int):Mem (w.setCell ⟨b,7,none⟩ (.int .i64 u)) b s v at' row en op base u dash:=sw h _
theorem Mem.Ya(h:Mem w b s v at' row en op base least dash)(u:Bool):Mem (w.setCell ⟨b,8,none⟩ (.bool u)) b s v at' row en op base least u:=sw h _
theorem acV(k:Nat)(w:World):
 Calls prog 84 #[.int .i64 k] w λe w'=>e=.returned (.bool (Sc.counts k))/\w=w':=by
 go_enter func84,ntmps84
 go_wp2;all_goals
  go_ret;refine⟨?_,rfl⟩;refine congrArg (λb=>Ending.returned (.bool b)) ?_;rw[qb];simp[Sc.counts]at*;try omega
theorem af6(k:Nat)(w:World):
 Calls prog 85 #[.int .i64 k] w λe w'=>e=.returned (.bool (Sc.leaves k))/\w=w':=by
 go_enter func85,ntmps85
 go_wp2;all_goals
  go_ret;refine⟨?_,rfl⟩;refine congrArg (λb=>Ending.returned (.bool b)) ?_;rw[qb];simp[Sc.leaves]at*;try omega
def al1(b:Nat)(s:ByteArray)(T C k:Nat)(row op:Nat)(en base least:Int)(dash:Bool)(l':List Tk)(w w':World):Prop:=
 ∃(v2:Value)(ag ae aa:Int)(af:Bool),Mem w' b s v2 T row en ag ae aa af/\Row w' b v2 l'/\Below b w w'/\ag=Sc.opens op k/\(aa=if k=18 then(if base=-1 then(C:Int)else base+1)else least)/\(ae=if base=-1/\Sc.counts k=true then(C:Int)else base)/\af=(dash&&Sc.leaves k)
theorem Ym(k n T C:Nat)(at' row op:Nat)(en base least:Int)(dash:Bool)(b:Nat)(s:ByteArray)(v:Value)(l:List Tk)(w:World)(hM:Mem w b s v at' row en op base least dash)(hO:Row w b v l)(hT:at'+n=T)(hC:row+C=at')(ha:T<=100000)(hl:l.length<=100000)(hop:op<=100000)(hb1:-1<=base)(hb2:base<=100000):
 Calls prog 55 #[.pointer (some ⟨b,0,none⟩),.int .i64 k,.int .i64 n] w λe w'=>e=.returned (.tuple #[])/\al1 b s T C k row op en base least dash (l++[(k,at',T)]) w w':=by
 obtain⟨c0,c1,c2,c3,c4,c5,c6,c7,c8⟩:=hM.c;have az:((at':Int)-(row:Int))=(C:Int):=dS
 have hne:v.ownBlock≠some b:=λe=>by have:=(hO.lt b e).1;omega
 obtain⟨HM,HO,ai⟩:=je hM hO (pJ hM.lt);clear hM hO
 go_enter func55,ntmps55
 go_wp2_with fail
 go_big_quiet (fail)
 have hbq:=Gy (fD w.heap.size w) nq;have ax:=dY (HM.out.below hbq);have HO1:=dY (show Row (w.drewN nq) b v l from eZ HO.out hbq);have ag:=dY hbq;clear hbq c0 c1 c2 c3 c4 c5 c6 c7 c8 HM HO;obtain⟨W,hW⟩:=eu (w.drewN nq);rw[hW]at ax HO1 ag⊢;clear hW;have hM1:=ax.out;have hlt:=hM1.lt;obtain⟨c0,c1,c2,c3,c4,c5,c6,c7,c8⟩:=hM1.c;have f1:=hM1.f 1;have hne0:b≠W.heap.size:=dS
 have e1:(at':Int)+(n:Int)=(T:Int):=dS
 have w1:IntKind.i64.wrap (T:Int)=(T:Int):=sj _ dS;have mE:=dY (afu W.drew (k,at',T) 45);have aj:=hM1.below ((fD W.heap.size W).drew.alloc (eO _) (.cells #[.int .i64 k,.int .i64 at',.int .i64 (T:Nat)] 45));have HMa:=dY aj;have yn:=dY ((fD W.heap.size W).drew.alloc (eO _) (.cells #[.int .i64 k,.int .i64 at',.int .i64 (T:Nat)] 45));have d1:W.drew.cell? ⟨b,1,none⟩=some v:=c1;have d2:W.drew.cell? ⟨b,2,none⟩=some (.int .i64 at'):=c2;have x1:=aj.c.2.1;have x2:=aj.c.2.2.1;have x3:=(hM1.below (dZ W (.cells #[.int .i64 k,.int .i64 at',.int .i64 (T:Nat)] 45))).c.2.1;have hl1:l.length+1<=maxLen:=pg
 have hl2:(l.length+1)*24<=140737488355328:=dS
 have hl3:b+1<=(W.drew.alloc (.cells #[.int .i64 k,.int .i64 at',.int .i64 (T:Nat)] 45)).heap.size:=eQ
 obtain⟨F9,HL2,HL3,Cx,Df⟩:=vV hl1 hl2 hl3 hne hlt;have HOa:=dY (show Row (W.drew.alloc (.cells #[.int .i64 k,.int .i64 at',.int .i64 (T:Nat)] 45)) b v l from World.ownsRow.alloc (w:=W.drew) HO1.out _);clear hM1 hlt aj hl1 hl2 hl3 hne hC hT hl;clear c0 c1 c2 c3 c4 c5 c6 c7 c8;go_upto_region 2 with fail
 go_cut [] (λwx=>∃v2,Mem wx b s v2 at' row en op base least dash/\Row wx b v2 (l++[((k,at',T):Tk)])/\Below b W wx)
 case first=>
  go_wp2_with fail
  refine X7 (S:=λwx=>wx.cell? ⟨b,2,none⟩=some (.int .i64 at')) dV d2 (λhH=>?_);refine iI 0 (.pointer (some ⟨b,0,none⟩)) hH ?_;refine iI 1 (.pointer (some ⟨b,0,none⟩)) hH ?_;refine iI 2 (.pointer (some ⟨b,0,none⟩)) hH ?_;refine iI 3 (.pointer (some ⟨b,1,none⟩)) hH ?_;refine iI 5 (.int .i64 k) hH ?_;refine iI 6 (.pointer (some ⟨b,0,none⟩)) hH ?_;refine iI 7 (.pointer (some ⟨b,0,none⟩)) hH ?_;refine iI 8 (.pointer (some ⟨b,2,none⟩)) hH ?_;refine iI 9 (.int .i64 at') hH ?_;refine iI 10 (.pointer (some ⟨b,0,none⟩)) hH ?_;refine iI 11 (.pointer (some ⟨b,0,none⟩)) hH ?_;refine iI 12 (.pointer (some ⟨b,2,none⟩)) hH ?_;refine iI 13 (.int .i64 at') hH ?_;refine iI 14 (.int .i64 n) hH ?_;refine iI 15 (.int .i64 (T:Nat)) hH ?_;refine iI 16 (.agg #[.int .i64 k,.int .i64 at',.int .i64 (T:Nat)]) hH ?_;refine aeT (rs:=[4,17]) dV eG ?_;refine Ph (o:=⟨_,_,_,_,_,_⟩) rfl (λK hK=>?_) (Ph (o:=⟨_,_,_,_,_,_⟩) rfl (λK hK=>?_) (aeU))
  ·skip
   go_simp;refine hK.out _ _ (d2) (λhH2=>?_);clear hK K;try simp only[Act.put,fG,fB,fC]
   refine Cc 17 λK hK=>?_
   exact ZL
  ·skip
   go_simp;refine hK.out _ _ (x2) (λhH2=>?_);clear hK K;try simp only[Act.put,fG,fB,fC]
   refine Cc 4 λK hK=>?_
   exact ZL
 case rest=>
  obtain⟨v2,hM2,hO2,hB2⟩:=hcut;obtain⟨qx,xm,HB2⟩:=je hM2 hO2 hB2;obtain⟨c0,c1,c2,c3,c4,c5,c6,c7,c8⟩:=hM2.c;have f2:=hM2.f 2;have f5:=hM2.f 5;have f7:=hM2.f 7;have aA:(0:Int)<=(op:Int):=dS
  have aB:(op:Int)<=100000:=dS
  clear hM2 hO2 hB2 ax HO1 mE HMa yn F9 HL2 HL3 Cx Df HOa d1 d2 x1 x2 x3 w1 hne0 f1 c0 c1 c3 c4 c8
  go_upto_block 0 with fail
  go_cut [] (λwx=>∃ae aa:Int,Mem wx b s v2 T row en ae base aa dash/\Row wx b v2 (l++[((k,at',T):Tk)])/\Below b W wx/\Hid (ae=Sc.opens op k/\aa=if k=18 then(if base=-1 then(C:Int)else base+1)else least))
  case first=>
   by_cases k8:k=8
   ·subst k8;go_wp2_with fail
    go_meet
    exact AZ
   by_cases k9:k=9
   ·subst k9;go_wp2_with fail
    go_meet
    exact AZ
   by_cases k10:k=10
   ·subst k10;have hmx:max ((op:Int)-1) 0=((op-1:Nat):Int):=by omega
    go_wp2_with fail
    go_meet
    exact AZ
   by_cases k11:k=11
   ·subst k11;have hmx:max ((op:Int)-1) 0=((op-1:Nat):Int):=by omega
    go_wp2_with fail
    go_meet
    exact AZ
   by_cases k20:k=20
   ·subst k20;go_wp2_with fail
    go_meet
    exact AZ
   by_cases k21:k=21
   ·subst k21;go_wp2_with fail
    go_meet
    exact AZ
   by_cases k18:k=18
   ·subst k18;by_cases hbs:base=-1
    ·subst hbs;go_wp2_with fail
     go_meet
     exact⟨_,_,((qx.out.set2 T).aeX _).aeX _,jH (jH (jH xm.out 2 _) 7 _) 7 _,jI (jI (jI HB2.out (eO b) 2 _) (eO b) 7 _) (eO b) 7 _,dY (⟨Qj,eG⟩)⟩
    ·have gb:(base==-1)=false:=jE.2 hbs;go_wp2_with fail
     go_meet
     exact⟨_,_,(qx.out.set2 T).aeX _,jH (jH xm.out 2 _) 7 _,jI (jI HB2.out (eO b) 2 _) (eO b) 7 _,dY (⟨Qj,by simp[hbs]⟩)⟩
   have g8:((k:Int)==8)=false:=jE.2 dS;have g9:((k:Int)==9)=false:=jE.2 dS;have g10:((k:Int)==10)=false:=jE.2 dS;have g11:((k:Int)==11)=false:=jE.2 dS;have g20:((k:Int)==20)=false:=jE.2 dS;have g21:((k:Int)==21)=false:=jE.2 dS;have g18:((k:Int)==18)=false:=jE.2 dS;go_wp2_with fail
   go_meet
   exact⟨_,_,(qx.out.set2 T),jH xm.out 2 _,jI HB2.out (eO b) 2 _,dY (⟨by simp[Sc.opens,k8,k9,k10,k11,k20,k21],by simp[k18]⟩)⟩
  case rest=>
   obtain⟨ae,aa,ak,hO3,hB3,HS⟩:=hcut;obtain⟨Lj,Cw,HB3⟩:=je ak hO3 hB3;obtain⟨c0,c1,c2,c3,c4,c5,c6,c7,c8⟩:=ak.c;have f6:=ak.f 6;clear ak hO3 hB3 qx xm HB2 f2 f5 f7 f6 c0 c1 c2 c3 c4 c5 c7 c8;go_upto_region 17 with fail
   go_cut [101] (λq wx=>q=.bool (base==-1&&Sc.counts k)/\Mem wx b s v2 T row en ae base aa dash/\Row wx b v2 (l++[((k,at',T):Tk)])/\Below b W wx)
   case first=>
    have HC:=dY (λW'=>acV k W');cases hbs:(base==-1)with
    |true=>
     go_wp2_with fail
     refine(HC.out _).mono ?_;rintro e w5 ⟨rfl,rfl⟩;go_wp2_with fail
     go_meet
     exact⟨by rw[hbs];rfl,Lj.out,Cw.out,HB3.out⟩
    |false=>
     go_wp2_with fail
     go_meet
     exact⟨by rw[hbs];rfl,Lj.out,Cw.out,HB3.out⟩
   case rest=>
    obtain⟨rfl,ah,hO4,hB4⟩:=hcut;obtain⟨af,av,qQ⟩:=je ah hO4 hB4;obtain⟨c0,c1,c2,c3,c4,c5,c6,c7,c8⟩:=ah.c;have f6:=ah.f 6;have f8:=ah.f 8;have HL:=dY (λW'=>af6 k W');have ay:((base==-1&&Sc.counts k)=true)↔(base=-1/\Sc.counts k=true):=eG
    have HQ:=dY ay;clear ah hO4 hB4 Lj Cw HB3 ay c0 c1 c2 c3 c4 c5 c7;cases hq:(base==-1&&Sc.counts k)with
    |true=>
     have vP:=dY (HQ.out.1 hq);cases hd:dash with
     |false=>
      rw[hd]at c8 af;go_wp2_with fail
      go_end0
      exact⟨rfl,v2,ae,C,aa,false,(af.out.ail _).Ya _,jH (jH av.out 6 _) 8 _,ag.out.nC ai.out (jI (jI qQ.out (eO b) 6 _) (eO b) 8 _),HS.out.1,HS.out.2,by rw[dX vP.out],by rw[hd];rfl⟩
     |true=>
      rw[hd]at c8 af;go_wp2_with fail
      refine(HL.out _).mono ?_;rintro e w5 ⟨rfl,rfl⟩;go_wp2_with fail
      go_end0
      exact⟨rfl,v2,ae,C,aa,_,(af.out.ail _).Ya _,jH (jH av.out 6 _) 8 _,ag.out.nC ai.out (jI (jI qQ.out (eO b) 6 _) (eO b) 8 _),HS.out.1,HS.out.2,by rw[dX vP.out],by rw[hd];rfl⟩
    |false=>
     have vP:=dY (λh=>Bool.false_ne_true (hq.symm.trans (HQ.out.2 h)));cases hd:dash with
     |false=>
      rw[hd]at c8 af;go_wp2_with fail
      go_end0
      exact⟨rfl,v2,ae,base,aa,false,af.out.Ya _,jH av.out 8 _,ag.out.nC ai.out (jI qQ.out (eO b) 8 _),HS.out.1,HS.out.2,by rw[dW vP.out],by rw[hd];rfl⟩
     |true=>
      rw[hd]at c8 af;go_wp2_with fail
      refine(HL.out _).mono ?_;rintro e w5 ⟨rfl,rfl⟩;go_wp2_with fail
      go_end0
      exact⟨rfl,v2,ae,base,aa,_,af.out.Ya _,jH av.out 8 _,ag.out.nC ai.out (jI qQ.out (eO b) 8 _),HS.out.1,HS.out.2,by rw[dW vP.out],by rw[hd];rfl⟩
end
section
open Go.RowKit
open Sg
theorem Ac(s:ByteArray)(h0:0<s.size):Sc.wh (Sc.eH (s.extract 1 s.size))=if 1<s.size/\((s.get! 1).toNat=43\/(s.get! 1).toNat=45)then 2 else 1:=by
 rw[Sc.lL];by_cases h1:1<s.size
 ·rw[Sc.drop_cons s 1 h1,Sc.wh];by_cases a:(s.get! 1).toNat=43
  ·rw[dX a,dX ⟨h1,.inl a⟩]
  ·rw[dW a];by_cases b:(s.get! 1).toNat=45
   ·rw[dX b,dX ⟨h1,.inr b⟩]
   ·rw[dW b,dW (λx=>x.2.elim a b)]
 ·rw[Sc.drop_nil s 1 dS,dW (λx=>h1 x.1)];rfl
theorem KR(s:ByteArray)(k n:Nat)(hk:k<=s.size)(hn:Sc.run Sc.blk (Sc.eH (s.extract k s.size))=n):
 Sc.J9 ((Sc.eH s).drop k)=(decide (((s.extract k s.size).extract n (s.extract k s.size).size).size=0)||(Sc.part (Sc.eH (s.extract k s.size))&&Sc.hsh (Sc.eH ((s.extract k s.size).extract n (s.extract k s.size).size)))):=by
 unfold Sc.J9;rw[<-Sc.lL,hn,<-Sc.lL (s.extract k s.size) n];congr 1;rw[qb,uJ,LM];exact⟨λh=>by rw[<-Sc.fM,h];rfl,λh=>l9 (by rw[Sc.fM];exact h)⟩
theorem Ks(s:ByteArray)(h:0<s.size):Sc.hsh (Sc.eH s)=((s[0]'h).toNat==35):=by
 rw[uo s h];rfl
theorem wW(s:ByteArray)(h0:0<s.size)(k:Nat)(hk:Sc.wh (Sc.eH (s.extract 1 s.size))=k):Sc.lT (Sc.eH s)=if(s[0]'h0).toNat=124\/(s[0]'h0).toNat=62 then(if Sc.J9 ((Sc.eH s).drop k)=true then k else 0)else 0:=by
 subst hk;have:=uo s h0;rw[this,Sc.lT]
def akX(x:Nat):Prop:=((x:Int) !=124)=false\/(((x:Int) !=124)=true/\((x:Int) !=62)=false)
theorem Ad{x:Nat}(c:x=124\/x=62):akX x:=by
 rcases c with c|c
 ·left;rw[c];rfl
 ·right;rw[c];exact⟨rfl,rfl⟩
theorem ajo(s:ByteArray)(w:World)(hs:s.size<=100000)(h0:0<s.size)(c:(s[0]'h0).toNat=124\/(s[0]'h0).toNat=62)(h1:s.size=1):
 Calls prog 90 #[.string s] w λe w'=>e=.returned (.int .i64 (Sc.lT (Sc.eH s)))/\Below w.heap.size w w':=by
 have hS:Sc.wh (Sc.eH (s.extract 1 s.size))=1:=by rw[Ac s h0];rw[dW (λx=>dS)]
 have hres:=wW s h0 1 hS;rw[dX c,Sc.drop_nil s 1 dS]at hres;have hR:Sc.lT (Sc.eH s)=1:=by rw[hres];rfl
 rw[hR];have hI1:¬((1:Int)<(s.size:Int)):=dS
 have aa:(1:Int)<=(s.size:Int):=dS
 have HB:=dY (ui ByteArray.empty w dU);have gF:=Ad c;clear hS hres hR c;rcases gF with gA|⟨gA,gB⟩
 all_goals
  go_enter func90,ntmps90
  go_wp2_with fail
  refine HB.out.mono ?_;rintro e w1 ⟨rfl,hbw⟩;go_wp2_with fail
  go_ret;exact⟨rfl,hbw⟩
theorem ajp(s:ByteArray)(w:World)(hs:s.size<=100000)(h0:0<s.size)(c:(s[0]'h0).toNat=124\/(s[0]'h0).toNat=62)(h1:1<s.size)(a:(s[1]'h1).toNat≠43)(b:(s[1]'h1).toNat≠45):
 Calls prog 90 #[.string s] w λe w'=>e=.returned (.int .i64 (Sc.lT (Sc.eH s)))/\Below w.heap.size w w':=by
 have hm:s.size<=maxLen:=pg
 have hS:Sc.wh (Sc.eH (s.extract 1 s.size))=1:=by rw[Ac s h0];rw[<-Sc.l7 s 1 h1,dW (λx=>x.2.elim a b)]
 have hres:=wW s h0 1 hS;rw[dX c]at hres;have hz:=wV s 1 hm;have hrb:=ui (s.extract 1 s.size) w hz;have hle:=Sc.og Sc.blk (Sc.eH (s.extract 1 s.size));rw[Sc.fM]at hle;obtain⟨n,hn⟩:=eu (Sc.run Sc.blk (Sc.eH (s.extract 1 s.size)));have hok:=KR s 1 n dS hn;rw[hn]at hrb hle;obtain⟨rest,hrest⟩:=eu (s.extract 1 s.size);have hrz:rest.size<=100000:=Qk
 rw[hrest]at hrb hle hok hz;have hpt:=λW=>xL rest W hz
 have hlo:(n:Int)<=(rest.size:Int):=dS
 have af:(1:Int)<=(s.size:Int):=dS
 obtain⟨bh,ae⟩:=eu (rest.extract n rest.size);rw[ae]at hok;have gF:=Ad c;have hI1:(1:Int)<(s.size:Int):=dS
 have ga:(((s[1]'h1).toNat:Int)==43)=false:=jE.2 dS;have gb:(((s[1]'h1).toNat:Int)==45)=false:=jE.2 dS;clear a b;have HB:=dY hrb;clear hn hz hS c hle hrb hs hm;by_cases hb0:bh.size=0
 ·obtain rfl:=CG bh hb0;have hR:Sc.lT (Sc.eH s)=1:=by rw[hres,hok];rfl
  exact ZZ
 ·have hb1:0<bh.size:=by omega
  have hE:bh.toList.isEmpty=false:=Ql
  have aa:decide (bh.size=0)=false:=ic hb0;have hh:=Ks bh hb1;rw[aa,aei]at hok;clear aa hb0;cases hp:Sc.part (Sc.eH rest)with
  |false=>
   exact QG
  |true=>
   have HP:=dY (λW=>Qm);by_cases h35:(bh[0]'hb1).toNat=35
   ·have hR:Sc.lT (Sc.eH s)=1:=by rw[hres,hok,hp,hh,h35];rfl
    exact ZP
   ·exact ZQ
theorem ajq(s:ByteArray)(w:World)(hs:s.size<=100000)(h0:0<s.size)(c:(s[0]'h0).toNat=124\/(s[0]'h0).toNat=62)(h1:1<s.size)(a:(s[1]'h1).toNat=43):
 Calls prog 90 #[.string s] w λe w'=>e=.returned (.int .i64 (Sc.lT (Sc.eH s)))/\Below w.heap.size w w':=by
 have hm:s.size<=maxLen:=pg
 have hS:Sc.wh (Sc.eH (s.extract 1 s.size))=2:=by rw[Ac s h0];rw[<-Sc.l7 s 1 h1,dX ⟨h1,.inl a⟩]
 have hres:=wW s h0 2 hS;rw[dX c]at hres;have hz:=wV s 2 hm;have hrb:=ui (s.extract 2 s.size) w hz;have hle:=Sc.og Sc.blk (Sc.eH (s.extract 2 s.size));rw[Sc.fM]at hle;obtain⟨n,hn⟩:=eu (Sc.run Sc.blk (Sc.eH (s.extract 2 s.size)));have hok:=KR s 2 n dS hn;rw[hn]at hrb hle;obtain⟨rest,hrest⟩:=eu (s.extract 2 s.size);have hrz:rest.size<=100000:=Qk
 rw[hrest]at hrb hle hok hz;have hpt:=λW=>xL rest W hz
 have hlo:(n:Int)<=(rest.size:Int):=dS
 have af:(2:Int)<=(s.size:Int):=dS
 obtain⟨bh,ae⟩:=eu (rest.extract n rest.size);rw[ae]at hok;have gF:=Ad c;have hI1:(1:Int)<(s.size:Int):=dS
 have ga:(((s[1]'h1).toNat:Int)==43)=true:=by rw[a];rfl
 clear a;have HB:=dY hrb;clear hn hz hS c hle hrb hs hm;by_cases hb0:bh.size=0
 ·exact aaS
 ·have hb1:0<bh.size:=by omega
  have hE:bh.toList.isEmpty=false:=Ql
  have aa:decide (bh.size=0)=false:=ic hb0;have hh:=Ks bh hb1;rw[aa,aei]at hok;clear aa hb0;cases hp:Sc.part (Sc.eH rest)with
  |false=>
   exact QG
  |true=>
   exact ZO
theorem ajr(s:ByteArray)(w:World)(hs:s.size<=100000)(h0:0<s.size)(c:(s[0]'h0).toNat=124\/(s[0]'h0).toNat=62)(h1:1<s.size)(a:(s[1]'h1).toNat=45):
 Calls prog 90 #[.string s] w λe w'=>e=.returned (.int .i64 (Sc.lT (Sc.eH s)))/\Below w.heap.size w w':=by
 have hm:s.size<=maxLen:=pg
 have hS:Sc.wh (Sc.eH (s.extract 1 s.size))=2:=by rw[Ac s h0];rw[<-Sc.l7 s 1 h1,dX ⟨h1,.inr a⟩]
 have hres:=wW s h0 2 hS;rw[dX c]at hres;have hz:=wV s 2 hm;have hrb:=ui (s.extract 2 s.size) w hz;have hle:=Sc.og Sc.blk (Sc.eH (s.extract 2 s.size));rw[Sc.fM]at hle;obtain⟨n,hn⟩:=eu (Sc.run Sc.blk (Sc.eH (s.extract 2 s.size)));have hok:=KR s 2 n dS hn;rw[hn]at hrb hle;obtain⟨rest,hrest⟩:=eu (s.extract 2 s.size);have hrz:rest.size<=100000:=Qk
 rw[hrest]at hrb hle hok hz;have hpt:=λW=>xL rest W hz
 have hlo:(n:Int)<=(rest.size:Int):=dS
 have af:(2:Int)<=(s.size:Int):=dS
 obtain⟨bh,ae⟩:=eu (rest.extract n rest.size);rw[ae]at hok;have gF:=Ad c;have hI1:(1:Int)<(s.size:Int):=dS
 have ga:(((s[1]'h1).toNat:Int)==43)=false:=by rw[a];rfl
 have gb:(((s[1]'h1).toNat:Int)==45)=true:=by rw[a];rfl
 clear a;have HB:=dY hrb;clear hn hz hS c hle hrb hs hm;by_cases hb0:bh.size=0
 ·exact aaS
 ·have hb1:0<bh.size:=by omega
  have hE:bh.toList.isEmpty=false:=Ql
  have aa:decide (bh.size=0)=false:=ic hb0;have hh:=Ks bh hb1;rw[aa,aei]at hok;clear aa hb0;cases hp:Sc.part (Sc.eH rest)with
  |false=>
   exact QG
  |true=>
   exact ZO
theorem ajs(s:ByteArray)(w:World)(hs:s.size<=100000)(h0:0<s.size)(c:¬((s[0]'h0).toNat=124\/(s[0]'h0).toNat=62)):
 Calls prog 90 #[.string s] w λe w'=>e=.returned (.int .i64 (Sc.lT (Sc.eH s)))/\Below w.heap.size w w':=by
 have hR:Sc.lT (Sc.eH s)=0:=by rw[wW s h0 _ rfl,dW c]
 rw[hR];have gA:(((s[0]'h0).toNat:Int) !=124)=true:=eQ
 have gB:(((s[0]'h0).toNat:Int) !=62)=true:=eQ
 clear hR c
 go_enter func90,ntmps90
 go_wp2_with fail
 go_ret;exact⟨rfl,fD _ _⟩
theorem akY(s:ByteArray)(w:World)(hs:s.size<=100000)(h0:0<s.size):
 Calls prog 90 #[.string s] w λe w'=>e=.returned (.int .i64 (Sc.lT (Sc.eH s)))/\Below w.heap.size w w':=by
 by_cases c:(s[0]'h0).toNat=124\/(s[0]'h0).toNat=62
 ·by_cases h1:1<s.size
  ·by_cases a:(s[1]'h1).toNat=43
   ·exact ajq s w hs h0 c h1 a
   ·by_cases b:(s[1]'h1).toNat=45
    ·exact ajr s w hs h0 c h1 b
    ·exact ajp s w hs h0 c h1 a b
  ·exact ajo s w hs h0 c dS
 ·exact ajs s w hs h0 c
end
section
open Go.RowKit
open Sg
theorem UE(op:Nat)(dash:Bool)(s:ByteArray)(h:0<s.size)(c:Nat)(hc:(s[0]'h).toNat=c):Sc.sign op dash (Sc.eH s)=
 if c=91 then 8 else if c=123 then 9 else if c=93 then 10 else if c=125 then 11
 else if c=44 then(if 0<op then 7 else 0)
 else if c=45 then(if op=0 then(if dash=true then(if Sc.part (Sc.eH (s.extract 1 s.size))=true then 5 else 0)else 0)else 0)
 else if c=58 then(if Sc.key (decide (0<op)) (Sc.eH (s.extract 1 s.size))=true then 6 else 0)else 0:=by
 rw[uo s h,hc,Sc.sign]
theorem akZ(b op:Nat)(dash:Bool)(s:ByteArray)(w:World)(hs:s.size<=100000)(h0:0<s.size)(c5:w.cell? ⟨b,5,none⟩=some (.int .i64 op))(c8:w.cell? ⟨b,8,none⟩=some (.bool dash)):
 Calls prog 87 #[.pointer (some ⟨b,0,none⟩),.string s] w λe w'=>e=.returned (.int .i64 (kI (Sc.sign op dash (Sc.eH s))))/\w'=w:=by
 have hm:s.size<=maxLen:=pg
 have hz:=wV s 1 hm;have hP:=xL (s.extract 1 s.size) w hz;have hK:=Nh b op (s.extract 1 s.size) w hz c5;have hlo:(1:Int)<=(s.size:Int):=dS
 obtain⟨c,hc⟩:=eu ((s[0]'h0).toNat);have hA:=UE op dash s h0 c hc;have hcI:((s[0]'h0).toNat:Int)=(c:Int):=by rw[hc]
 obtain⟨R,hR⟩:=eu (Sc.sign op dash (Sc.eH s));rw[hR]at hA⊢;clear hR hm hz;by_cases ax:c=91
 ·subst ax;have af:(((s[0]'h0).toNat:Int)==91)=true:=by rw[hcI];rfl
  have aa:(((s[0]'h0).toNat:Int)==123)=false:=gL
  have ag:(((s[0]'h0).toNat:Int)==93)=false:=gL
  have ae:(((s[0]'h0).toNat:Int)==125)=false:=gL
  have ah:(((s[0]'h0).toNat:Int)==44)=false:=gL
  have ai:(((s[0]'h0).toNat:Int)==45)=false:=gL
  have aj:(((s[0]'h0).toNat:Int)==58)=false:=gL
  obtain rfl:R=8:=by rw[hA];rfl
  exact Eh
 by_cases ak:c=123
 ·subst ak;have af:(((s[0]'h0).toNat:Int)==91)=false:=by rw[hcI];rfl
  have aa:(((s[0]'h0).toNat:Int)==123)=true:=gL
  have ag:(((s[0]'h0).toNat:Int)==93)=false:=gL
  have ae:(((s[0]'h0).toNat:Int)==125)=false:=gL
  have ah:(((s[0]'h0).toNat:Int)==44)=false:=gL
  have ai:(((s[0]'h0).toNat:Int)==45)=false:=gL
  have aj:(((s[0]'h0).toNat:Int)==58)=false:=gL
  obtain rfl:R=9:=by rw[hA];rfl
  exact Eh
 by_cases ay:c=93
 ·subst ay;have af:(((s[0]'h0).toNat:Int)==91)=false:=by rw[hcI];rfl
  have aa:(((s[0]'h0).toNat:Int)==123)=false:=gL
  have ag:(((s[0]'h0).toNat:Int)==93)=true:=gL
  have ae:(((s[0]'h0).toNat:Int)==125)=false:=gL
  have ah:(((s[0]'h0).toNat:Int)==44)=false:=gL
  have ai:(((s[0]'h0).toNat:Int)==45)=false:=gL
  have aj:(((s[0]'h0).toNat:Int)==58)=false:=gL
  obtain rfl:R=10:=by rw[hA];rfl
  exact Eh
 by_cases av:c=125
 ·subst av;have af:(((s[0]'h0).toNat:Int)==91)=false:=by rw[hcI];rfl
  have aa:(((s[0]'h0).toNat:Int)==123)=false:=gL
  have ag:(((s[0]'h0).toNat:Int)==93)=false:=gL
  have ae:(((s[0]'h0).toNat:Int)==125)=true:=gL
  have ah:(((s[0]'h0).toNat:Int)==44)=false:=gL
  have ai:(((s[0]'h0).toNat:Int)==45)=false:=gL
  have aj:(((s[0]'h0).toNat:Int)==58)=false:=gL
  obtain rfl:R=11:=by rw[hA];rfl
  exact Eh
 by_cases az:c=44
 ·subst az;have af:(((s[0]'h0).toNat:Int)==91)=false:=by rw[hcI];rfl
  have aa:(((s[0]'h0).toNat:Int)==123)=false:=gL
  have ag:(((s[0]'h0).toNat:Int)==93)=false:=gL
  have ae:(((s[0]'h0).toNat:Int)==125)=false:=gL
  have ah:(((s[0]'h0).toNat:Int)==44)=true:=gL
  have ai:(((s[0]'h0).toNat:Int)==45)=false:=gL
  have aj:(((s[0]'h0).toNat:Int)==58)=false:=gL
  by_cases ho:0<op
  ·obtain rfl:R=7:=by rw[hA];simp[ho]
   have aC:(0:Int)<(op:Int):=dS
   exact Eh
  ·obtain rfl:op=0:=by omega
   obtain rfl:R=0:=AR
   clear hA hc hcI hP hK;clear ho
   go_enter func87,ntmps87
   exact nH
 by_cases aA:c=45
 ·subst aA;have af:(((s[0]'h0).toNat:Int)==91)=false:=by rw[hcI];rfl
  have aa:(((s[0]'h0).toNat:Int)==123)=false:=gL
  have ag:(((s[0]'h0).toNat:Int)==93)=false:=gL
  have ae:(((s[0]'h0).toNat:Int)==125)=false:=gL
  have ah:(((s[0]'h0).toNat:Int)==44)=false:=gL
  have ai:(((s[0]'h0).toNat:Int)==45)=true:=gL
  have aj:(((s[0]'h0).toNat:Int)==58)=false:=gL
  by_cases ho:0<op
  ·obtain rfl:R=0:=by rw[hA];simp;omega
   have aC:((op:Int)==0)=false:=jE.2 dS;clear hA hc hcI hP hK
   go_enter func87,ntmps87
   exact nH
  ·obtain rfl:op=0:=by omega
   cases hd:dash with
   |false=>
    rw[hd]at hA c8;obtain rfl:R=0:=AR
    clear hA hc hcI hP hK;clear ho
    go_enter func87,ntmps87
    exact nH
   |true=>
    rw[hd]at hA c8;cases hp:Sc.part (Sc.eH (s.extract 1 s.size))with
    |true=>
     rw[hp]at hA hP;obtain rfl:R=5:=AR
     exact aaT
    |false=>
     rw[hp]at hA hP;obtain rfl:R=0:=AR
     exact aaT
 by_cases aB:c=58
 ·subst aB;have af:(((s[0]'h0).toNat:Int)==91)=false:=by rw[hcI];rfl
  have aa:(((s[0]'h0).toNat:Int)==123)=false:=gL
  have ag:(((s[0]'h0).toNat:Int)==93)=false:=gL
  have ae:(((s[0]'h0).toNat:Int)==125)=false:=gL
  have ah:(((s[0]'h0).toNat:Int)==44)=false:=gL
  have ai:(((s[0]'h0).toNat:Int)==45)=false:=gL
  have aj:(((s[0]'h0).toNat:Int)==58)=true:=gL
  cases hp:Sc.key (decide (0<op)) (Sc.eH (s.extract 1 s.size))with
  |true=>
   rw[hp]at hA hK;obtain rfl:R=6:=AR
   exact aaL
  |false=>
   rw[hp]at hA hK;obtain rfl:R=0:=AR
   exact aaL
 have af:(((s[0]'h0).toNat:Int)==91)=false:=yU
 have aa:(((s[0]'h0).toNat:Int)==123)=false:=yU
 have ag:(((s[0]'h0).toNat:Int)==93)=false:=yU
 have ae:(((s[0]'h0).toNat:Int)==125)=false:=yU
 have ah:(((s[0]'h0).toNat:Int)==44)=false:=yU
 have ai:(((s[0]'h0).toNat:Int)==45)=false:=yU
 have aj:(((s[0]'h0).toNat:Int)==58)=false:=yU
 obtain rfl:R=0:=by rw[hA,dW ax,dW ak,dW ay,dW av,dW az,dW aA,dW aB]
 clear hA hc hcI hP hK;clear ax ak ay av az aA aB
 go_enter func87,ntmps87
 go_wp2_with fail
 go_ret;exact⟨rfl,rfl⟩
end
end Go.Proofs.YtmkkdjpebbdikaaGreatDoor

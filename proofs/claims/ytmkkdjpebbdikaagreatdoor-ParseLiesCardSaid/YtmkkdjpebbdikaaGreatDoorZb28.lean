import Derived.Test.YtmkkdjpebbdikaaGreatDoorZb24
import Derived.Test.YtmkkdjpebbdikaaGreatDoorZb25
import Derived.Test.YtmkkdjpebbdikaaGreatDoorZb26
set_option linter.all false
set_option maxHeartbeats 16000000
set_option maxRecDepth 100000
namespace Go.Proofs.YtmkkdjpebbdikaaGreatDoor
open Go.RowKit Go.Proofs.Tryz
section
open Go.RowKit
open Sg
theorem Rp(c:Int)(w:World)(h1:c<=2147483647)(h:Utf8.valid c=true):
 Calls prog 145 #[.int .i32 c] w λe w'=>e=.returned (.bool true)/\w=w':=by
 have:=BK c w h1;rw[h]at this;exact this
theorem Rq(s:ByteArray)(p:Nat):(Utf8.decode s p).1<55296\/(57343<(Utf8.decode s p).1/\(Utf8.decode s p).1<=1114111):=Y6
theorem Ih(s:ByteArray)(p:Nat):Utf8.valid ((Utf8.decode s p).1:Int)=true:=by
 have:=Rq s p;simp[Utf8.valid];omega
theorem SG(c:Int)(w:World):Calls prog 144 #[.string ByteArray.empty,.int .u8 c] w λe w'=>e=.returned (.int .i64 (-1))/\w'=w:=by
 have h:=Any.strings_IndexByte (L:=afZ) ByteArray.empty c w;refine O9 h ?_;rintro e w' ⟨rfl,rfl⟩;exact⟨rfl,rfl⟩
theorem al3(w:World):
 Calls prog 117 #[.string ⟨#[39]⟩,.int .i32 65533] w λe w'=>e=.returned (.int .i64 (-1))/\Below w.heap.size w w':=by
 go_enter func117,ntmps117
 go_wp2_with fail
 go_loopg [] 1 (λgf wr=>∃(pos:Nat),wr.heap[w.heap.size]?=some (.stringIter ⟨#[39]⟩ pos)/\Below w.heap.size w wr/\pos+gf=1)
 case atStart=>exact⟨0,AL w _ 0,(fD _ w).alloc (eO _) _,rfl⟩
 case round=>
  obtain⟨pos,hit,hb,hf⟩:=hrel;rcases(by omega:pos=0\/pos=1)with rfl|rfl
  ·obtain rfl:gk=1:=by omega
   have hnx:∀ty,(Instr.next (.pointer (some ⟨w.heap.size,0,none⟩)) true ty).run prog wr=_:=λty=>Gt wr w.heap.size ⟨#[39]⟩ 0 ty hit dU dU
   have hit2:=yI wr w.heap.size ⟨#[39]⟩ 0 1 hit;have hb2:=tJ hb (k:=w.heap.size) (eO _) ⟨#[39]⟩ 1;generalize wr.iterAt w.heap.size ⟨#[39]⟩ (0+1)=W at*;clear hit hb;go_wp2_with fail
   go_roundg 0
   case measure=>omega
   case rel=>exact⟨1,hit2,hb2,rfl⟩
  ·have hnx:∀ty,(Instr.next (.pointer (some ⟨w.heap.size,0,none⟩)) true ty).run prog wr=_:=λty=>Dv wr w.heap.size ⟨#[39]⟩ 1 ty hit dU
   exact QX
theorem al4(r:Int)(V:ByteArray)(w:World)(hr:128<=r)(hr2:r<=1114111)(hn:r≠65533)(hv:Utf8.valid r=true)(hb:2<=V.size)(hb2:V.size<=4)(he:Utf8.encode r=V):
 Calls prog 117 #[.string ⟨#[39]⟩,.int .i32 r] w λe w'=>e=.returned (.int .i64 (-1))/\Below w.heap.size w w':=by
 have h3:(r==65533)=false:=jE.2 hn;have hcv:∀w,(convert 21 9 (.int .i32 r)).run prog w=.ok (.string V) w:=λw=>by rw[uz r w,he]
 have hge:¬((V.size:Int)-1<1):=dS
 have HV:=dY (Rp r w dS hv);clear he hv
 go_enter func117,ntmps117
 go_wp2_with fail
 refine HV.out.mono ?_;rintro e w1 ⟨rfl,rfl⟩;go_wp2_with fail
 go_step3
 go_wp2_with fail
 go_loopg [9,10] 1 (λgf i f wr=>i=.int .i64 ((V.size:Int)-1)/\f=.int .i64 0/\wr=w)
 case atStart=>exact⟨rfl,rfl,rfl⟩
 case round=>
  exact QU
def Gz(r:Int):Bool:=decide (r=39)
theorem Wt(r:Int)(h0:0<=r)(h1:r<128):decide (0<=Lib.indexByte [39] r.toNat.toUInt8)=Gz r:=by
 have key:∀n:Fin 128,decide (0<=Lib.indexByte [39] n.val.toUInt8)=Gz (n.val:Int):=dU
 have:=key ⟨r.toNat,dS⟩;simp only at this;rw[this];congr 1;omega
theorem Wu(r:Int)(h:128<=r):Gz r=false:=by
 unfold Gz;simp;omega
theorem al5(r:Int)(w:World)(h0:128<=r)(hr2:r<=1114111)(hv:Utf8.valid r=true):
 Calls prog 117 #[.string ⟨#[39]⟩,.int .i32 r] w λe w'=>e=.returned (.int .i64 (-1))/\Below w.heap.size w w':=by
 by_cases h2:r=65533
 ·subst h2;exact al3 w
 have hs:=BC hv;have he:=encode_eq r;have hsz:=sK r;generalize Lm r=c at hs he hsz;subst hs;have h3:2<=(uL c).length/\(uL c).length<=4:=by
  unfold uL;rw[dW dS];split
  ·simp[enc2]
  ·split<;>simp[enc3,enc4]
 exact al4 _ _ w dS hr2 h2 hv (by rw[hsz];exact h3.1) (by rw[hsz];exact h3.2) rfl
theorem al6(r:Int)(w:World)(h0:0<=r)(hr2:r<=1114111)(hv:Utf8.valid r=true):
 Calls prog 135 #[.string ⟨#[39]⟩,.int .i32 r] w λe w'=>e=.returned (.bool (Gz r))/\Below w.heap.size w w':=by
 by_cases h1:r<128
 ·have h:=Any.strings_ContainsRune_ascii (L:=UD) ⟨#[39]⟩ r w h0 h1;refine O9 h ?_;rintro e w' ⟨rfl,rfl⟩;refine⟨?_,fD _ _⟩;show Ending.returned (.bool (decide (0<=Lib.indexByte [39] r.toNat.toUInt8)))=_;rw[Wt r h0 h1]
 ·have HI:=dY (al5 r w dS hr2 hv);rw[Wu r dS]
  go_enter func135,ntmps135
  go_wp2_with fail
  exact JX
theorem al7(w:World):
 Calls prog 117 #[.string ⟨#[34,92]⟩,.int .i32 65533] w λe w'=>e=.returned (.int .i64 (-1))/\Below w.heap.size w w':=by
 go_enter func117,ntmps117
 go_wp2_with fail
 go_loopg [] 2 (λgf wr=>∃(pos:Nat),wr.heap[w.heap.size]?=some (.stringIter ⟨#[34,92]⟩ pos)/\Below w.heap.size w wr/\pos+gf=2)
 case atStart=>exact⟨0,AL w _ 0,(fD _ w).alloc (eO _) _,rfl⟩
 case round=>
  obtain⟨pos,hit,hb,hf⟩:=hrel;rcases(by omega:pos=0\/pos=1\/pos=2)with rfl|rfl|rfl
  ·obtain rfl:gk=2:=by omega
   have hnx:∀ty,(Instr.next (.pointer (some ⟨w.heap.size,0,none⟩)) true ty).run prog wr=_:=λty=>Gt wr w.heap.size ⟨#[34,92]⟩ 0 ty hit dU dU
   have hit2:=yI wr w.heap.size ⟨#[34,92]⟩ 0 1 hit;have hb2:=tJ hb (k:=w.heap.size) (eO _) ⟨#[34,92]⟩ 1;generalize wr.iterAt w.heap.size ⟨#[34,92]⟩ (0+1)=W at*;clear hit hb;go_wp2_with fail
   go_roundg 1
   case measure=>omega
   case rel=>exact⟨1,hit2,hb2,rfl⟩
  ·obtain rfl:gk=1:=by omega
   have hnx:∀ty,(Instr.next (.pointer (some ⟨w.heap.size,0,none⟩)) true ty).run prog wr=_:=λty=>Gt wr w.heap.size ⟨#[34,92]⟩ 1 ty hit dU dU
   have hit2:=yI wr w.heap.size ⟨#[34,92]⟩ 1 2 hit;have hb2:=tJ hb (k:=w.heap.size) (eO _) ⟨#[34,92]⟩ 2;generalize wr.iterAt w.heap.size ⟨#[34,92]⟩ (1+1)=W at*;clear hit hb;go_wp2_with fail
   go_roundg 0
   case measure=>omega
   case rel=>exact⟨2,hit2,hb2,rfl⟩
  ·have hnx:∀ty,(Instr.next (.pointer (some ⟨w.heap.size,0,none⟩)) true ty).run prog wr=_:=λty=>Dv wr w.heap.size ⟨#[34,92]⟩ 2 ty hit dU
   exact QX
theorem al8(r:Int)(a b:UInt8)(w:World)(hr:128<=r)(hr2:r<=1114111)(hn:r≠65533)(hv:Utf8.valid r=true)(hb:128<=b.toNat)(he:Utf8.encode r=⟨#[a,b]⟩):
 Calls prog 117 #[.string ⟨#[34,92]⟩,.int .i32 r] w λe w'=>e=.returned (.int .i64 (-1))/\Below w.heap.size w w':=by
 have h3:(r==65533)=false:=jE.2 hn;have hcv:∀w,(convert 21 9 (.int .i32 r)).run prog w=.ok (.string ⟨#[a,b]⟩) w:=λw=>by rw[uz r w,he]
 have hne:((((⟨#[34,92]⟩:ByteArray)[1]'(by decide)).toNat:Int) !=(((⟨#[a,b]⟩:ByteArray)[1]'(by decide:(1:Nat)<2)).toNat:Int))=true:=by
  show((92:Int) !=(b.toNat:Int))=true;simp;omega
 have HV:=dY (Rp r w dS hv);clear he hv
 go_enter func117,ntmps117
 go_wp2_with fail
 refine HV.out.mono ?_;rintro e w1 ⟨rfl,rfl⟩;go_wp2_with fail
 go_step3
 go_wp2_with fail
 go_loopg [9,10] 1 (λgf i f wr=>i=.int .i64 1/\f=.int .i64 0/\wr=w)
 case atStart=>exact⟨rfl,rfl,rfl⟩
 case round=>
  obtain⟨rfl,rfl,rfl⟩:=hrel;go_wp2_with fail
  go_step3
  go_wp2_with fail
  go_big_quiet (fail)
  go_wp2_with fail
  go_big_quiet (exact(SG _ _).mono λ_ _ h=>⟨h.1,_,h.2⟩)
  exact aaw
theorem al9(r:Int)(V:ByteArray)(w:World)(hr:128<=r)(hr2:r<=1114111)(hn:r≠65533)(hv:Utf8.valid r=true)(hb:3<=V.size)(hb2:V.size<=4)(he:Utf8.encode r=V):
 Calls prog 117 #[.string ⟨#[34,92]⟩,.int .i32 r] w λe w'=>e=.returned (.int .i64 (-1))/\Below w.heap.size w w':=by
 have h3:(r==65533)=false:=jE.2 hn;have hcv:∀w,(convert 21 9 (.int .i32 r)).run prog w=.ok (.string V) w:=λw=>by rw[uz r w,he]
 have hge:¬((V.size:Int)-1<2):=dS
 have HV:=dY (Rp r w dS hv);clear he hv
 go_enter func117,ntmps117
 go_wp2_with fail
 refine HV.out.mono ?_;rintro e w1 ⟨rfl,rfl⟩;go_wp2_with fail
 go_step3
 go_wp2_with fail
 go_loopg [9,10] 1 (λgf i f wr=>i=.int .i64 ((V.size:Int)-1)/\f=.int .i64 0/\wr=w)
 case atStart=>exact⟨rfl,rfl,rfl⟩
 case round=>
  exact QU
def GA(r:Int):Bool:=decide (r=34\/r=92)
theorem Wv(r:Int)(h0:0<=r)(h1:r<128):decide (0<=Lib.indexByte [34,92] r.toNat.toUInt8)=GA r:=by
 have key:∀n:Fin 128,decide (0<=Lib.indexByte [34,92] n.val.toUInt8)=GA (n.val:Int):=dU
 have:=key ⟨r.toNat,dS⟩;simp only at this;rw[this];congr 1;omega
theorem Ww(r:Int)(h:128<=r):GA r=false:=by
 unfold GA;simp;omega
theorem ama(r:Int)(w:World)(h0:128<=r)(hr2:r<=1114111)(hv:Utf8.valid r=true):
 Calls prog 117 #[.string ⟨#[34,92]⟩,.int .i32 r] w λe w'=>e=.returned (.int .i64 (-1))/\Below w.heap.size w w':=by
 by_cases h2:r=65533
 ·subst h2;exact al7 w
 have hs:=BC hv;have he:=encode_eq r;have hsz:=sK r;generalize Lm r=c at hs he hsz;subst hs;by_cases c2:c<2048
 ·have e:uL c=enc2 c:=by unfold uL;rw[dW dS,dX c2]
  rw[e]at he;exact al8 _ _ (UInt8.ofNat (128+c%64)) w dS hr2 h2 hv (by rw[byte_of _ dS];omega) he
 ·have h3:3<=(uL c).length/\(uL c).length<=4:=by
   unfold uL;rw[dW dS,dW c2];split<;>simp[enc3,enc4]
  exact al9 _ _ w dS hr2 h2 hv (by rw[hsz];exact h3.1) (by rw[hsz];exact h3.2) rfl
theorem amb(r:Int)(w:World)(h0:0<=r)(hr2:r<=1114111)(hv:Utf8.valid r=true):
 Calls prog 135 #[.string ⟨#[34,92]⟩,.int .i32 r] w λe w'=>e=.returned (.bool (GA r))/\Below w.heap.size w w':=by
 by_cases h1:r<128
 ·have h:=Any.strings_ContainsRune_ascii (L:=UD) ⟨#[34,92]⟩ r w h0 h1;refine O9 h ?_;rintro e w' ⟨rfl,rfl⟩;refine⟨?_,fD _ _⟩;show Ending.returned (.bool (decide (0<=Lib.indexByte [34,92] r.toNat.toUInt8)))=_;rw[Wv r h0 h1]
 ·have HI:=dY (ama r w dS hr2 hv);rw[Ww r dS]
  go_enter func135,ntmps135
  go_wp2_with fail
  exact JX
end
section
open Go.RowKit
open Sg
def DC(t:ByteArray)(n:Nat):Value:=.agg #[.string t,.int .i64 (n:Int)]
def nq1(c:Nat):Bool:=!Gz (c:Int)
def Az(c:Nat):Bool:=!GA (c:Int)
theorem ac4(s:ByteArray)(p:Nat)(h:p<s.size):Gz ((Utf8.decode s p).1:Int)=!nq1 (s.get! p).toNat:=by
 have h1:=Sg.wJ s p 39 h dU;unfold nq1 Gz;rw[Bool.not_not];refine decide_eq_decide.2 ?_;omega
theorem ac5(s:ByteArray)(p:Nat)(h:p<s.size):GA ((Utf8.decode s p).1:Int)=!Az (s.get! p).toNat:=by
 have h1:=Sg.wJ s p 34 h dU;have h2:=Sg.wJ s p 92 h dU;unfold Az GA;rw[Bool.not_not];refine decide_eq_decide.2 ?_;omega
theorem _root_.Go.RowKit.Below.TQ{B b:Nat}{a w:World}(h:Below B a w)(x y:Value)(hB:B<=b):Below B a ((w.setCell ⟨b,0,none⟩ x).setCell ⟨b,1,none⟩ y):=
 (h.setCell (p:=⟨b,0,none⟩) hB x).setCell (p:=⟨b,1,none⟩) hB y
theorem ae4(s:ByteArray):s.extract 0 s.size=s:=eG
theorem ac6(c:Nat)(h:128<=c):nq1 c=true:=by simp[nq1,Gz];omega
theorem ac7(c:Nat)(h:128<=c):Az c=true:=by simp[Az,GA];omega
theorem aga(s:ByteArray)(w:World)(hs:s.size<=maxLen):
 Calls prog 105 #[.string s,.string ⟨#[39]⟩] w λe w'=>e=.returned (DC (s.extract 0 (Sc.run nq1 (Sc.eH s))) (Sc.run nq1 (Sc.eH s)))/\Below w.heap.size w w':=by
 unfold maxLen at hs;have HR:=dY (λk h1 h2=>Sc.run_end nq1 (Sc.eH s) k h1 h2);obtain⟨R0,hR0⟩:=eu (Sc.run nq1 (Sc.eH s));rw[hR0]at HR⊢;clear hR0
 go_enter func105,ntmps105
 go_wp2_with fail
 obtain⟨w0,hw0⟩:∃w0,w0=w.alloc (.cells #[.string ⟨#[]⟩,.int .i64 0] 131):=⟨_,rfl⟩
 have hB0:Below w.heap.size w w0:=hw0▸dZ w _;have hz0:w0.heap.size=w.heap.size+1:=by rw[hw0];exact size_alloc w _
 have H0:Lt w0 w.heap.size 0 (.string ⟨#[]⟩):=hw0▸xG rfl;have H1:Lt w0 w.heap.size 1 (.int .i64 0):=hw0▸xG rfl;rw[<-hw0];clear hw0
 go_loopg [] s.size (λgf wr=>∃(pos:Nat),wr.heap[w.heap.size+1]?=some (.stringIter s pos)/\Below w0.heap.size w0 wr/\Hid (∀j,j<pos->nq1 ((Sc.eH s).getD j 0)=true)/\pos<=s.size/\s.size<=pos+gf)
 case atStart=>exact⟨0,by rw[<-hz0];exact AL w0 s 0,(fD _ w0).alloc (eO _) _,dY (λj h=>absurd h (pK j)),fP _,dS⟩
 case round=>
  obtain⟨pos,hit,hb,hall,hle,hf⟩:=hrel;by_cases hlt2:pos<s.size
  ·obtain⟨g',rfl⟩:∃g',gk=g'+1:=⟨gk-1,dS⟩
   have hnx:∀ty,(Instr.next (.pointer (some ⟨w.heap.size+1,0,none⟩)) true ty).run prog wr=_:=λty=>Gs wr (w.heap.size+1) s pos ty hit hlt2
   have hwd:=Bd s pos hlt2;have hwn:=Md s pos hlt2;have hov:=Sg.Kw s pos hlt2;rw[rq s pos hlt2]at hwd hwn hov;have hgd:=Sc.jw s pos;have hdc:=ac4 s pos hlt2;have hva:=Ih s pos;have hbd:=Rq s pos;obtain⟨K,hK⟩:=eu ((Utf8.decode s pos).2);obtain⟨R,hR⟩:=eu ((Utf8.decode s pos).1);rw[hK]at hwd hwn hov hnx;rw[hR]at hdc hva hbd hnx;have hit2:=yI wr (w.heap.size+1) s pos (pos+K) hit;have hb2:=tJ hb (k:=w.heap.size+1) dS s (pos+K);obtain⟨W,hWd⟩:=eu (wr.iterAt (w.heap.size+1) s (pos+K));rw[hWd]at hnx hit2 hb2;have hcall:=al6 (R:Int) W dS dS hva;rw[hdc]at hcall;have tT:nq1 (s.get! pos).toNat=true->∀j,j<pos+K->nq1 ((Sc.eH s).getD j 0)=true:=by
    intro hc j hj;rcases O3 j pos with h|h|h
    ·exact hall.out j h
    ·subst h;rw[hgd];exact hc
    ·rw[Sc.jw];exact ac6 _ (hov j h hj)
   cases hc:nq1 (s.get! pos).toNat with
   |true=>
    exact Z0
   |false=>
    exact ZV
  ·exact ZW
theorem agb(s:ByteArray)(w:World)(hs:s.size<=maxLen):
 Calls prog 105 #[.string s,.string ⟨#[34,92]⟩] w λe w'=>e=.returned (DC (s.extract 0 (Sc.run Az (Sc.eH s))) (Sc.run Az (Sc.eH s)))/\Below w.heap.size w w':=by
 unfold maxLen at hs;have HR:=dY (λk h1 h2=>Sc.run_end Az (Sc.eH s) k h1 h2);obtain⟨R0,hR0⟩:=eu (Sc.run Az (Sc.eH s));rw[hR0]at HR⊢;clear hR0
 go_enter func105,ntmps105
 go_wp2_with fail
 obtain⟨w0,hw0⟩:∃w0,w0=w.alloc (.cells #[.string ⟨#[]⟩,.int .i64 0] 131):=⟨_,rfl⟩
 have hB0:Below w.heap.size w w0:=hw0▸dZ w _;have hz0:w0.heap.size=w.heap.size+1:=by rw[hw0];exact size_alloc w _
 have H0:Lt w0 w.heap.size 0 (.string ⟨#[]⟩):=hw0▸xG rfl;have H1:Lt w0 w.heap.size 1 (.int .i64 0):=hw0▸xG rfl;rw[<-hw0];clear hw0
 go_loopg [] s.size (λgf wr=>∃(pos:Nat),wr.heap[w.heap.size+1]?=some (.stringIter s pos)/\Below w0.heap.size w0 wr/\Hid (∀j,j<pos->Az ((Sc.eH s).getD j 0)=true)/\pos<=s.size/\s.size<=pos+gf)
 case atStart=>exact⟨0,by rw[<-hz0];exact AL w0 s 0,(fD _ w0).alloc (eO _) _,dY (λj h=>absurd h (pK j)),fP _,dS⟩
 case round=>
  obtain⟨pos,hit,hb,hall,hle,hf⟩:=hrel;by_cases hlt2:pos<s.size
  ·obtain⟨g',rfl⟩:∃g',gk=g'+1:=⟨gk-1,dS⟩
   have hnx:∀ty,(Instr.next (.pointer (some ⟨w.heap.size+1,0,none⟩)) true ty).run prog wr=_:=λty=>Gs wr (w.heap.size+1) s pos ty hit hlt2
   have hwd:=Bd s pos hlt2;have hwn:=Md s pos hlt2;have hov:=Sg.Kw s pos hlt2;rw[rq s pos hlt2]at hwd hwn hov;have hgd:=Sc.jw s pos;have hdc:=ac5 s pos hlt2;have hva:=Ih s pos;have hbd:=Rq s pos;obtain⟨K,hK⟩:=eu ((Utf8.decode s pos).2);obtain⟨R,hR⟩:=eu ((Utf8.decode s pos).1);rw[hK]at hwd hwn hov hnx;rw[hR]at hdc hva hbd hnx;have hit2:=yI wr (w.heap.size+1) s pos (pos+K) hit;have hb2:=tJ hb (k:=w.heap.size+1) dS s (pos+K);obtain⟨W,hWd⟩:=eu (wr.iterAt (w.heap.size+1) s (pos+K));rw[hWd]at hnx hit2 hb2;have hcall:=amb (R:Int) W dS dS hva;rw[hdc]at hcall;have tT:Az (s.get! pos).toNat=true->∀j,j<pos+K->Az ((Sc.eH s).getD j 0)=true:=by
    intro hc j hj;rcases O3 j pos with h|h|h
    ·exact hall.out j h
    ·subst h;rw[hgd];exact hc
    ·rw[Sc.jw];exact ac7 _ (hov j h hj)
   cases hc:Az (s.get! pos).toNat with
   |true=>
    exact Z0
   |false=>
    exact ZV
  ·exact ZW
end
section
open Go.RowKit
open Sg
open Es
inductive Pc where
 |clo
 |bad
 |say (t:ByteArray) (n:Nat)
def Pc.val:Pc->Value
 | .clo=>.iface 126 (.agg #[])
 | .bad=>.iface 128 (.agg #[])
 | .say t n=>.iface 131 (DC t n)
def pcS(s:ByteArray):Pc:=
 if([39,39]:List UInt8).isPrefixOf s.data.toList=true then .say ⟨#[39]⟩ 2
 else if(s.get! 0).toNat=39 then .clo
 else .say (s.extract 0 (Sc.run nq1 (Sc.eH s))) (Sc.run nq1 (Sc.eH s))
def pcD(s:ByteArray):Pc:=
 if(s.get! 0).toNat=34 then .clo
 else if(s.get! 0).toNat=92 then(match esc s.data.toList with
  |some (v,k)=>.say (Utf8.encode v) k
  |none=>.bad)
 else .say (s.extract 0 (Sc.run Az (Sc.eH s))) (Sc.run Az (Sc.eH s))
theorem ajy(s p:ByteArray)(w:World):Calls prog 79 #[.string s,.string p] w λe w'=>e=.returned (.bool (p.data.toList.isPrefixOf s.data.toList))/\w'=w:=Any.strings_HasPrefix (L:=af0) s p w
theorem Ii:prog.concrete 131=true:=dV
theorem Nk:prog.concrete 126=true:=dV
theorem Nl:prog.concrete 128=true:=dV
theorem ak1(s:ByteArray)(w:World)(hs:s.size<=maxLen)(h0:0<s.size):
 Calls prog 72 #[.string s] w λe w'=>e=.returned (pcS s).val/\Below w.heap.size w w':=by
 have HI:=dY (aga s w hs);have hp:=ajy s ⟨#[39,39]⟩ w;have c1:=Ii;have c2:=Nk;have c3:=Nl;unfold maxLen at hs;have hg:(s[0]'h0)=s.get! 0:=Sc.l7 s 0 h0;obtain⟨R0,hR0⟩:=eu (Sc.run nq1 (Sc.eH s));unfold pcS;rw[hR0]at HI⊢;rw[show(⟨#[39,39]⟩:ByteArray).data.toList=[39,39]from rfl]at hp;cases hpre:([39,39]:List UInt8).isPrefixOf s.data.toList with
 |true=>
  rw[hpre]at hp;have HP:=dY hp;clear hp hpre hR0 HI
  exact aan
 |false=>
  rw[hpre]at hp;have HP:=dY hp;rw[dW dU];by_cases aa:(s.get! 0).toNat=39
  ·rw[dX aa];have g:(((s[0]'h0).toNat:Int)==39)=true:=by rw[hg,aa];rfl
   clear hp hpre hR0 HI hg aa
   exact aan
  ·rw[dW aa];have g:(((s[0]'h0).toNat:Int)==39)=false:=jE.2 (by rw[hg];omega);clear hp hpre hR0 hg aa
   go_enter func72,ntmps72
   go_wp2_with fail
   refine HP.out.mono ?_;rintro e w1 ⟨rfl,rfl⟩;go_wp2_with fail
   exact JX
theorem ak2(s:ByteArray)(w:World)(hs:s.size<=maxLen)(h0:0<s.size):
 Calls prog 73 #[.string s] w λe w'=>e=.returned (pcD s).val/\Below w.heap.size w w':=by
 have HI:=dY (agb s w hs);have he:=Sw s w hs;have c1:=Ii;have c2:=Nk;have c3:=Nl;unfold maxLen at hs;have hg:(s[0]'h0)=s.get! 0:=Sc.l7 s 0 h0;obtain⟨R0,hR0⟩:=eu (Sc.run Az (Sc.eH s));unfold pcD;rw[hR0]at HI⊢;by_cases aa:(s.get! 0).toNat=34
 ·rw[dX aa];have g:(((s[0]'h0).toNat:Int)==34)=true:=by rw[hg,aa];rfl
  clear he hR0 HI hg aa
  go_enter func73,ntmps73
  go_wp2;go_ret;exact⟨rfl,fD _ _⟩
 ·rw[dW aa];have g:(((s[0]'h0).toNat:Int)==34)=false:=jE.2 (by rw[hg];omega);by_cases ae:(s.get! 0).toNat=92
  ·rw[dX ae];have g2:(((s[0]'h0).toNat:Int)==92)=true:=by rw[hg,ae];rfl
   cases hE:esc s.data.toList with
   |none=>
    rw[hE]at he;have HE:=dY (show Calls prog 106 #[.string s] w λe w'=>e=.returned (.tuple #[.string ⟨#[]⟩,.int .i64 0])/\Below w.heap.size w w' from he);clear he hR0 HI hg aa hE ae
    exact aar
   |some x=>
    obtain⟨v,k⟩:=x;have hk:=Qo.zK hE;have hk0:(0:Int)<(k:Int):=dS
    rw[hE]at he;have HE:=dY (show Calls prog 106 #[.string s] w λe w'=>e=.returned (.tuple #[.string (Utf8.encode v),.int .i64 k])/\Below w.heap.size w w' from he);dsimp only;generalize Utf8.encode v=V at*;clear he hR0 HI hg aa hE ae
    exact aar
  ·rw[dW ae];have g2:(((s[0]'h0).toNat:Int)==92)=false:=jE.2 (by rw[hg];omega);clear he hR0 hg aa ae
   go_enter func73,ntmps73
   go_wp2_with fail
   exact JX
end
section
open Go.RowKit
open Sg
open Es
open Qo
def ba(l:List UInt8):ByteArray:=⟨l.toArray⟩
theorem Tz{b:ByteArray}{l:List UInt8}(h:b.data.toList=l):ba l=b:=by
 subst h;rfl
theorem abL(a b:ByteArray):(a++b).data.toList=a.data.toList++b.data.toList:=Sg.Mt a b
theorem KT(s:ByteArray)(a b:Nat):(s.extract a b).data.toList=(s.data.toList.drop a).take (b-a):=Es.ext_list s a b
theorem wX(s:ByteArray)(a:Nat):(s.extract a s.size).data.toList=s.data.toList.drop a:=by
 rw[KT,zw];rw[ky,<-vL];exact eO _
theorem ajz(s:ByteArray)(c:UInt8)(r:List UInt8)(h:s.data.toList=c::r):s.get! 0=c:=by
 rw[<-AJ,h];rfl
theorem uw(s:ByteArray)(h:0<s.size):∃r,s.data.toList=s.get! 0::r:=by
 cases hl:s.data.toList with
 |nil=>rw[vL,hl]at h;exact absurd h dU
 |cons c r=>exact⟨r,by rw[ajz s c r hl]⟩
theorem ajA(l:List UInt8):vQ l=(l.take (Sc.run nq1 (l.map UInt8.toNat))++(vQ (l.drop (Sc.run nq1 (l.map UInt8.toNat)))).1,(vQ (l.drop (Sc.run nq1 (l.map UInt8.toNat)))).2):=by
 induction l with
 |nil=>rfl
 |cons c r ih=>
  rw[yG,Sc.run];cases hc:nq1 c.toNat with
  |false=>rfl
  |true=>
   have aa:c≠39:=λe=>Qt
   rw[dX rfl,aiT c r aa];generalize Sc.run nq1 (r.map UInt8.toNat)=n at*;rw[vJ,xB,ih];rfl
theorem ajB(l:List UInt8):∀p,tZ p l=(l.take (Sc.run Az (l.map UInt8.toNat))++(tZ (p+Sc.run Az (l.map UInt8.toNat)) (l.drop (Sc.run Az (l.map UInt8.toNat)))).1,(tZ (p+Sc.run Az (l.map UInt8.toNat)) (l.drop (Sc.run Az (l.map UInt8.toNat)))).2):=by
 induction l with
 |nil=>intro p;rfl
 |cons c r ih=>
  intro p;rw[yG,Sc.run];cases hc:Az c.toNat with
  |false=>rfl
  |true=>
   have aa:c≠34:=λe=>Qt
   have ae:c≠92:=λe=>Qt
   rw[dX rfl,aiU p c r aa ae];have ih:=ih (p+1);generalize Sc.run Az (r.map UInt8.toNat)=n at*;rw[vJ,xB,ih,show p+1+n=p+(n+1)by omega];rfl
theorem ac8(s:ByteArray)(h:0<s.size)(aa:(s.get! 0).toNat≠39):1<=Sc.run nq1 (Sc.eH s):=by
 obtain⟨r,hr⟩:=uw s h;show 1<=Sc.run nq1 (s.data.toList.map UInt8.toNat);rw[hr,yG,Sc.run,dX (by simp[nq1,Gz];omega)];omega
theorem ac9(s:ByteArray)(h:0<s.size)(aa:(s.get! 0).toNat≠34)(ae:(s.get! 0).toNat≠92):1<=Sc.run Az (Sc.eH s):=by
 obtain⟨r,hr⟩:=uw s h;show 1<=Sc.run Az (s.data.toList.map UInt8.toNat);rw[hr,yG,Sc.run,dX (by simp[Az,GA];omega)];omega
theorem Nn(p:Nat->Bool)(s:ByteArray):Sc.run p (Sc.eH s)<=s.size:=by
 rw[<-Sc.fM];exact Sc.og p _
theorem abz(s:ByteArray)(n:Nat)(h:n<=s.size):(s.extract 0 n).size=n:=by
 rw[Sg.ext_size s 0 n h,Gn]
theorem Wx(v:Int):(Utf8.encode v).size<=4:=by
 rw[Sg.sK];exact(Sg.abR _).2
theorem ajC(s:ByteArray)(h:0<s.size)(e:pcS s=.clo):vQ s.data.toList=([],true):=by
 unfold pcS at e;cases hp:([39,39]:List UInt8).isPrefixOf s.data.toList with
 |true=>rw[hp,dX rfl]at e;cases e
 |false=>
  rw[hp,dW dU]at e;by_cases aa:(s.get! 0).toNat=39
  ·obtain⟨r,hr⟩:=uw s h;have hc:s.get! 0=39:=Qo.Tx _ 39 aa;rw[hr,hc]at hp⊢;cases r with
   |nil=>rfl
   |cons d t=>
    refine afi d t λhd=>?_
    subst hd;simp[List.isPrefixOf]at hp
  ·rw[dW aa]at e;cases e
theorem ajD(s:ByteArray)(e:pcS s=.bad):False:=by
 unfold pcS at e;split at e
 ·cases e
 ·split at e<;>cases e
theorem ajE(s:ByteArray)(h:0<s.size)(t:ByteArray)(n:Nat)(e:pcS s=.say t n):
 1<=n/\n<=s.size/\t.size<=2*n/\vQ s.data.toList=(t.data.toList++(vQ (s.data.toList.drop n)).1,(vQ (s.data.toList.drop n)).2):=by
 unfold pcS at e;cases hp:([39,39]:List UInt8).isPrefixOf s.data.toList with
 |true=>
  rw[hp,dX rfl]at e;injection e with e1 e2
  subst e1 e2;obtain⟨r,hr⟩:=List.isPrefixOf_iff_prefix.1 hp;have hz:s.size=r.length+2:=by rw[vL,<-hr];simp
  refine⟨dU,dS,by show(1:Nat)<=2*2;decide,?_⟩;rw[<-hr];exact afh r
 |false=>
  rw[hp,dW dU]at e;by_cases aa:(s.get! 0).toNat=39
  ·rw[dX aa]at e;cases e
  ·rw[dW aa]at e;injection e with e1 e2
   have h1:=ac8 s h aa;have h2:=Nn nq1 s;have h3:=ajA s.data.toList;rw[show s.data.toList.map UInt8.toNat=Sc.eH s from rfl]at h3;rw[e2]at h1 h2 h3 e1;subst e1;refine⟨h1,h2,by rw[abz s n h2];omega,?_⟩;rw[KT,lM,Gn];exact h3
theorem ajF(s:ByteArray)(p:Nat)(h:0<s.size)(e:pcD s=.clo):tZ p s.data.toList=([],[],true):=by
 unfold pcD at e;by_cases aa:(s.get! 0).toNat=34
 ·obtain⟨r,hr⟩:=uw s h;rw[hr,Qo.Tx _ 34 aa];exact afk p r
 ·rw[dW aa]at e;split at e
  ·split at e<;>cases e
  ·cases e
theorem ajG(s:ByteArray)(p:Nat)(h:0<s.size)(e:pcD s=.bad):
 tZ p s.data.toList=(92::(tZ (p+1) (s.data.toList.drop 1)).1,p::(tZ (p+1) (s.data.toList.drop 1)).2.1,(tZ (p+1) (s.data.toList.drop 1)).2.2):=by
 unfold pcD at e;by_cases ae:(s.get! 0).toNat=34
 ·rw[dX ae]at e;cases e
 ·rw[dW ae]at e;by_cases aa:(s.get! 0).toNat=92
  ·rw[dX aa]at e;obtain⟨r,hr⟩:=uw s h;rw[Qo.Tx _ 92 aa]at hr
   change s.data.toList=92::r at hr
   rw[hr]at e⊢;cases hE:esc (92::r)with
   |none=>exact afm p r hE
   |some x=>rw[hE]at e;cases e
  ·rw[dW aa]at e;cases e
theorem ajH(s:ByteArray)(p:Nat)(h:0<s.size)(t:ByteArray)(n:Nat)(e:pcD s=.say t n):
 1<=n/\n<=s.size/\t.size<=2*n/\tZ p s.data.toList=(t.data.toList++(tZ (p+n) (s.data.toList.drop n)).1,(tZ (p+n) (s.data.toList.drop n)).2):=by
 unfold pcD at e;by_cases ae:(s.get! 0).toNat=34
 ·rw[dX ae]at e;cases e
 ·rw[dW ae]at e;by_cases aa:(s.get! 0).toNat=92
  ·rw[dX aa]at e;obtain⟨r,hr⟩:=uw s h;rw[Qo.Tx _ 92 aa]at hr
   change s.data.toList=92::r at hr
   have hz:s.size=r.length+1:=by rw[vL,hr];rfl
   rw[hr]at e⊢;cases hE:esc (92::r)with
   |none=>rw[hE]at e;cases e
   |some x=>
    obtain⟨v,k⟩:=x;rw[hE]at e;injection e with e1 e2
    subst e1 e2;have hk:=Qo.zK hE;rw[iR]at hk;have h4:=Wx v;exact⟨dS,dS,dS,afl p r v k hE⟩
  ·rw[dW aa]at e;injection e with e1 e2
   have h1:=ac9 s h ae aa;have h2:=Nn Az s;have h3:=ajB s.data.toList p;rw[show s.data.toList.map UInt8.toNat=Sc.eH s from rfl]at h3;rw[e2]at h1 h2 h3 e1;subst e1;refine⟨h1,h2,by rw[abz s n h2];omega,?_⟩;rw[KT,lM,Gn];exact h3
theorem zh{w:World}{B B':Nat}{e e':TypeId}{k k' n n':Nat}{v v':Value}{xs xs':List Value}(h:w.ownsRow B e k v n xs)(h':w.ownsRow B' e' k' v' n' xs')(hne:e≠e'):v.ownBlock=none\/v.ownBlock≠v'.ownBlock:=by
 cases hv:v.ownBlock with
 |none=>exact .inl rfl
 |some g=>
  refine .inr λhe=>?_
  obtain⟨c,fz,h1⟩:=Lib.ownsRow_kind h g hv;obtain⟨c',aa,h2⟩:=Lib.ownsRow_kind h' g he.symm;rw[h1]at h2;injection h2 with h2
  injection h2 with h3 h4
  exact hne h4
theorem UK(w:World):(Instr.typeAssert (Pc.clo).val 20 126 true).run prog w=.ok (.tuple #[.agg #[],.bool true]) w:=dV
theorem agc(w:World):(Instr.typeAssert (Pc.bad).val 20 126 true).run prog w=.ok (.tuple #[.agg #[],.bool false]) w:=dV
theorem UL(v:Value)(w:World):(Instr.typeAssert (.iface 131 v) 20 126 true).run prog w=.ok (.tuple #[.agg #[],.bool false]) w:=dV
theorem agd(w:World):(Instr.typeAssert (Pc.bad).val 20 128 true).run prog w=.ok (.tuple #[.agg #[],.bool true]) w:=dV
theorem UM(v:Value)(w:World):(Instr.typeAssert (.iface 131 v) 20 128 true).run prog w=.ok (.tuple #[.agg #[],.bool false]) w:=dV
theorem UN(v:Value)(w:World):(Instr.typeAssert (.iface 131 v) 20 131 false).run prog w=.ok v w:=dV
end
section
open Go.RowKit
open Sg
open Es
open Qo
def Told(x:List UInt8×List Nat×Bool)(w:World)(e:Ending)(w':World):Prop:=
 ∃v,e=.returned (.tuple #[.string (ba x.1),v,.bool x.2.2])/\w'.ownsRow w.heap.size 3 1 v x.2.1.length (places x.2.1)/\Below w.heap.size w w'
def St1(L T:List UInt8)(en:Bool)(p:Nat)(out:ByteArray):Prop:=out.data.toList++(vQ (L.drop p)).1=T/\(vQ (L.drop p)).2=en
def St2(L T:List UInt8)(bs:List Nat)(en:Bool)(p:Nat)(out:ByteArray)(acc:List Nat):Prop:=out.data.toList++(tZ p (L.drop p)).1=T/\acc++(tZ p (L.drop p)).2.1=bs/\(tZ p (L.drop p)).2.2=en
theorem Ij(w:World)(B:Nat):w.ownsRow B 5 1 (.slice none 0 0) (⟨#[]⟩:ByteArray).size (cellsOf ⟨#[]⟩):=Pd _ _ _ _
theorem yj(w:World)(B:Nat):w.ownsRow B 3 1 (.slice none 0 0) ([]:List Nat).length (places []):=Pd _ _ _ _
theorem Yr:3≠5:=dU
theorem C9{w:World}{B:Nat}{v:Value}{out:ByteArray}(h:w.ownsRow B 5 1 v out.size (cellsOf out)):qR w v out:=qR.fo h
theorem ak3(s:ByteArray)(w:World)(hs:s.size<=100000)(h1:1<=s.size):
 Calls prog 71 #[.string s,.func (.func 72) #[] #[]] w (Told ((vQ (s.data.toList.drop 1)).1,[],(vQ (s.data.toList.drop 1)).2) w):=by
 have HN:=dY (λp W h=>ak1 (s.extract p s.size) W (show(s.extract p s.size).size<=maxLen by rw[xw];unfold maxLen;omega) h);obtain⟨T,hT⟩:=eu ((vQ (s.data.toList.drop 1)).1);obtain⟨en,hen⟩:=eu ((vQ (s.data.toList.drop 1)).2);have H0:=dY (show St1 s.data.toList T en 1 ⟨#[]⟩from⟨hT,hen⟩);rw[hT,hen];clear hT hen;have k1:=UK;have k2:=UL;have k3:=UM;have k4:=UN
 go_enter func71,ntmps71
 go_wp2_with fail
 go_loopw [5,7,8] (λbv ov av wr=>∃(p:Nat)(out:ByteArray)(V:Value),bv=.slice none 0 0/\V=ov/\av=.int .i64 p/\1<=p/\p<=s.size/\out.size<=2*p/\Hid (wr.ownsRow w.heap.size 5 1 V out.size (cellsOf out))/\Hid (St1 s.data.toList T en p out)/\Below w.heap.size w wr) (λ_ _ av _=>s.size-(intOf av).toNat)
 case atStart=>exact⟨1,⟨#[]⟩,_,rfl,rfl,rfl,eO _,dS,dU,dY (Ij w _),H0,fD _ w⟩
 case round=>
  obtain⟨p,out,V,rfl,rfl,rfl,hp1,ai,af,HO,HS,hb⟩:=hrel;by_cases hlt:p<s.size
  ·have hpi:(p:Int)<(s.size:Int):=by omega
   have hex:0<(s.extract p s.size).size:=uQ
   have hn:=HN.out p wr hex;cases hpc:pcS (s.extract p s.size)with
   |clo=>
    have hs1:=ajC _ hex hpc;rw[wX]at hs1;obtain⟨hT,hen⟩:=HS.out;rw[hs1]at hT hen;simp only[nJ]at hT;rw[hpc]at hn;obtain⟨HC,HT⟩:=fw hn (Tz hT);subst hen;clear hn hpc hs1 hT hex HS HN;go_wp2_with fail
    refine HC.out.mono ?_;rintro e w1 ⟨rfl,hb1⟩;have hb2:=hb.trans (hb1.mono hb.size);have hcv:=uq (C9 ((eZ HO.out hb1).alloc (.cells #[] 126)));go_wp2_with fail
    go_ret3
    exact⟨.slice none 0 0,by show Ending.returned (.tuple #[.string out,.slice none 0 0,.bool true])=.returned (.tuple #[.string (ba T),.slice none 0 0,.bool true]);rw[HT.out],yj _ _,hb2.alloc hb2.size _⟩
   |bad=>exact(ajD _ hpc).elim
   |say t n=>
    obtain⟨hn1,hn2,ag,hs1⟩:=ajE _ hex t n hpc;rw[wX]at hs1;rw[xw]at hn2;obtain⟨hT,hen⟩:=HS.out;rw[hs1,nP]at hT hen;have HS2:=dY (show St1 s.data.toList T en (p+n) (out++t)from⟨Qh,hen⟩);rw[hpc]at hn;have HC:=dY (show Calls prog 72 #[.string (s.extract p s.size)] wr λe w'=>e=.returned (.iface 131 (.agg #[.string t,.int .i64 (n:Int)]))/\Below wr.heap.size wr w' from hn);have hzb:out.size+t.size<=1000000:=dS
    have hpn:p+n<=s.size:=dS
    have hzn:out.size+t.size<=2*(p+n):=dS
    clear hn hpc hs1 hT hen hex HS HN hn2 ag af;go_wp2_with fail
    refine HC.out.mono ?_;rintro e w1 ⟨rfl,hb1⟩;have HB3:=dY (((hb.trans (hb1.mono hb.size)).alloc (hb.trans (hb1.mono hb.size)).size (.cells #[] 126)).alloc JA (.cells #[] 128)|>.alloc JA (.cells #[.string t,.int .i64 (n:Int)] 131));have hown1:=eZ HO.out hb1;have Df:=dY (λg (h:V.ownBlock=some g)=>(hown1.lt g h).1);have Cx:=dY (show some (w1.heap.size+1+1)≠V.ownBlock from λe=>by have:=(hown1.lt _ e.symm).2;omega);have Cw:=dY (((hown1.alloc (.cells #[] 126)).alloc (.cells #[] 128)).alloc (.cells #[.string t,.int .i64 (n:Int)] 131))
    have HZ:=dY (show(((w1.alloc (.cells #[] 126)).alloc (.cells #[] 128)).alloc (.cells #[.string t,.int .i64 (n:Int)] 131)).cell? ⟨w1.heap.size+1+1,1,none⟩=some (.int .i64 (n:Int))from by
     have:=at_new (W:=(w1.alloc (.cells #[] 126)).alloc (.cells #[] 128)) (C:=#[.string t,.int .i64 (n:Int)]) (t:=131) (k:=1) (u:=.int .i64 (n:Int)) rfl;rw[size_alloc,size_alloc]at this
     exact this)
    have aa:=dY (show w.heap.size<=(((w1.alloc (.cells #[] 126)).alloc (.cells #[] 128)).alloc (.cells #[.string t,.int .i64 (n:Int)] 131)).heap.size from HB3.out.size);have ae:out.size+t.size<=140737488355328:=dS
    clear hown1 hb hb1;go_wp2_with (at_builtin;go_must (refine wpList_append_text rfl (.tmp 50) (.tmp 52) rfl w.heap.size V out.size (cellsOf out) rfl Cw.out t rfl ae aa.out ?_;intro v2 w2 hown2 hg2;have q1:=hg2.cell HZ.out Cx.out;have ah:=dY (EY hown2);have qQ:=dY (yh HB3.out hg2 Df.out aa.out);clear hown2 hg2))
    go_roundw
    case rel=>exact⟨p+n,out++t,v2,rfl,rfl,fH,dS,hpn,by rw[Sg.ni];exact hzn,ah,HS2,qQ.out⟩
    case measure=>simp[intOf];omega
  ·obtain rfl:p=s.size:=by omega
   obtain⟨hT,hen⟩:=HS.out;rw[OY (by rw[<-vL];exact eO _),show vQ []=([],false)from rfl]at hT hen;simp only[nJ]at hT;have HT:=dY (Tz hT);subst hen;have hcv:=uq (C9 HO.out);clear hT HS HN;go_wp2_with fail
   go_ret3
   exact⟨.slice none 0 0,by show Ending.returned (.tuple #[.string out,.slice none 0 0,.bool false])=.returned (.tuple #[.string (ba T),.slice none 0 0,.bool false]);rw[HT.out],yj _ _,hb⟩
theorem ak4(s:ByteArray)(w:World)(hs:s.size<=100000)(h1:1<=s.size):
 Calls prog 71 #[.string s,.func (.func 73) #[] #[]] w (Told (tZ 1 (s.data.toList.drop 1)) w):=by
 have HN:=dY (λp W h=>ak2 (s.extract p s.size) W (show(s.extract p s.size).size<=maxLen by rw[xw];unfold maxLen;omega) h);obtain⟨T,hT⟩:=eu ((tZ 1 (s.data.toList.drop 1)).1);obtain⟨bs,hbs⟩:=eu ((tZ 1 (s.data.toList.drop 1)).2.1);obtain⟨en,hen⟩:=eu ((tZ 1 (s.data.toList.drop 1)).2.2);have H0:=dY (show St2 s.data.toList T bs en 1 ⟨#[]⟩ []from⟨hT,hbs,hen⟩);rw[show tZ 1 (s.data.toList.drop 1)=(T,bs,en)from by rw[<-hT,<-hbs,<-hen]];clear hT hbs hen;have k1:=UK;have k2:=UL;have k3:=UM;have k4:=UN;have k5:=agc;have k6:=agd;obtain⟨i0,hi,hz0,hz1,hz2⟩:=Pe TZ;obtain⟨i1,hj,hy0,hy1,hy2⟩:=Pe infoByte;have HI:=dY (And.intro hi (And.intro hz0 (And.intro hz1 hz2)));have HJ:=dY (And.intro hj (And.intro hy0 (And.intro hy1 hy2)));clear hi hz0 hz1 hz2 hj hy0 hy1 hy2
 go_enter func71,ntmps71
 go_wp2_with fail
 go_loopw [5,7,8] (λbv ov av wr=>∃(p:Nat)(out:ByteArray)(acc:List Nat)(V B:Value),B=bv/\V=ov/\av=.int .i64 p/\1<=p/\p<=s.size/\out.size<=2*p/\acc.length<=p/\Hid (wr.ownsRow w.heap.size 5 1 V out.size (cellsOf out))/\Hid (wr.ownsRow w.heap.size 3 1 B acc.length (places acc))/\Hid (St2 s.data.toList T bs en p out acc)/\Below w.heap.size w wr) (λ_ _ av _=>s.size-(intOf av).toNat)
 case atStart=>exact⟨1,⟨#[]⟩,[],_,_,rfl,rfl,rfl,eO _,dS,dU,dU,dY (Ij w _),dY (yj w _),H0,fD _ w⟩
 case round=>
  obtain⟨p,out,acc,V,B,rfl,rfl,rfl,hp1,aI,az,haz,HO,HA,HS,hb⟩:=hrel;by_cases hlt:p<s.size
  ·have hpi:(p:Int)<(s.size:Int):=by omega
   have hex:0<(s.extract p s.size).size:=uQ
   have hn:=HN.out p wr hex;cases hpc:pcD (s.extract p s.size)with
   |clo=>
    have hs1:=ajF _ p hex hpc;rw[wX]at hs1;obtain⟨hT,hbs,hen⟩:=HS.out;rw[hs1]at hT hbs hen;simp only[nJ]at hT hbs;rw[hpc]at hn;obtain⟨HC,HT⟩:=fw hn (Tz hT);subst hen hbs;clear hn hpc hs1 hT hex HS HN;go_wp2_with fail
    refine HC.out.mono ?_;rintro e w1 ⟨rfl,hb1⟩;have hb2:=hb.trans (hb1.mono hb.size);have HA2:=dY ((eZ HA.out hb1).alloc (.cells #[] 126));have hcv:=uq (C9 ((eZ HO.out hb1).alloc (.cells #[] 126)));go_wp2_with fail
    go_ret3
    exact⟨B,by show Ending.returned (.tuple #[.string out,B,.bool true])=.returned (.tuple #[.string (ba T),B,.bool true]);rw[HT.out],HA2.out,hb2.alloc hb2.size _⟩
   |bad=>
    have hs1:=ajG _ p hex hpc;rw[wX,nP]at hs1;obtain⟨hT,hbs,hen⟩:=HS.out;rw[hs1]at hT hbs hen;have HS2:=dY (show St2 s.data.toList T bs en (p+1) (out++⟨#[92]⟩) (acc++[p])from⟨Qh,by rw[pI];exact hbs,hen⟩);rw[hpc]at hn;have HC:=dY hn;clear hn hpc hs1 hT hbs hen hex HS HN;go_wp2_with fail
    refine HC.out.mono ?_;rintro e w1 ⟨rfl,hb1⟩;have hb2:=hb.trans (hb1.mono hb.size);have hb3:=hb2.alloc hb2.size (.cells #[] 126);have hb4:=hb3.alloc hb3.size (.cells #[] 128);have hb5:=hb4.alloc hb4.size (.cells #[.int .i64 (p:Int)] 3);have tY:=dY hb5;have ai:=dY ((((eZ HO.out hb1).alloc (.cells #[] 126)).alloc (.cells #[] 128)).alloc (.cells #[.int .i64 (p:Int)] 3));have ae:=dY ((((eZ HA.out hb1).alloc (.cells #[] 126)).alloc (.cells #[] 128)).alloc (.cells #[.int .i64 (p:Int)] 3));have af:=aim ((w1.alloc (.cells #[] 126)).alloc (.cells #[] 128)) (.int .i64 (p:Int)) 3;rw[size_alloc,size_alloc]at af;have aA:=dY af;clear af;clear hb hb1 hb2 hb3 hb4 hb5;have tok:True:=trivial
    go_wp2_with (first
     |(at_builtin;have _t:=tok;clear tok;go_must (refine aeH _ rfl (.tmp 39) (.tmp 41) 22 rfl w.heap.size 3 i0 (.int .i64 0) 1 8 underlying22 HI.out.1 HI.out.2.1 HI.out.2.2.1 HI.out.2.2.2 rfl dU B acc.length (places acc) rfl ae.out ⟨w1.heap.size+1+1,0,none⟩ 1 1 [.int .i64 (p:Int)] rfl rfl aA.out Qf pg dS tY.out.size ?_;intro v3 w3 hown3 hg3 hnil3;have ag:=dY (ai.out.kept hg3 (zh ai.out ae.out Yr.symm));have aj:=dY hown3;have tN:=dY (yh tY.out hg3 (λg h=>(ae.out.lt g h).1) tY.out.size);clear hown3 hg3 hnil3))
     |(at_builtin;go_must (refine aeH _ rfl (.tmp 43) (.tmp 44) 23 rfl w.heap.size 5 i1 (.int .u8 0) 1 1 underlying23 HJ.out.1 HJ.out.2.1 HJ.out.2.2.1 HJ.out.2.2.2 rfl dU V out.size (cellsOf out) rfl (ag.out.alloc (.cells #[.int .u8 92] 5)) ⟨w3.heap.size,0,none⟩ 1 1 [.int .u8 92] rfl rfl (aim w3 (.int .u8 92) 5) Qf pg dS YM ?_;intro v4 w4 aa hg4 ah;have aB:=dY ((aj.out.alloc (.cells #[.int .u8 92] 5)).kept hg4 (zh (aj.out.alloc (.cells #[.int .u8 92] 5)) (ag.out.alloc (.cells #[.int .u8 92] 5)) Yr));have aC:=dY (EY (x:=⟨#[92]⟩) aa);have aD:=dY (yh (tN.out.alloc tN.out.size (.cells #[.int .u8 92] 5)) hg4 (λg h=>(ag.out.lt g h).1) YM);clear aa hg4 ah)))
    go_roundw
    case rel=>exact⟨p+1,out++⟨#[92]⟩,acc++[p],v4,v3,rfl,rfl,fH,dS,dS,by rw[Sg.ni];show out.size+1<=2*(p+1);omega,by rw[iK];show acc.length+1<=p+1;omega,aC,dY (by rw[iK,Cj];exact aB.out),HS2,aD.out⟩
    case measure=>simp[intOf];omega
   |say t n=>
    obtain⟨hn1,hn2,aF,hs1⟩:=ajH _ p hex t n hpc;rw[wX]at hs1;rw[xw]at hn2;obtain⟨hT,hbs,hen⟩:=HS.out;rw[hs1,nP]at hT hbs hen;have HS2:=dY (show St2 s.data.toList T bs en (p+n) (out++t) acc from⟨Qh,hbs,hen⟩);rw[hpc]at hn;have HC:=dY (show Calls prog 73 #[.string (s.extract p s.size)] wr λe w'=>e=.returned (.iface 131 (.agg #[.string t,.int .i64 (n:Int)]))/\Below wr.heap.size wr w' from hn);have hzb:out.size+t.size<=1000000:=dS
    have hpn:p+n<=s.size:=dS
    have hzn:out.size+t.size<=2*(p+n):=dS
    clear hn hpc hs1 hT hbs hen hex HS HN hn2 aF az;go_wp2_with fail
    refine HC.out.mono ?_;rintro e w1 ⟨rfl,hb1⟩;have HB3:=dY (((hb.trans (hb1.mono hb.size)).alloc (hb.trans (hb1.mono hb.size)).size (.cells #[] 126)).alloc JA (.cells #[] 128)|>.alloc JA (.cells #[.string t,.int .i64 (n:Int)] 131));have hown1:=eZ HO.out hb1;have Df:=dY (λg (h:V.ownBlock=some g)=>(hown1.lt g h).1);have Cx:=dY (show some (w1.heap.size+1+1)≠V.ownBlock from λe=>by have:=(hown1.lt _ e.symm).2;omega);have Cw:=dY (((hown1.alloc (.cells #[] 126)).alloc (.cells #[] 128)).alloc (.cells #[.string t,.int .i64 (n:Int)] 131));have ak:=dY ((((eZ HA.out hb1).alloc (.cells #[] 126)).alloc (.cells #[] 128)).alloc (.cells #[.string t,.int .i64 (n:Int)] 131))
    have HZ:=dY (show(((w1.alloc (.cells #[] 126)).alloc (.cells #[] 128)).alloc (.cells #[.string t,.int .i64 (n:Int)] 131)).cell? ⟨w1.heap.size+1+1,1,none⟩=some (.int .i64 (n:Int))from by
     have:=at_new (W:=(w1.alloc (.cells #[] 126)).alloc (.cells #[] 128)) (C:=#[.string t,.int .i64 (n:Int)]) (t:=131) (k:=1) (u:=.int .i64 (n:Int)) rfl;rw[size_alloc,size_alloc]at this
     exact this)
    have ax:=dY (show w.heap.size<=(((w1.alloc (.cells #[] 126)).alloc (.cells #[] 128)).alloc (.cells #[.string t,.int .i64 (n:Int)] 131)).heap.size from HB3.out.size);have ay:out.size+t.size<=140737488355328:=dS
    clear hown1 hb hb1;go_wp2_with (at_builtin;go_must (refine wpList_append_text rfl (.tmp 50) (.tmp 52) rfl w.heap.size V out.size (cellsOf out) rfl Cw.out t rfl ay ax.out ?_;intro v2 w2 hown2 hg2;have q1:=hg2.cell HZ.out Cx.out;have aG:=dY (EY hown2);have aH:=dY (ak.out.kept hg2 (zh ak.out Cw.out Yr));have qQ:=dY (yh HB3.out hg2 Df.out ax.out);clear hown2 hg2))
    go_roundw
    case rel=>exact⟨p+n,out++t,acc,v2,B,rfl,rfl,fH,dS,hpn,by rw[Sg.ni];exact hzn,dS,aG,aH,HS2,qQ.out⟩
    case measure=>simp[intOf];omega
  ·obtain rfl:p=s.size:=by omega
   obtain⟨hT,hbs,hen⟩:=HS.out;rw[OY (by rw[<-vL];exact eO _),afj]at hT hbs hen;simp only[nJ]at hT hbs;have HT:=dY (Tz hT);subst hen hbs;have hcv:=uq (C9 HO.out);clear hT HS HN;go_wp2_with fail
   go_ret3
   exact⟨B,by show Ending.returned (.tuple #[.string out,B,.bool false])=.returned (.tuple #[.string (ba T),B,.bool false]);rw[HT.out],HA.out,hb⟩
end
end Go.Proofs.YtmkkdjpebbdikaaGreatDoor

import Derived.Test.YtmkkdjpebbdikaaGreatDoorZb25
import Derived.Test.YtmkkdjpebbdikaaGreatDoorZb26
set_option linter.all false
set_option maxHeartbeats 16000000
set_option maxRecDepth 100000
namespace Go.Proofs.YtmkkdjpebbdikaaGreatDoor
open Go.RowKit Go.Proofs.Tryz
def ain:=@wpAnyH_done
section
open Go.RowKit
open Sg
open Sq
theorem ak5(k:Nat)(h:0<k):(kI k==-1)=false:=by
 unfold kI;rw[dW dS];exact jE.2 dS
theorem age(b:Nat)(s:ByteArray)(v:Value)(at' row en:Nat)(op base least:Int)(dash:Bool)(w:World)(hM:Mem w b s v at' row en op base least dash)(hs:s.size<=100000)(h1:row<=en)(h2:en<=s.size)(hl0:-1<=least):
 Calls prog 54 #[.pointer (some ⟨b,0,none⟩)] w λe w'=>e=.returned (.bool (Sc.isText least (Sc.eH (s.extract row en))))/\Below w.heap.size w w':=by
 obtain⟨c0,c1,c2,c3,c4,c5,c6,c7,c8⟩:=hM.c;obtain⟨r,hr⟩:=eu (s.extract row en);have hz:r.size<=maxLen:=by rw[<-hr,xw];unfold maxLen;omega
 have aa:=λW=>ahn r W hz
 have ae:=λW=>ui r W hz
 have af:=λW=>MF r W hz
 have i1:(row:Int)<=(en:Int):=dS
 have i2:(en:Int)<=(s.size:Int):=dS
 have i3:(0:Int)<=(row:Int):=dS
 rw[hr];have hI:∀q:Bool,(Sc.isText least (Sc.eH r)=q)↔(decide (least≠-1/\Sc.mark (Sc.eH r)=0/\(Sc.run Sc.blk (Sc.eH r)=(Sc.eH r).length\/least<=Sc.run Sc.Bu (Sc.eH r)))=q):=λq=>Iff.rfl
 have hln:=Sc.fM r;obtain⟨m,hm⟩:=eu (Sc.mark (Sc.eH r));obtain⟨rb,hrb⟩:=eu (Sc.run Sc.blk (Sc.eH r));obtain⟨rs,hrs⟩:=eu (Sc.run Sc.Bu (Sc.eH r));obtain⟨R,hR⟩:=eu (Sc.isText least (Sc.eH r));have hR2:=(hI R).1 hR;rw[hm,hrb,hrs,hln]at hR2;simp only[hm]at aa;simp only[hrb]at ae;simp only[hrs]at af;rw[hR];obtain⟨ag,ah,aj,HR,HM,HX⟩:=kG aa ae af hR2 hM hr;have hx:∀a e:Nat,a=row->e=en->s.extract a e=r:=λa e h1 h2=>by rw[h1,h2];exact hr
 clear hI hR hR2 hm hrb hrs aa ae af hM hx c1 c2 c5 c6 c8 hln;by_cases hle:least=-1
 ·subst hle;have hf:R=false:=by rw[<-HR.out];simp
  subst hf
  go_enter func54,ntmps54
  exact aao
 ·have hlb:(least==-1)=false:=jE.2 hle;by_cases hmk:m=0
  ·subst hmk;by_cases hbl:rb=r.size
   ·subst hbl;have hf:R=true:=by rw[<-HR.out];simp[hle]
    subst hf
    go_enter func54,ntmps54
    go_wp2_with fail
    go_big_quiet (fail)
    have hb:=Gy (fD w.heap.size w) nq;go_wp2_with fail
    refine(ag.out _).mono ?_;rintro e w1 ⟨rfl,rfl⟩;go_wp2_with fail
    refine X7 (S:=λ_=>True) dV (trivial) (λhH=>?_);refine iI 0 (.string r) hH ?_;refine iI 2 (.string r) hH ?_;refine iI 3 (.int .i64 r.size) hH ?_;refine Cc 1 λK hK=>?_
    go_simp;refine(ah.out _).mono ?_;rintro e w2 ⟨rfl,hb2⟩;go_simp;refine hK.out _ _ (trivial) (λhH2=>?_);clear hK K;try simp only[Act.put,fG,fB,fC]
    refine iI 4 (.bool true) hH2 ?_;refine iI 5 (.bool true) hH2 ?_;refine vM (i:=6) (oi:=⟨_,_,_,_,_,_⟩) (v:=undef) rfl dV dV dV (λ_ _ _ h=>h) (Or.inr ⟨rfl,rfl⟩) hH2 ?_;try simp only[Act.put,fG,fB,fC]
    refine vM (i:=7) (oi:=⟨_,_,_,_,_,_⟩) (v:=undef) rfl dV dV dV (λ_ _ _ h=>h) (Or.inr ⟨rfl,rfl⟩) hH2 ?_;try simp only[Act.put,fG,fB,fC]
    refine vM (i:=8) (oi:=⟨_,_,_,_,_,_⟩) (v:=undef) rfl dV dV dV (λ_ _ _ h=>h) (Or.inr ⟨rfl,rfl⟩) hH2 ?_;try simp only[Act.put,fG,fB,fC]
    refine vM (i:=9) (oi:=⟨_,_,_,_,_,_⟩) (v:=undef) rfl dV dV dV (λ_ _ _ h=>h) (Or.inr ⟨rfl,rfl⟩) hH2 ?_;try simp only[Act.put,fG,fB,fC]
    refine vM (i:=10) (oi:=⟨_,_,_,_,_,_⟩) (v:=undef) rfl dV dV dV (λ_ _ _ h=>h) (Or.inr ⟨rfl,rfl⟩) hH2 ?_;try simp only[Act.put,fG,fB,fC]
    refine vM (i:=11) (oi:=⟨_,_,_,_,_,_⟩) (v:=undef) rfl dV dV dV (λ_ _ _ h=>h) (Or.inr ⟨rfl,rfl⟩) hH2 ?_;try simp only[Act.put,fG,fB,fC]
    refine vM (i:=12) (oi:=⟨_,_,_,_,_,_⟩) (v:=undef) rfl dV dV dV (λ_ _ _ h=>h) (Or.inr ⟨rfl,rfl⟩) hH2 ?_;try simp only[Act.put,fG,fB,fC]
    refine iI 13 (.bool true) hH2 ?_;refine iI 14 (.bool true) hH2 ?_;refine ain dV ?_ _;go_wp2_with fail
    go_ret;exact⟨rfl,hb.trans (((fD _ _).drew.trans (hb2.mono (eO _))).mono hb.size)⟩
   ·have hne:((rb:Int)==(r.size:Int))=false:=jE.2 dS;have hf:R=decide (least<=(rs:Int)):=by rw[<-HR.out];simp[hle,hbl]
    subst hf;have hdl:decide ((rs:Int)>=least)=decide (least<=(rs:Int)):=rfl
    go_enter func54,ntmps54
    go_wp2_with fail
    go_big_quiet (fail)
    have hb:=Gy (fD w.heap.size w) nq;have ai:=dY (HM.out.below hb);obtain⟨W,hW⟩:=eu (w.drewN nq);rw[hW]at ai hb⊢;clear hW c0 c3 c4 c7;have c7:=ai.out.c.2.2.2.2.2.2.2.1;go_wp2_with fail
    refine(ag.out _).mono ?_;rintro e w1 ⟨rfl,rfl⟩;go_wp2_with fail
    refine X7 (S:=λwx=>wx.cell? ⟨b,7,none⟩=some (.int .i64 least)) dV (c7) (λhH=>?_);refine iI 0 (.string r) hH ?_;refine iI 2 (.string r) hH ?_;refine iI 3 (.int .i64 r.size) hH ?_;refine Cc 1 λK hK=>?_
    go_simp;refine(ah.out _).mono ?_;rintro e w2 ⟨rfl,hb2⟩;have d7:=eB hb2 (show W.drew.cell? ⟨b,7,none⟩=some (.int .i64 least)from c7);go_simp;refine hK.out _ _ (d7) (λhH2=>?_);clear hK K;try simp only[Act.put,fG,fB,fC]
    refine iI 4 (.bool false) hH2 ?_;refine iI 5 (.bool false) hH2 ?_;refine iI 6 (.string r) hH2 ?_;refine iI 8 (.pointer (some ⟨b,0,none⟩)) hH2 ?_;refine iI 9 (.pointer (some ⟨b,0,none⟩)) hH2 ?_;refine iI 10 (.pointer (some ⟨b,7,none⟩)) hH2 ?_;refine iI 11 (.int .i64 least) hH2 ?_;refine Cc 7 λK hK=>?_
    go_simp;refine(aj.out _).mono ?_;rintro e w3 ⟨rfl,hb3⟩;have e7:=eB hb3 d7;go_simp;refine hK.out _ _ (e7) (λhH2=>?_);clear hK K;try simp only[Act.put,fG,fB,fC]
    refine iI 12 (.bool (decide (least<=(rs:Int)))) hH2 ?_;refine iI 13 (.bool (decide (least<=(rs:Int)))) hH2 ?_;refine iI 14 (.bool (decide (least<=(rs:Int)))) hH2 ?_;refine ain dV ?_ _;go_wp2_with fail
    go_ret;exact⟨rfl,hb.trans ((((fD W.heap.size W).drew.trans (hb2.mono (eO _))).trans (hb3.mono hb2.size)).mono hb.size)⟩
  ·have ak:=ak5 m dS;have hf:R=false:=by rw[<-HR.out];simp[hmk]
   subst hf;generalize kI m=z at*;have av:(z !=-1)=true:=by simp[bne,ak]
   go_enter func54,ntmps54
   go_wp2_with fail
   go_big_quiet (fail)
   have hb:=Gy (fD w.heap.size w) nq;go_wp2_with fail
   refine(ag.out _).mono ?_;rintro e w1 ⟨rfl,rfl⟩;go_wp2_with fail
   go_ret;exact⟨rfl,hb⟩
end
section
open Go.RowKit
open Sg
theorem agf(n b0 b1 b2 b3:Nat):Dj (min n 4) b0 b1 b2 b3=Dj n b0 b1 b2 b3:=by
 have e0:(min n 4=0)=(n=0):=propext ⟨λh=>dS,λh=>dS⟩;have e1:(1<min n 4)=(1<n):=propext ⟨λh=>dS,λh=>dS⟩;have e2:(2<min n 4)=(2<n):=propext ⟨λh=>dS,λh=>dS⟩;have e3:(3<min n 4)=(3<n):=propext ⟨λh=>dS,λh=>dS⟩;unfold Dj Lib.decodeN;simp only[e0,e1,e2,e3]
theorem UO(s:ByteArray)(i:Nat)(h:s.size<=i):(s.get! i).toNat=0:=by
 rw[<-AJ,xC,sZ Je];rfl
theorem ada(s:ByteArray)(m:Nat)(hm:m=min s.size 4):nx (s.extract 0 m) 0=nx s 0:=by
 have hz:(s.extract 0 m).size=m:=Qv
 have hg:∀j,j<=3->((s.extract 0 m).get! j).toNat=(s.get! j).toNat:=by
  intro j hj;by_cases h:j<m
  ·have:=ext_get s 0 m j dS;rw[this,jY]
  ·rw[UO _ _ dS,UO _ _ dS]
 unfold nx;rw[hz,Gn,Gn,hg 0 dS,hg (0+1) dS,hg (0+2) dS,hg (0+3) dS,hm,agf]
theorem ajI(s:ByteArray):Sc.bad (Sc.eH s)=decide ((nx s 0).1<0):=by
 have:=Sc.zG s 0;rw[lM]at this;rw[Sc.bad,<-this]
theorem akC(s:ByteArray)(w:World)(hs:s.size<=100000)(h0:0<s.size)(hT:oZ w):
 Calls prog 91 #[.string s] w λe w'=>e=.returned (.bool (Sc.bad (Sc.eH s)))/\Below w.heap.size w w':=by
 rw[ajI];obtain⟨m,hm⟩:∃m,m=min s.size 4:=⟨_,rfl⟩
 have hmin:min (s.size:Int) 4=(m:Int):=dS
 have hle:(m:Int)<=(s.size:Int):=dS
 have hm0:(0:Int)<=(m:Int):=dS
 have hF:=ada s m hm;have hz:(s.extract 0 m).size=m:=Qv
 obtain⟨F,aa⟩:=eu (s.extract 0 m);rw[aa]at hF hz;rw[<-hF];obtain⟨cap,w1,hcv,hrow,hb⟩:=Af F w pg;have hN:=Ie F F.size w.heap.size 0 cap w1 rfl (hT.below hb) (λj hj=>by rw[jY];exact hrow.cell j hj);obtain⟨r,hr⟩:=eu ((nx F 0).1);obtain⟨k,hk⟩:=eu ((nx F 0).2);rw[hr,hk]at hN;rw[hr];obtain⟨HN,HB⟩:=fw hN hb;clear hF hz hrow hb hN hr hk hT hm
 go_enter func91,ntmps91
 go_wp2_with fail
 refine HN.out.mono ?_;rintro e w2 ⟨rfl,hb2⟩;go_wp2_with fail
 go_ret;exact⟨rfl,HB.out.trans (hb2.mono HB.out.size)⟩
end
section
open Go.RowKit
open Sg
theorem yL(s:ByteArray)(w:World)(hs:s.size<=100000):
 Calls prog 129 #[.string s,.string ⟨#[32,9]⟩] w λe w'=>∃t:ByteArray,e=.returned (.string t)/\t.size=Sc.trim (Sc.eH s)/\Below w.heap.size w w':=by
 have h:=Any.strings_TrimRight_laid (L:=afK) dV s ⟨#[32,9]⟩ w dS dU (ascii_of_all dU);refine O9 h ?_;rintro e w' ⟨rfl,hb⟩;refine⟨_,rfl,?_,hb⟩;rw[size_at];exact Sc.abU _
def plN(op:Bool)(s:ByteArray):Nat:=(nx s 0).2+Sc.yx op (s.get! ((nx s 0).2-1)).toNat ((Sc.eH s).drop (nx s 0).2)
theorem ajJ(op:Bool)(s:ByteArray):Sc.uS op (Sc.eH s)=Sc.trim ((Sc.eH s).take (plN op s)):=by
 have h:=Sc.zG s 0;rw[lM]at h;rw[Sc.BF,<-h,Sc.jw];rfl
def At(op:Bool)(s:ByteArray)(N p:Nat):Prop:=p=0\/(0<p/\N=p+Sc.yx op (s.get! (p-1)).toNat ((Sc.eH s).drop p))
theorem ak6(op:Bool)(s:ByteArray)(p:Nat)(h:p<s.size)(hA:At op s (plN op s) p)(hs:0<p->Sc.stop op (Sc.blk (s.get! (p-1)).toNat) ((Sc.eH s).drop p)=false):At op s (plN op s) (p+(nx s p).2):=by
 have hk:=Bd s p h;rcases hA with rfl|⟨h1,h2⟩
 ·right;rw[jY];exact⟨dS,rfl⟩
 ·right;refine⟨dS,?_⟩;rw[h2,Sc.abS _ _ _ (hs h1),<-Sc.zG,Sc.uA,nP,show p+((nx s p).2-1)=p+(nx s p).2-1 from dS,aeB]
theorem agh(op:Bool)(s:ByteArray)(p:Nat)(hp:0<p)(hA:At op s (plN op s) p)(hs:Sc.stop op (Sc.blk (s.get! (p-1)).toNat) ((Sc.eH s).drop p)=true):plN op s=p:=by
 rcases hA with rfl|⟨h1,h2⟩
 ·omega
 ·rw[Sc.Fs _ _ _ hs]at h2;exact h2
theorem at_end(op:Bool)(s:ByteArray)(h0:0<s.size)(hA:At op s (plN op s) s.size):plN op s=s.size:=by
 rcases hA with h|⟨h1,h2⟩
 ·omega
 ·rw[Sc.drop_nil s s.size (eO _),Sc.Fs _ _ _ rfl]at h2;exact h2
theorem Np(s:ByteArray)(p:Nat):Sc.eH (s.extract p s.size)=(Sc.eH s).drop p:=Sc.lL s p
structure ak7(op:Bool)(s:ByteArray)(p R:Nat):Prop where
 bad:R≠65533->Sc.bad ((Sc.eH s).drop p)=false
 high:R=65533->128<=(s.get! p).toNat
 colon:R=58↔(s.get! p).toNat=58
 hash:R=35↔(s.get! p).toNat=35
theorem tests(op:Bool)(s:ByteArray)(p:Nat)(h:p<s.size):ak7 op s p (Utf8.decode s p).1:=by
 refine⟨λhR=>?_,λhR=>?_,wJ s p 58 h dU,wJ s p 35 h dU⟩
 ·rw[Sc.aaX,Ei s p h,dW (λx=>hR x.1)];exact ic l6
 ·rcases mD (s.get! p).toNat 128 with hl|hl
  ·have:=(wJ s p (s.get! p).toNat h hl).2 rfl;omega
  ·exact hl
theorem Dy{a b c d e f g:Bool}(h1:a=false)(h2:b=false\/c=false)(h3:d=false\/e=false)(h4:f=false\/g=false):(a||(b&&c)||(d&&e)||(f&&g))=false:=by
 subst h1;rcases h2 with rfl|rfl<;>rcases h3 with rfl|rfl<;>rcases h4 with rfl|rfl<;>simp
theorem amc{a b c d e f g:Bool}(h:a=true):(a||(b&&c)||(d&&e)||(f&&g))=true:=by subst h;simp
theorem amd{a b c d e f g:Bool}(h:b=true)(h2:c=true):(a||(b&&c)||(d&&e)||(f&&g))=true:=by subst h;subst h2;simp
theorem ame{a b c d e f g:Bool}(h:d=true)(h2:e=true):(a||(b&&c)||(d&&e)||(f&&g))=true:=by subst h;subst h2;simp
theorem amf{a b c d e f g:Bool}(h:f=true)(h2:g=true):(a||(b&&c)||(d&&e)||(f&&g))=true:=by subst h;subst h2;simp
theorem adb(c:Nat)(h:128<=c):Sc.Mb c=false:=by simp[Sc.Mb];omega
theorem ajK(b op:Nat)(s:ByteArray)(w:World)(hs:s.size<=100000)(h0:0<s.size)(hT:oZ w)(c5:w.cell? ⟨b,5,none⟩=some (.int .i64 op))
 (n1:Sc.bad (Sc.eH s)=false) (n2:¬((s.get! 0).toNat=58/\Sc.key (decide (0<op)) ((Sc.eH s).drop 1)=true)) (n3:0<op->Sc.Mb (s.get! 0).toNat=false):
 Calls prog 92 #[.pointer (some ⟨b,0,none⟩),.string s] w λe w'=>e=.returned (.int .i64 (Sc.uS (decide (0<op)) (Sc.eH s)))/\Below w.heap.size w w':=by
 rw[ajJ];have HT:=dY (λW (hb:Below w.heap.size w W)=>hT.below hb);have af:=dY (λW (hb:Below w.heap.size w W)=>eB hb c5);have rR:=dY (λp W (hb:Below w.heap.size w W)(hp:p<s.size)=>akC (s.extract p s.size) W uQ uQ (hT.below hb));have aF:=dY (λp W (hb:Below w.heap.size w W)=>Nh b op (s.extract p s.size) W (by unfold maxLen;rw[xw];omega) (eB hb c5));have aG:=dY (λp h hA hst=>ak6 (decide (0<op)) s p h hA hst);have ag:=dY (λp hp hA hst=>agh (decide (0<op)) s p hp hA hst);have aB:=dY (λhA=>at_end (decide (0<op)) s h0 hA);have PD:=dY (λN W (hN:N<=s.size)=>yL (s.extract 0 N) W uQ);have aH:=dY (λW=>yL s W hs);obtain⟨aL,aM,aN⟩:=je n1 n2 n3;have aO:=dY (λpb p hp=>Sc.afa (decide (0<op)) pb s p hp);have aP:=dY (λp hp=>tests (decide (0<op)) s p hp);obtain⟨N,hN⟩:=eu (plN (decide (0<op)) s);have ak:Hid (op=0\/0<op):=dY dS;rw[hN]at aG ag aB⊢;clear hN hT c5 n1 n2 n3
 go_enter func92,ntmps92
 go_wp2_with fail
 go_step3
 go_wp2_with fail
 go_step3
 go_wp2_with fail
 go_loopg [5] s.size (λgf z wr=>∃(p:Nat),z=.int .i64 s.size/\wr.heap[w.heap.size]?=some (.stringIter s p)/\Below w.heap.size w wr/\p<=s.size/\s.size<=p+gf/\Hid (At (decide (0<op)) s N p))
 case atStart=>exact⟨0,rfl,AL w s 0,(fD _ w).alloc (eO _) _,fP _,dS,dY (.inl rfl)⟩
 case round=>
  obtain⟨p,rfl,hit,hb,hps,hf,HA⟩:=hrel;by_cases hlt:p<s.size
  ·obtain⟨g',rfl⟩:∃g',gk=g'+1:=⟨gk-1,dS⟩
   have hnx:∀ty,(Instr.next (.pointer (some ⟨w.heap.size,0,none⟩)) true ty).run prog wr=_:=λty=>Gs wr w.heap.size s p ty hit hlt
   have hwd:=Bd s p hlt;have hwn:=Md s p hlt;have hts:=aP.out p hlt;have hon:=aG.out p hlt HA.out;rw[<-rq s p hlt]at hnx;obtain⟨K,hK⟩:=eu ((nx s p).2);obtain⟨R,hR⟩:=eu ((Utf8.decode s p).1);rw[hK,hR]at hnx;rw[hK]at hwd hwn hon;rw[hR]at hts;have hit2:=yI wr w.heap.size s p (p+K) hit;have hb2:=tJ hb (k:=w.heap.size) (eO _) s (p+K);obtain⟨W,hWd⟩:=eu (wr.iterAt w.heap.size s (p+K));rw[hWd]at hnx hit2 hb2;have hst:=λpb=>aO.out pb p hlt
   have hge:=Sc.l7 s p hlt;have aU:(p:Int)<(s.size:Int):=dS
   have aV:(p:Int)<=(s.size:Int):=dS
   have hp1:((p:Int)+1)<=(s.size:Int):=dS
   have hp0:(0:Int)<=(p:Int):=dS
   obtain⟨ah,HST,ai,ae,HGE⟩:=vV hon hst hts hit2 hge;have hbad:=rR.out p W hb2 hlt;rw[Np]at hbad;have hkey:=fun(W':World)(hb':Below w.heap.size w W')=>aF.out (p+1) W' hb'
   rw[Np]at hkey;have aC:=λW'=>ag9 (s[p]'hlt).toNat W'
   obtain⟨av,aQ,HFL⟩:=je hbad hkey aC;clear hit hb hK hR hWd hon hst hts hit2 hge hbad hkey aC;by_cases k1:R=65533
   ·subst k1;have hhi:=ai.out.high rfl;have aD:Sc.Mb (s[p]'hlt).toNat=false:=by rw[HGE.out];exact adb _ hhi
    have q58:((s.get! p).toNat==58)=false:=jE.2 dS;have q35:((s.get! p).toNat==35)=false:=jE.2 dS;cases hbd:Sc.bad ((Sc.eH s).drop p)with
    |true=>
     rw[hbd]at av;have aa:0<p:=by
      rcases rP p with h|h
      ·subst h;rw[lM,aL.out]at hbd;cases hbd
      ·exact h
     have HNP:=dY (ag.out p aa HA.out (by rw[HST.out];exact amc hbd));go_wp2_with fail
     refine(av.out).mono ?_;rintro e w1 ⟨rfl,hc1⟩;have hb3:=hb2.trans (hc1.mono hb2.size);have Cf:=dY ((hc1.block _ (Dl.1 ae.out).1).trans ae.out);clear hc1;go_wp2_with fail
     refine(PD.out p _ hps).mono ?_;rintro e w9 ⟨t,rfl,htz,GJ⟩;have HTZ:=dY htz;clear htz;go_wp2_with fail
     try rw[Pb]
     go_ret;refine⟨?_,hb3.trans (GJ.mono hb3.size)⟩;rw[HNP.out,<-Sc.BA,<-HTZ.out];rfl
    |false=>
     rw[hbd]at av;rcases ak.out with ho|ho
     ·subst ho;have Ga:=dY (ah.out (λaa=>YN));go_wp2_with fail
      refine av.out.mono ?_;rintro e w1 ⟨rfl,hc1⟩;have hb3:=hb2.trans (hc1.mono hb2.size);have Cf:=dY ((hc1.block _ (Dl.1 ae.out).1).trans ae.out);have c5:=af.out _ hb3;clear hc1;go_wp2_with fail
      exact aay
     ·have aA:(0:Int)<(op:Int):=by omega
      have HF:=dY (λW'=>by have:=HFL.out W';rw[aD]at this;exact this);have Ga:=dY (ah.out (λaa=>by rw[HST.out];exact Dy hbd (.inl q58) (.inl q35) (.inr (by rw[<-HGE.out];exact aD))));go_wp2_with fail
      refine av.out.mono ?_;rintro e w1 ⟨rfl,hc1⟩;have hb3:=hb2.trans (hc1.mono hb2.size);have Cf:=dY ((hc1.block _ (Dl.1 ae.out).1).trans ae.out);have c5:=af.out _ hb3;clear hc1;go_wp2_with fail
      refine(HF.out _).mono ?_;rintro e w2 ⟨rfl,rfl⟩;go_wp2_with fail
      exact aay
   have hbd:=ai.out.bad k1;have aK:((R:Int)==65533)=false:=jE.2 dS;by_cases k2:R=58
   ·subst k2;have hch:=ai.out.colon.1 rfl;have q35:((s.get! p).toNat==35)=false:=jE.2 dS;have ax:=dY (aQ.out W hb2);cases aj:Sc.key (decide (0<op)) ((Sc.eH s).drop (p+1))with
    |true=>
     rw[aj]at ax;have aa:0<p:=by
      rcases rP p with h|h
      ·subst h;exact absurd ⟨hch,aj⟩ aM.out
      ·exact h
     have HNP:=dY (ag.out p aa HA.out (by rw[HST.out];exact amd (uJ.2 hch) aj));go_wp2_with fail
     refine(ax.out).mono ?_;rintro e w1 ⟨rfl,rfl⟩;go_wp2_with fail
     exact QJ
    |false=>
     rw[aj]at ax;rcases ak.out with ho|ho
     ·subst ho;have Cf:=ae;have c5:=af.out _ hb2;have Ga:=dY (ah.out (λaa=>by rw[HST.out];exact Dy hbd (.inr aj) (.inl q35) (.inl rfl)));go_wp2_with fail
      refine(ax.out).mono ?_;rintro e w1 ⟨rfl,rfl⟩;go_wp2_with fail
      exact Bb
     ·have aA:(0:Int)<(op:Int):=by omega
      have hod:decide (0<op)=true:=kD ho;have hfl:Sc.Mb (s[p]'hlt).toNat=false:=by rw[HGE.out,hch];rfl
      have HF:=dY (λW'=>D8);have Cf:=ae;have c5:=af.out _ hb2;have Ga:=dY (ah.out (λaa=>by rw[HST.out];exact Dy hbd (.inr aj) (.inl q35) (.inr JC)));go_wp2_with fail
      refine(ax.out).mono ?_;rintro e w1 ⟨rfl,rfl⟩;go_wp2_with fail
      exact Q3
   have aW:((R:Int)==58)=false:=jE.2 dS;have q58:((s.get! p).toNat==58)=false:=jE.2 (λh=>k2 (ai.out.colon.2 h));by_cases k3:R=35
   ·subst k3;have hch:=ai.out.hash.1 rfl;have hfl:Sc.Mb (s[p]'hlt).toNat=false:=by rw[HGE.out,hch];rfl
    by_cases ay:0<p
    ·have aI:(0:Int)<(p:Int):=by omega
     have hpr:p-1<s.size:=dS
     have aR:(p:Int)-1=((p-1:Nat):Int):=dS
     have aS:(0:Int)<=((p-1:Nat):Int):=dS
     have aT:((p-1:Nat):Int)<(s.size:Int):=dS
     have az:=dY (λW'=>Kc (s[p-1]'hpr).toNat W');have aJ:=dY (Sc.l7 s (p-1) hpr);cases hbk:Sc.blk (s[p-1]'hpr).toNat with
     |true=>
      rw[hbk]at az;have aa:=ay;rw[aJ.out]at hbk;have HNP:=dY (ag.out p aa HA.out (by rw[HST.out];exact ame (uJ.2 hch) hbk));go_wp2_with fail
      refine(az.out _).mono ?_;rintro e w1 ⟨rfl,rfl⟩;go_wp2_with fail
      exact QJ
     |false=>
      rw[hbk]at az;rw[aJ.out]at hbk;rcases ak.out with ho|ho
      ·subst ho;have Cf:=ae;have c5:=af.out _ hb2;have Ga:=dY (ah.out (λaa=>by rw[HST.out];exact Dy hbd (.inl q58) (.inr hbk) (.inl rfl)));go_wp2_with fail
       refine(az.out _).mono ?_;rintro e w1 ⟨rfl,rfl⟩;go_wp2_with fail
       exact Bb
      ·have aA:(0:Int)<(op:Int):=by omega
       have hod:decide (0<op)=true:=kD ho;have hfl:=hfl;have HF:=dY (λW'=>D8);have Cf:=ae;have c5:=af.out _ hb2;have Ga:=dY (ah.out (λaa=>by rw[HST.out];exact Dy hbd (.inl q58) (.inr hbk) (.inr JC)));go_wp2_with fail
       refine(az.out _).mono ?_;rintro e w1 ⟨rfl,rfl⟩;go_wp2_with fail
       exact Q3
    ·have aI:¬((0:Int)<(p:Int)):=by omega
     rcases ak.out with ho|ho
     ·subst ho;have Cf:=ae;have c5:=af.out _ hb2;have Ga:=dY (ah.out (λaa=>absurd aa ay));go_wp2_with fail
      exact Bb
     ·have aA:(0:Int)<(op:Int):=by omega
      have Cf:=ae;have c5:=af.out _ hb2;have HF:=dY (λW'=>D8);have Ga:=dY (ah.out (λaa=>absurd aa ay));go_wp2_with fail
      exact Q3
   have g35:((R:Int)==35)=false:=jE.2 dS;have q35:((s.get! p).toNat==35)=false:=jE.2 (λh=>k3 (ai.out.hash.2 h));rcases ak.out with ho|ho
   ·subst ho;have Cf:=ae;have c5:=af.out _ hb2;have Ga:=dY (ah.out (λaa=>YN));go_wp2_with fail
    exact Bb
   ·have aA:(0:Int)<(op:Int):=by omega
    have hod:decide (0<op)=true:=kD ho;cases hfl:Sc.Mb (s[p]'hlt).toNat with
    |false=>
     have HF:=dY (λW'=>D8);have Cf:=ae;have c5:=af.out _ hb2;have Ga:=dY (ah.out (λaa=>by rw[HST.out];exact Dy hbd (.inl q58) (.inl q35) (.inr JC)));go_wp2_with fail
     refine(HF.out _).mono ?_;rintro e w1 ⟨rfl,rfl⟩;go_wp2_with fail
     exact Bb
    |true=>
     have aa:0<p:=by
      rcases rP p with h|h
      ·subst h;rw[HGE.out,aN.out ho]at hfl;cases hfl
      ·exact h
     have HF:=dY (λW'=>D8);have c5:=af.out _ hb2;have HNP:=dY (ag.out p aa HA.out (by rw[HST.out];exact amf hod JC));go_wp2_with fail
     refine(HF.out _).mono ?_;rintro e w1 ⟨rfl,rfl⟩;go_wp2_with fail
     exact QJ
  ·have hnx:∀ty,(Instr.next (.pointer (some ⟨w.heap.size,0,none⟩)) true ty).run prog wr=_:=λty=>Dv wr w.heap.size s p ty hit hlt
   obtain rfl:p=s.size:=dS
   have HNP:=dY (aB.out HA.out);clear hlt hps hf hit;go_wp2_with fail
   with_reducible refine(aH.out _).mono ?_
   rintro e w9 ⟨t,rfl,htz,GJ⟩;have HTZ:=dY htz;clear htz;go_wp2_with fail
   try rw[Pb]
   go_ret;refine⟨?_,hb.trans (GJ.mono hb.size)⟩;rw[HNP.out,zw (by rw[Sc.fM];exact eO _),<-HTZ.out];rfl
end
section
open Go.RowKit
open Sg
open Sq
theorem Er(k:Nat)(h:0<k):kI k=(k:Int):=by unfold kI;rw[dW dS]
theorem Da(k:Nat):(kI k !=-1)=decide (0<k):=by
 by_cases h:0<k
 ·rw[kD h,Er k h];exact Vg.2 dS
 ·obtain rfl:k=0:=by omega
  rfl
def pr(p:Nat×Nat):Value:=.tuple #[.int .i64 p.1,.int .i64 p.2]
theorem agi(op:Nat)(dash blank f:Bool)(l:List Nat)(m rs rb n:Nat)(h:Bool)(wd:Nat×Nat)(hm:Sc.mark l=m)(hrs:Sc.run Sc.Bu l=rs)(hrb:Sc.run Sc.blk l=rb)(hh:Sc.hsh l=h)(hn:l.length=n)(hw:Sc.word op dash l=wd):
 Sc.next op dash blank f l=if f=true/\0<m then(m,3)else if f=true/\0<rs then(2,rs)else if 0<rb then(3,rb)else if h=true/\(f=true\/blank=true)then(4,n)else wd:=by
 subst hm hrs hrb hh hn hw;rfl
theorem agj(op:Nat)(dash:Bool)(l:List Nat)(sg hd pl:Nat)(nm qt:Nat×Nat)(bd:Bool)(h1:Sc.sign op dash l=sg)(h2:Sc.named l=nm)(h3:Sc.quoted l=qt)(h4:Sc.lT l=hd)(h5:Sc.bad l=bd)(h6:Sc.uS (decide (0<op)) l=pl):
 Sc.word op dash l=if 0<sg then(sg,1)else if 0<nm.1 then nm else if 0<qt.1 then qt else if op=0/\0<hd then(18,hd)else if bd=true then(22,1)else(15,pl):=by
 subst h1 h2 h3 h4 h5 h6;rfl
theorem Ik(op:Nat)(dash:Bool)(s:ByteArray)(h:0<s.size)(h0:Sc.sign op dash (Sc.eH s)=0):(¬((s.get! 0).toNat=58/\Sc.key (decide (0<op)) ((Sc.eH s).drop 1)=true))/\(0<op->Sc.Mb (s.get! 0).toNat=false):=by
 rw[<-Sc.l7 s 0 h];obtain⟨c,hc⟩:=eu ((s[0]'h).toNat);rw[UE op dash s h c hc]at h0;rw[hc,<-Sc.lL];constructor
 ·rintro⟨rfl,hk⟩;rw[hk]at h0;simp at h0
 ·intro ho;rw[Lu];intro hf;simp[Sc.Mb]at hf;rcases hf with((((rfl|rfl)|rfl)|rfl)|rfl)
  ·simp at h0;omega
  ·simp at h0
  ·simp at h0
  ·simp at h0
  ·simp at h0
theorem ak8(b:Nat)(s:ByteArray)(v:Value)(at' row en op:Nat)(base least:Int)(dash blank f:Bool)(l:List Tk)(w:World)(hM:Mem w b s v at' row en op base least dash)(hO:Row w b v l)(hT:oZ w)(hs:s.size<=100000)(hl:l.length<=100000)(h1:row<=at')(h2:at'<en)(h3:en<=s.size)
 (hf:f=decide (at'=row)) (hbl:f=false->∃l0 x,l=l0++[x]/\blank=(x.1==2||x.1==3)):
 Calls prog 56 #[.pointer (some ⟨b,0,none⟩)] w λe w'=>e=.returned (pr (Sc.next op dash blank f (Sc.eH (s.extract at' en))))/\Below w.heap.size w w':=by
 obtain⟨r,hr⟩:=eu (s.extract at' en);have hz:r.size=en-at':=by rw[<-hr,xw];omega
 have hz0:0<r.size:=dS
 have hz1:r.size<=100000:=dS
 have aj:r.size<=maxLen:=pg
 rw[hr];have aQ:(((at':Int))==((row:Int)))=f:=by rw[hf,qb];simp;omega
 have hln:=Sc.fM r;have ak:=Ks r hz0;obtain⟨m,hm⟩:=eu (Sc.mark (Sc.eH r));obtain⟨rs,hrs⟩:=eu (Sc.run Sc.Bu (Sc.eH r));obtain⟨rb,hrb⟩:=eu (Sc.run Sc.blk (Sc.eH r));obtain⟨h,hh⟩:=eu (Sc.hsh (Sc.eH r));obtain⟨wd,hwd⟩:=eu (Sc.word op dash (Sc.eH r));obtain⟨sg,hsg⟩:=eu (Sc.sign op dash (Sc.eH r));obtain⟨nm,hnm⟩:=eu (Sc.named (Sc.eH r));obtain⟨qt,av⟩:=eu (Sc.quoted (Sc.eH r));obtain⟨hd,hhd⟩:=eu (Sc.lT (Sc.eH r));obtain⟨bd,hbd⟩:=eu (Sc.bad (Sc.eH r));obtain⟨pl,hpl⟩:=eu (Sc.uS (decide (0<op)) (Sc.eH r));have HN:=dY (agi op dash blank f (Sc.eH r) m rs rb r.size h wd hm hrs hrb hh hln hwd);have HW:=dY (hwd.symm.trans (agj op dash (Sc.eH r) sg hd pl nm qt bd hsg hnm av hhd hbd hpl));obtain⟨N,hN⟩:=eu (Sc.next op dash blank f (Sc.eH r));rw[hN]at HN⊢;rw[hh]at ak;have g35:(((r[0]'hz0).toNat:Int)==35)=h:=by rw[ak,qb];simp;omega
 have ax:=dY (λW=>by have:=ahn r W aj;rw[hm]at this;exact this);have ay:=dY (λW=>by have:=MF r W aj;rw[hrs]at this;exact this);have az:=dY (λW=>by have:=ui r W aj;rw[hrb]at this;exact this);have HM:=dY (λW (hb:Below w.heap.size w W)=>hM.below hb);have aR:=dY (λW (hb:Below w.heap.size w W)=>Reads.fo (eZ hO hb));have aS:=dY (λW (hb:Below w.heap.size w W)=>hT.below hb);have aJ:=dY (λW (hb:Below w.heap.size w W)=>by have:=akZ b op dash r W hz1 hz0 (hM.below hb).c.2.2.2.2.2.1 (hM.below hb).c.2.2.2.2.2.2.2.2;rw[hsg]at this;exact this);have aK:=dY (λW=>by have:=ajm r W hz1 hz0;rw[hnm]at this;exact this);have aL:=dY (λW=>by have:=af5 r W hz1 hz0;rw[av]at this;exact this);have aM:=dY (λW=>by have:=akY r W hz1 hz0;rw[hhd]at this;exact this);have aN:=dY (λW (hb:Below w.heap.size w W)=>by have:=akC r W hz1 hz0 (hT.below hb);rw[hbd]at this;exact this);have aO:=dY (λW (hb:Below w.heap.size w W)(q1:bd=false)(q2:sg=0)=>by have:=ajK b op r W hz1 hz0 (hT.below hb) (hM.below hb).c.2.2.2.2.2.1 (by rw[hbd];exact q1) (Ik op dash r hz0 (by rw[hsg];exact q2)).1 (Ik op dash r hz0 (by rw[hsg];exact q2)).2;rw[hpl]at this;exact this);have aA:∀W,Below w.heap.size w W->f=false->Calls prog 86 #[.pointer (some ⟨b,0,none⟩)] W λe w'=>e=.returned (.bool blank)/\Below W.heap.size W w':=by
  intro W hb q;obtain⟨l0,x,rfl,hx⟩:=hbl q;have:=acU b v l0 x W hl (hM.below hb).c.2.1 (Reads.fo (eZ hO hb));rw[<-hx]at this;exact this
 have I9:=dY aA;clear aA;obtain⟨c0,c1,c2,c3,c4,c5,c6,c7,c8⟩:=hM.c;have i1:(at':Int)<=(en:Int):=dS
 have i2:(en:Int)<=(s.size:Int):=dS
 have i3:(0:Int)<=(at':Int):=dS
 have hz2:(0:Int)<(r.size:Int):=dS
 clear hz hM hO hT hm hrs hrb hh hwd hsg hnm av hhd hbd hpl hN ak hf hbl hln c1 c5 c6 c7 c8
 go_enter func56,ntmps56
 go_wp2_with fail
 go_big_quiet (fail)
 have hb1:=Gy (fD w.heap.size w) nq;obtain⟨W1,hW1⟩:=eu (w.drewN nq);rw[hW1]at hb1⊢;have c2:=(HM.out W1 hb1).c.2.2.1;have c3:=(HM.out W1 hb1).c.2.2.2.1;clear hW1 c0 c4;go_wp2_with fail
 go_big_quiet (fail)
 have hb2:=Gy hb1 nq;obtain⟨W2,hW2⟩:=eu (W1.drewN nq);rw[hW2]at hb2⊢;clear hW2 c2 c3 hb1 hr i1 i2 i3;go_wp2_with fail
 refine(ax.out _).mono ?_;rintro e w1 ⟨rfl,rfl⟩;have hk1:=Da m;go_upto_region 4 with fail
 go_cut [34] (λq wx=>q=.bool (f&&decide (0<m))/\wx=W2)
 case first=>
  cases f with
  |true=>
   exact Bc
  |false=>
   exact Bc
 case rest=>
  obtain⟨rfl,rfl⟩:=hcut;clear hk1;cases q1:(f&&decide (0<m))with
  |true=>
   have hq:f=true/\0<m:=by simpa using q1
   have HE:=dY (show N=(m,3)from by rw[HN.out,dX hq]);have hkp:=Er m hq.2;go_wp2_with fail
   go_ret2;exact⟨by rw[HE.out,hkp];rfl,hb2⟩
  |false=>
   have af:=dY (show¬(f=true/\0<m)from by simpa using q1);clear q1;go_wp2_with fail
   refine(ay.out _).mono ?_;rintro e w2 ⟨rfl,hc⟩;have hb3:=hb2.trans (hc.mono hb2.size);clear hc;have hr1:decide ((0:Int)<(rs:Int))=decide (0<rs):=by rw[qb];simp
   go_upto_region 7 with fail
   go_cut [42] (λq wx=>q=.bool (f&&decide (0<rs))/\wx=w2)
   case first=>
    by_cases aB:0<rs
    ·have hI:(0:Int)<(rs:Int):=by omega
     cases f with
     |true=>
      go_wp2_with fail
      go_meet
      exact⟨by simp[aB],rfl⟩
     |false=>
      exact Bc
    ·obtain rfl:rs=0:=by omega
     cases f with
     |true=>
      exact Bc
     |false=>
      exact Bc
   case rest=>
    obtain⟨rfl,rfl⟩:=hcut;clear hr1;cases q2:(f&&decide (0<rs))with
    |true=>
     have HE:=dY (show N=(2,rs)from by rw[HN.out,dW af.out,dX (by simpa using q2)]);go_wp2_with fail
     go_ret2;exact⟨by rw[HE.out];rfl,hb3⟩
    |false=>
     have vP:=dY (show¬(f=true/\0<rs)from by simpa using q2);clear q2;go_wp2_with fail
     refine(az.out _).mono ?_;rintro e w4 ⟨rfl,hc⟩;have hb4:=hb3.trans (hc.mono hb3.size);clear hc;by_cases aC:0<rb
     ·have hI:(0:Int)<(rb:Int):=by omega
      have HE:=dY (show N=(3,rb)from by rw[HN.out,dW af.out,dW vP.out,dX aC]);go_wp2_with fail
      go_ret2;exact⟨by rw[HE.out];rfl,hb4⟩
     ·obtain rfl:rb=0:=by omega
      go_upto_region 12 with fail
      go_cut [58] (λq wx=>q=.bool (h&&(f||blank))/\Below w.heap.size w wx)
      case first=>
       cases h with
       |true=>
        cases f with
        |true=>
         go_wp2_with fail
         go_meet
         exact⟨rfl,hb4⟩
        |false=>
         have HB2:=dY (I9.out _ hb4 rfl);clear I9;go_wp2_with fail
         refine HB2.out.mono ?_;rintro e w5 ⟨rfl,hc⟩;have hb5:=hb4.trans (hc.mono hb4.size);clear hc;go_wp2_with fail
         go_meet
         exact⟨rfl,hb5⟩
       |false=>
        go_wp2_with fail
        go_meet
        exact⟨rfl,hb4⟩
      case rest=>
       obtain⟨rfl,hb5⟩:=hcut;clear hb4 hb3 hb2;cases q3:(h&&(f||blank))with
       |true=>
        have HE:=dY (show N=(4,r.size)from by rw[HN.out,dW af.out,dW vP.out,dW dS,dX (by simpa using q3)]);go_wp2_with fail
        go_ret2;exact⟨by rw[HE.out];rfl,hb5⟩
       |false=>
        have HE:=dY (show N=wd from by rw[HN.out,dW af.out,dW vP.out,dW dS,dW (by simpa using q3)]);clear q3 af vP HN ax ay az I9;go_wp2_with fail
        refine(aJ.out _ hb5).mono ?_;rintro e w6 ⟨rfl,rfl⟩;have hk5:=Da sg;by_cases ag:0<sg
        ·rw[kD ag]at hk5;have HE2:=dY (show N=(sg,1)from by rw[HE.out,HW.out,dX ag]);have hkp:=Er sg ag;go_wp2_with fail
         go_ret2;exact⟨by rw[HE2.out];simp only[pr];first|rfl|(rw[<-hkp];rfl),hb5⟩
        ·obtain rfl:sg=0:=by omega
         clear hk5;go_wp2_with fail
         refine(aK.out _).mono ?_;rintro e w7 ⟨rfl,hc⟩;have hb6:=hb5.trans (hc.mono hb5.size);clear hc;have aD:=Da nm.1;by_cases aa:0<nm.1
         ·rw[kD aa]at aD;have HE2:=dY (show N=nm from by rw[HE.out,HW.out,dW dS,dX aa]);have hkp:=Er nm.1 aa;go_wp2_with fail
          exact aaB
         ·rw[ic aa]at aD;clear hb5;go_wp2_with fail
          refine(aL.out _).mono ?_;rintro e w8 ⟨rfl,rfl⟩;have aF:=Da qt.1;by_cases ae:0<qt.1
          ·rw[kD ae]at aF;have HE2:=dY (show N=qt from by rw[HE.out,HW.out,dW dS,dW aa,dX ae]);have hkp:=Er qt.1 ae;go_wp2_with fail
           exact aaB
          ·rw[ic ae]at aF;go_wp2_with fail
           refine(aM.out _).mono ?_;rintro e w9 ⟨rfl,hc⟩;have ah:=hb6.trans (hc.mono hb6.size);clear hc hb6;have c5:=(HM.out _ ah).c.2.2.2.2.2.1;go_upto_region 24 with fail
           go_cut [95] (λq wx=>q=.bool (decide (op=0/\0<hd))/\wx=w9)
           case first=>
            by_cases ho:op=0
            ·subst ho;by_cases hh0:0<hd
             ·have hI:(0:Int)<(hd:Int):=by omega
              go_wp2_with fail
              go_meet
              exact⟨by simp[hh0],rfl⟩
             ·obtain rfl:hd=0:=by omega
              exact Bc
            ·have ho2:((op:Int)==0)=false:=jE.2 dS;go_wp2_with fail
             go_meet
             exact⟨by simp[ho],rfl⟩
           case rest=>
            obtain⟨rfl,rfl⟩:=hcut;clear c5;by_cases q4:op=0/\0<hd
            ·have q5:=kD q4;have HE2:=dY (show N=(18,hd)from by rw[HE.out,HW.out,dW dS,dW aa,dW ae,dX q4]);rw[q5];clear q4;go_wp2_with fail
             go_ret2;exact⟨D7,ah⟩
            ·have q5:=ic q4;rw[q5];obtain⟨aG,aH,aI⟩:=je q4 aa ae;clear q4 aa ae;go_wp2_with fail
             refine(aN.out _ ah).mono ?_;rintro e wa ⟨rfl,hc⟩;have ai:=ah.trans (hc.mono ah.size);clear hc;cases hbv:bd with
             |true=>
              have HE2:=dY (show N=(22,1)from by rw[HE.out,HW.out,dW dS,dW aH.out,dW aI.out,dW aG.out,dX hbv]);go_wp2_with fail
              go_ret2;exact⟨D7,ai⟩
             |false=>
              have HE2:=dY (show N=(15,pl)from by rw[HE.out,HW.out,dW dS,dW aH.out,dW aI.out,dW aG.out,dW (by rw[hbv];simp)]);have aP:=dY (aO.out _ ai hbv trivial);go_wp2_with fail
              refine aP.out.mono ?_;rintro e wb ⟨rfl,hc⟩;have GJ:=ai.trans (hc.mono ai.size);clear hc;go_wp2_with fail
              go_ret2;exact⟨D7,GJ⟩
end
section
open Go.RowKit
open Sg
open Sq
theorem oZ.low{w w':World}{b:Nat}(h:oZ w)(hb:Below b w w')(h1:0<b)(h2:1<b):oZ w':=by
 refine⟨λc hc=>?_,λi hi=>⟨?_,?_⟩⟩
 ·rw[hb.cell (p:=⟨0,c,none⟩) h1];exact h.1 c hc
 ·rw[hb.cell (p:=⟨1,2*i,none⟩) h2];exact(h.2 i hi).1
 ·rw[hb.cell (p:=⟨1,2*i+1,none⟩) h2];exact(h.2 i hi).2
def Db(b:Nat)(s:ByteArray)(ag:List Tk)(p:Nat)(w w':World):Prop:=
 ∃(v':Value)(l':List Tk)(p' row' en' af:Nat)(base' aa:Int)(ae:Bool),Mem w' b s v' p' row' en' af base' aa ae/\Row w' b v' l'/\Sc.wu (Sc.eH s) ag l' af aa p'/\p<p'/\p'<=s.size/\Below b w w'
theorem ade(b:Nat)(s:ByteArray)(v:Value)(p aU en0 op:Nat)(base0 least:Int)(aR:Bool)(l aB:List Tk)(w:World)(hM:Mem w b s v p aU en0 op base0 least aR)(hO:Row w b v l)(hT:oZ w)(hg1:0<b)(hg2:1<b)(hs:s.size<=16384)(hp:p<s.size)(hG:Sc.wu (Sc.eH s) aB l op least p):
 Calls prog 32 #[.pointer (some ⟨b,0,none⟩)] w λe w'=>e=.returned (.tuple #[])/\Db b s aB p w w':=by
 obtain⟨c0,c1,c2,c3,c4,c5,c6,c7,c8⟩:=hM.c;have hln:=Sc.fM s;obtain⟨tx,htx⟩:=eu (s.extract p s.size);have hnt:Sc.eH tx=(Sc.eH s).drop p:=by rw[<-htx,Sc.lL]
 have hrs:=λW=>acQ tx W (by rw[<-htx,xw];omega)
 rw[hnt]at hrs;have aF:=Sc.zI ((Sc.eH s).drop p);rw[Sc.wP]at aF;obtain⟨rn,hrn⟩:=eu (Sc.jg ((Sc.eH s).drop p));rw[hrn]at hrs aF;obtain⟨E,hE⟩:=eu (p+rn);have e1:(p:Int)+(rn:Int)=(E:Int):=dS
 have w1:IntKind.i64.wrap (E:Int)=(E:Int):=sj _ dS;have i1:(p:Int)<=(s.size:Int):=dS
 have i0:(0:Int)<=(p:Int):=dS
 have aV:E<=s.size:=dS
 obtain⟨bH,HM,HO,HT,HG,aK⟩:=kG hrs hM hO hT hG hrn;obtain⟨HE,Df⟩:=fw hE hM.lt;clear hM hO hT hG hrs hrn hE hnt c1 c3 c4 c5 c6 c7 c8 aF
 go_enter func32,ntmps32
 go_wp2_with fail
 refine X7 (S:=λwx=>wx.cell? ⟨b,0,none⟩=some (.string s)/\wx.cell? ⟨b,2,none⟩=some (.int .i64 p)) dV (⟨c0,c2⟩) (λhH=>?_);refine iI 0 (.pointer (some ⟨b,0,none⟩)) hH ?_;refine iI 1 (.pointer (some ⟨b,0,none⟩)) hH ?_;refine iI 2 (.pointer (some ⟨b,0,none⟩)) hH ?_;refine iI 3 (.pointer (some ⟨b,0,none⟩)) hH ?_;refine iI 4 (.pointer (some ⟨b,2,none⟩)) hH ?_;refine uf 5 (.int .i64 p) (λW hW=>?_) hH ?_
 ·obtain⟨z0,z2⟩:=hW;go_simp
 refine iI 6 (.pointer (some ⟨b,0,none⟩)) hH ?_;refine iI 7 (.pointer (some ⟨b,0,none⟩)) hH ?_;refine iI 8 (.pointer (some ⟨b,2,none⟩)) hH ?_;refine uf 9 (.int .i64 p) (λW hW=>?_) hH ?_
 ·obtain⟨z0,z2⟩:=hW;go_simp
 refine iI 10 (.pointer (some ⟨b,0,none⟩)) hH ?_;refine iI 11 (.pointer (some ⟨b,0,none⟩)) hH ?_;refine iI 12 (.pointer (some ⟨b,0,none⟩)) hH ?_;refine uf 13 (.string s) (λW hW=>?_) hH ?_
 ·obtain⟨z0,z2⟩:=hW;go_simp
 refine iI 14 (.pointer (some ⟨b,0,none⟩)) hH ?_;refine iI 15 (.pointer (some ⟨b,0,none⟩)) hH ?_;refine iI 16 (.pointer (some ⟨b,2,none⟩)) hH ?_;refine uf 17 (.int .i64 p) (λW hW=>?_) hH ?_
 ·obtain⟨z0,z2⟩:=hW;go_simp
 refine iI 18 (.string tx) hH ?_;refine Cc 19 λK hK=>?_
 go_simp;refine(bH.out _).mono ?_;rintro e w2 ⟨rfl,hb2⟩;have M2:=HM.out.below ((fD w.heap.size w).drew.trans (hb2.mono (eO _)));have d0:=M2.c.1;have d2:=M2.c.2.2.1;have d3:=M2.c.2.2.2.1;have f3:=M2.f 3;have qx:=dY M2;clear M2;go_simp;refine hK.out _ _ (⟨d0,d2⟩) (λhH2=>?_);clear hK K;try simp only[Act.put,fG,fB,fC]
 refine iI 20 (.int .i64 E) hH2 ?_;refine iI 21 (.pointer (some ⟨b,0,none⟩)) hH2 ?_;refine iI 22 (.pointer (some ⟨b,3,none⟩)) hH2 ?_;refine Cc 23 λK hK=>?_
 go_simp;refine hK.out _ _ (⟨yX (o:=3) dU d0,yX (o:=3) dU d2⟩) (λhH2=>?_);clear hK K;try simp only[Act.put,fG,fB,fC]
 have M3:=qx.out.alZ p;have g4:=M3.f 4;have bI:=M3.c.2.2.2.2.1;have Lj:=dY M3;clear M3 d0 d2 d3 f3;refine iI 24 (.pointer (some ⟨b,0,none⟩)) hH2 ?_;refine iI 25 (.pointer (some ⟨b,4,none⟩)) hH2 ?_;refine Cc 26 λK hK=>?_
 go_simp;refine hK.out _ _ (⟨yX (o:=4) dU Lj.out.c.1,yX (o:=4) dU Lj.out.c.2.2.1⟩) (λhH2=>?_);clear hK K;try simp only[Act.put,fG,fB,fC]
 refine ain dV ?_ _;have hlow:Below b w w2:=((fD w.heap.size w).drew.trans (hb2.mono (eO _))).mono (pJ Df.out);have aG:=dY (Lj.out.al0 E);have aW:=dY (jH (jH (show Row w2 b v l from eZ HO.out ((fD w.heap.size w).drew.trans (hb2.mono (eO _)))) 3 (.int .i64 p)) 4 (.int .i64 E));have qQ:=dY (jI (jI hlow (eO b) 3 (.int .i64 p)) (eO b) 4 (.int .i64 E));clear hlow hb2 qx Lj HO HM hH hH2 c0 c2 g4 bI;generalize (w2.setCell ⟨b,3,none⟩ (.int .i64 p)).setCell ⟨b,4,none⟩ (.int .i64 E)=W4 at*;obtain⟨c0,c1,c2,c3,c4,c5,c6,c7,c8⟩:=aG.out.c;have f6:=aG.out.f 6;have f8:=aG.out.f 8;clear c0 c1 c2 c3 c4 c5 c7;go_wp2_with fail
 have aL:=dY ((aG.out.ail (-1)).Ya true);have aX:=dY (jH (jH aW.out 6 (.int .i64 (-1))) 8 (.bool true));have tY:=dY (jI (jI qQ.out (eO b) 6 (.int .i64 (-1))) (eO b) 8 (.bool true));clear aG aW qQ c6 c8 f6 f8;generalize (W4.setCell ⟨b,6,none⟩ (.int .i64 (-1))).setCell ⟨b,8,none⟩ (.bool true)=W5 at*;obtain⟨tb,htb⟩:=eu (s.extract E s.size);have hnb:Sc.eH tb=(Sc.eH s).drop E:=by rw[<-htb,Sc.lL]
 obtain⟨B,hB⟩:=eu (Sc.lI ((Sc.eH s).drop E));have aY:=Sc.CP ((Sc.eH s).drop E);rw[Sc.wP,hB]at aY;have bJ:=dY (λW=>by have:=Sv tb W;rw[hnb,hB]at this;exact this);have aM:=dY hB;have j1:(E:Int)<=(s.size:Int):=dS
 have j0:(0:Int)<=(E:Int):=dS
 obtain⟨c0,c1,c2,c3,c4,c5,c6,c7,c8⟩:=aL.out.c;clear c1 c2 c3 c5 c6 c7 c8 hnb hB htx
 go_big_quiet (exact(bJ.out _).mono λ_ _ h=>⟨h.1,_,h.2⟩)
 have hbq:=Gy (fD W5.heap.size W5) nq;have ax:=dY (aL.out.below hbq);have aN:=dY (show Row (W5.drewN nq) b v l from eZ aX.out hbq);have tN:=dY (tY.out.nC (eO b) (hbq.mono (pJ aL.out.lt)));clear hbq aL aX tY c0 c4;generalize W5.drewN nq=W6 at*;have hrow:Sc.eH (s.extract p E)=Sc.iV ((Sc.eH s).drop p):=by
  rw[Sc.zV,Sc.iV,aK.out,<-HE.out,Gm]
 have hIs:=age b s v p p E op (-1) least true W6 ax.out dS (by have:=HE.out;omega) aV HG.out.least;rw[hrow]at hIs;have aC:=dY hIs;clear hIs htb;cases hit:Sc.isText least (Sc.iV ((Sc.eH s).drop p))with
 |true=>
  rw[hit]at aC;obtain⟨n,hn⟩:=eu (rn+B);have e2:(E:Int)-(p:Int)=(rn:Int):=dS
  have e3:(rn:Int)+(B:Int)=(n:Int):=dS
  have bO:IntKind.i64.wrap (n:Int)=(n:Int):=sj _ dS;have w3:IntKind.i64.wrap (rn:Int)=(rn:Int):=sj _ dS;have aO:=dY (HG.out.text (n:=n) (by rw[hln];exact hp) hit (by rw[aK.out,nP,HE.out,aM.out,hn]));have hgl:=aO.out.2.2;rw[hln]at hgl;go_wp2_with fail
  refine aC.out.mono ?_;rintro e w7 ⟨rfl,hc⟩;have ai:=dY (ax.out.below hc);have aH:=dY (show Row w7 b v l from eZ aN.out hc);have aI:=dY (tN.out.nC (eO b) (hc.mono (pJ ax.out.lt)));clear hc ax aN tN aC;obtain⟨c0,c1,c2,c3,c4,c5,c6,c7,c8⟩:=ai.out.c;clear c0 c1 c3 c5 c6 c7 c8 e1 w1;go_wp2_with fail
  refine ik 12 dV dV ?_;simp only[vJ,vT,xB,lM]
  repeat (go_big_quiet_step (fail))
  refine LP ?_;have aZ:Mem w7.drew b s v p p E op (-1) least true:=ai.out;have bf:Row w7.drew b v l:=aH.out;have aj:=Ym 19 n (p+n) 0 p p op E (-1) least true b s v l w7.drew aZ bf rfl (oW p) dS (by have:=HG.out.len;omega) (by have:=HG.out.op;omega) (jk _) dS;have ak:=dY aj;clear aj aZ bf;go_wp2_with fail
  refine ak.out.mono ?_;rintro e w8 ⟨rfl,v2,bg,af,aA,ag,bn,bq,bz,ho,hle,-,-⟩;rw[show Sc.opens op 19=op from rfl]at ho;rw[dW dU]at hle;subst ho hle;have HD:=dY (show Db b s aB p w w8 from⟨v2,_,p+n,p,E,op,af,_,ag,bn,bq,aO.out.1,by have:=aO.out.2.1;omega,dS,aI.out.trans ((fD b w7).drew.trans bz)⟩);clear bn bq bz aO ai aH aI ak;go_wp2_with fail
  refine vK (results_none rfl _ _ _) rfl ?_;exact⟨rfl,HD.out⟩
 |false=>
  rw[hit]at aC;have bA:=dY (HG.out.row hit);go_wp2_with fail
  refine aC.out.mono ?_;rintro e w7 ⟨rfl,hc⟩;have ai:=dY (ax.out.below hc);have aH:=dY (show Row w7 b v l from eZ aN.out hc);have aI:=dY (tN.out.nC (eO b) (hc.mono (pJ ax.out.lt)));clear hc ax aN tN aC;obtain⟨c0,c1,c2,c3,c4,c5,c6,c7,c8⟩:=ai.out.c;have f7:=ai.out.f 7;clear c0 c1 c2 c3 c4 c5 c6 c8 e1 w1;go_wp2_with fail
  have bB:=dY (ai.out.aeX (-1));have bC:=dY (jH aH.out 7 (.int .i64 (-1)));have bD:=dY (jI aI.out (eO b) 7 (.int .i64 (-1)));clear ai aH aI c7 f7;generalize w7.setCell ⟨b,7,none⟩ (.int .i64 (-1))=W8 at*
  go_loopg [] E (λgf wr=>∃(v1:Value)(l1:List Tk)(st:Sc.St)(aa:Nat),Hid (Mem wr b s v1 aa p E st.op st.base st.least st.dash)/\Hid (Row wr b v1 l1)/\Hid (Sc.dR (Sc.eH s) aB l1 st aa)/\Hid (Below b w wr)/\p+st.eT=aa/\aa<=E/\E<=aa+gf)
  case atStart=>exact⟨v,l,Sc.fresh op (-1),p,bB,bC,bA,bD,rfl,by have:=HE.out;omega,dS⟩
  case round=>
   obtain⟨v1,l1,st,aa,ay,HOr,ae,ng,aQ,hae,hgf⟩:=hrel;have GM:Sc.jg ((Sc.eH s).drop aa)=E-aa:=by
    have h:=Sc.BG ((Sc.eH s).drop p) (aa-p) (by rw[aK.out];have:=HE.out;omega);rw[nP,show p+(aa-p)=aa from dS,aK.out]at h;rw[h];have:=HE.out;omega
   have aD:=dY GM;clear GM bB bC bD bA;obtain⟨c0,c1,c2,c3,c4,c5,c6,c7,c8⟩:=ay.out.c;clear c0 c1 c3 c5 c6 c7 c8;by_cases hlt:aa<E
   ·obtain⟨g',rfl⟩:∃g',gk=g'+1:=⟨gk-1,dS⟩
    have hI:(aa:Int)<(E:Int):=dS
    have bK:decide ((aa:Int)<(E:Int))=true:=kD hI;go_wp2_with fail
    go_big_quiet (fail)
    have hbq:=Gy (fD wr.heap.size wr) nq;have ah:=dY (ay.out.below hbq);have av:=dY (show Row (wr.drewN nq) b v1 l1 from eZ HOr.out hbq);have az:=dY (ng.out.nC (eO b) (hbq.mono (pJ ay.out.lt)));clear hbq ay HOr ng c2 c4;generalize wr.drewN nq=W9 at*;have hrw:Sc.eH (s.extract aa E)=Sc.iV ((Sc.eH s).drop aa):=by
     rw[Sc.zV,Sc.iV,aD.out]
    have hfc:decide (aa=p)=(st.eT==0):=by rw[qb];simp;omega
    have aP:=ak8 b s v1 aa p E st.op st.base st.least st.dash st.blank (decide (aa=p)) l1 W9 ah.out av.out (HT.out.low az.out hg1 hg2) dS (by have:=ae.out.len;omega) dS hlt aV rfl (λhq=>ae.out.last (by have:=ahW hq;omega));rw[hrw,hfc]at aP;obtain⟨k,n,hkn⟩:∃k n,Sc.next st.op st.dash st.blank (st.eT==0) (Sc.iV ((Sc.eH s).drop aa))=(k,n):=⟨_,_,rfl⟩
    rw[hkn,show pr (k,n)=.tuple #[.int .i64 k,.int .i64 n]from rfl]at aP;have aS:=dY (ae.out.on (by rw[aD.out];omega) hkn);have hn1:=aS.out.2.1;have hn2:=aS.out.2.2;rw[aD.out]at hn2;have bE:=dY aP;clear aP hrw hkn hfc;go_wp2_with fail
    refine bE.out.mono ?_;rintro e wa ⟨rfl,hc⟩;have bF:=ah.out.below hc;have bG:Row wa b v1 l1:=eZ av.out hc;have yn:=dY (az.out.nC (eO b) (hc.mono (pJ ah.out.lt)));have aj:=Ym k n (aa+n) st.eT aa p st.op E st.base st.least st.dash b s v1 l1 wa bF bG rfl aQ dS (by have:=ae.out.len;omega) (by have:=ae.out.op;omega) ae.out.base.1 (by have:=ae.out.base.2;omega);have ak:=dY aj;clear aj bF bG hc ah av az bE;go_wp2_with fail
    refine ak.out.mono ?_;rintro e wb ⟨rfl,v2,bg,af,aA,ag,aJ,hOb,hBb,rfl,rfl,rfl,rfl⟩;obtain⟨bL,bM,bN⟩:=je aJ hOb (yn.out.trans hBb);clear aJ hOb hBb ak yn ae;go_wp2_with fail
    go_roundg g'
    case measure=>omega
    case rel=>exact⟨v2,_,Sc.take st k n,aa+n,bL,bM,dY aS.out.1,bN,by show p+(st.eT+n)=aa+n;omega,dS,dS⟩
   ·obtain rfl:aa=E:=by omega
    have bK:decide ((aa:Int)<(aa:Int))=false:=ic dS;rw[si]at aD;clear hlt hgf hae;go_wp2_with fail
    go_big_quiet (fail)
    have hbq:=Gy (fD wr.heap.size wr) nq;have ah:=dY (ay.out.below hbq);have av:=dY (show Row (wr.drewN nq) b v1 l1 from eZ HOr.out hbq);have az:=dY (ng.out.nC (eO b) (hbq.mono (pJ ay.out.lt)));clear hbq ay HOr ng c2 c4;generalize wr.drewN nq=W9 at*;by_cases hB0:0<B
    ·have hBI:(0:Int)<(B:Int):=by omega
     have hbr:=ae.out.brk aD.out (by rw[aM.out];exact hB0);rw[aM.out,hln]at hbr;have aj:=Ym 1 B (aa+B) st.eT aa p st.op aa st.base st.least st.dash b s v1 l1 W9 ah.out av.out rfl aQ dS (by have:=ae.out.len;omega) (by have:=ae.out.op;omega) ae.out.base.1 (by have:=ae.out.base.2;omega);obtain⟨ak,aT⟩:=fw aj hbr;have Cx:=dY (show p<aa+B by omega);clear aj hbr ah av;go_wp2_with fail
     refine ak.out.mono ?_;rintro e wb ⟨rfl,v2,bg,af,aA,ag,aJ,hOb,hBb,ho,hle,-,-⟩;rw[show Sc.opens st.op 1=st.op from rfl]at ho;rw[dW dU]at hle;subst ho hle;have HD:=dY (show Db b s aB p w wb from⟨v2,_,aa+B,p,aa,st.op,af,_,ag,aJ,hOb,aT.out.1,Cx.out,aT.out.2,az.out.trans hBb⟩);clear aJ hOb hBb ak aT;go_wp2_with fail
     go_end0
     exact⟨rfl,HD.out⟩
    ·obtain rfl:B=0:=by omega
     have hst:=ae.out.stop aD.out (by rw[aM.out];decide);have hat:s.size<=aa:=by
      have:=congrArg List.length hst.1;rw[Sc.wP]at this;simp at this;omega
     have HD:=dY (show Db b s aB p w W9 from⟨v1,l1,aa,p,aa,st.op,st.base,st.least,st.dash,ah.out,av.out,hst.2,dS,dS,az.out⟩);clear hst hat ah av az;go_wp2_with fail
     go_end0
     exact⟨rfl,HD.out⟩
end
end Go.Proofs.YtmkkdjpebbdikaaGreatDoor

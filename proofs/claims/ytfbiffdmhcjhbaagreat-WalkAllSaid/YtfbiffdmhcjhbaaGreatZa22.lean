import Derived.Test.YtfbiffdmhcjhbaaGreatZa19
set_option linter.all false
set_option maxHeartbeats 16000000
set_option maxRecDepth 100000
set_option synthInstance.maxSize 4000
set_option synthInstance.maxHeartbeats 0
namespace Go.Proofs.YtfbiffdmhcjhbaaGreat
open Go.RowKit Tryz
namespace Sc
theorem uO(op:Nat)(dash:Bool)(r:List Nat)(k:Nat)(h:sign op dash r=k)(hk:0<k):word op dash r=(k,1):=by
 unfold word;rw[h,eT hk]
end Sc
section
open Go.RowKit
open Sg
open Sq
theorem AJ.open_{a:Nat}{B:Value}{T C k row op ae:Nat}{base text:Int}{olyX:Bool}{l':List Tk}{w w':World}(h:AJ a B T C k row op base text olyX l' w w')(u:Int)(hu:u=(ae:Int)):AJ a B T C k row ae base text olyX l' w (w'.setCell ⟨a,3,none⟩ (.int .i64 u)):=by
 obtain⟨v2,aa,h1,h2,h3,h4⟩:=h;subst hu;exact⟨v2,aa,h1.OX _,jE h2 3 _,iC h3 (fC a) 3 _,h4⟩
def qE(L:List Nat)(aa:List Tk)(a:Nat)(B:Value)(n p c:Nat)(st:Sc.St)(w:World)(e:Ending)(w':World):Prop:=
 (e=.returned (.bool true)/\∃p',lL L aa a B w' p'/\Below a w w'/\p<p'/\p'<=n)\/
 (e=.returned (.bool false)/\Below w.heap.size w w'/\c≠91/\c≠123/\c≠93/\c≠125/\(c=44->st.op=0))
theorem Kl(a b off cap n p row c:Nat)(t L:List Nat)(af l:List Tk)(v:Value)(st:Sc.St)(w:World)(hn:L.length=n)(hm:n<=16384)(hT:r9 w b off L)(h1:L.drop p=c::t)(hbr:Sc.brk c=false)
 (hM:lM w a (.slice (some ⟨b,off,none⟩) n cap) v p row st.op st.base (st.least-1) st.dash) (hO:Row w a v l) (hG:Sc.bu L af l st p) (hc:row+st.fo=p)
 (hx:Sc.next st.op st.dash st.blank (st.fo==0) (Sc.fO (L.drop p))=Sc.word st.op st.dash (Sc.fO (L.drop p))):
 Calls prog 40 #[.pointer (some ⟨a,0,none⟩)] w (qE L af a (.slice (some ⟨b,off,none⟩) n cap) n p c st w):=by
 obtain⟨c0,c1,c2,c3,c4,c5,c6,c7⟩:=hM.c;have h2:=Sc.kN h1;have d:=hT.at_ h1;obtain⟨B,hB⟩:=eX (Value.slice (some ⟨b,off,none⟩) n cap);have i1:(p:Int)<(n:Int):=by omega
 have HB:=eu (λk=>gB (fu w.heap.size w) k);have HM:=eu (λW (hb:Below w.heap.size w W)=>hM.below hb);have HO:=eu (λW (hb:Below w.heap.size w W)=>show Row W a v l from fI hO hb);have aj:=eu (λW (hb:Below w.heap.size w W)=>hb.mono (uX hM.lt));obtain⟨HG,HN,HC,ai⟩:=jk hG hn hc hB;have ak:=eu (show Sc.gL (L.drop p)≠0 by rw[h1,(Sc.jm c t hbr).2];omega)
 have HX:=eu (fun(k:Nat)(hk:0<k)(h:Sc.sign st.op st.dash (c::Sc.fO t)=k)=>show Sc.next st.op st.dash st.blank (st.fo==0) (Sc.fO (L.drop p))=(k,1)by
  rw[hx,h1,(Sc.jm c t hbr).1];exact Sc.uO _ _ _ k h hk)
 have hpn:p<n:=by omega
 have hop:=hG.op;have HAdd:=eu (fun(k:Nat) W (hb:Below w.heap.size w W)=>yB k (p+1) st.fo p row st.op st.base (st.least-1) st.dash a B v l W (by rw[<-hB];exact hM.below hb) (fI hO hb) hc (by omega) (by omega) (by have:=hG.len;omega) hG.base.1);obtain⟨op,av⟩:=eX (st.op);rw[av]at c3 hop;have aa:=eu av;clear hT hM hO hG hn h1 h2 hc hx c2 c4 c5 c6 c7 av hB hbr
 go_enter func40,ntmps40
 go_wp2_with fail
 go_big_quiet (fail)
 have hb:=HB.out nq;have c1:=fe hb c1;have c3:=fe hb c3;have ae:=eu hb;clear hb HB;generalize w.drewN nq=W at*;have w1:IntKind.i64.wrap ((p:Int)+1)=(p:Int)+1:=jC _ (by omega);by_cases q:c=91
 ·have g:((c:Int)==91)=true:=by simp;omega
  have ag:=eu (HX.out 8 (by decide) (by rw[q];rfl));have hmx:max ((op:Int)-1) 0=((op-1:Nat):Int):=by omega
  have HA:=eu (HAdd.out 8 W ae.out);rw[show((p+1:Nat):Int)=(p:Int)+1 from by omega]at HA;clear HAdd HX q;go_wp2_with fail
  refine HA.out.mono ?_;rintro e w2 ⟨rfl,hA⟩;have HA2:=eu hA;rw[aa.out]at HA2;obtain⟨v2,ah,hM2,-,hB2,-⟩:=hA;have c3:=hM2.c.2.2.2.1;rw[aa.out]at c3;have f3:=hM2.f 3;have HD:=eu (show qE L af a B n p c st w (.returned (.bool true)) (w2.setCell ⟨a,3,none⟩ (.int .i64 ((op:Int)+1)))from .inl ⟨rfl,p+1,lL.on HG.out ak.out ag.out HC.out (HA2.out.open_ _ (by rw[aa.out];simp[Sc.opens])) (by decide) rfl,(aj.out W ae.out).trans (iC hB2 (fC a) 3 _),by omega,by omega⟩);clear hM2 hB2 HA2 HA;go_wp2_with fail
  go_ret;rw[ai.out];exact HD.out
 have aD:((c:Int)==91)=false:=by simp;omega
 have az:=eu q;clear q;by_cases q:c=123
 ·have g:((c:Int)==123)=true:=by simp;omega
  have ag:=eu (HX.out 9 (by decide) (by rw[q];rfl));have hmx:max ((op:Int)-1) 0=((op-1:Nat):Int):=by omega
  have HA:=eu (HAdd.out 9 W ae.out);rw[show((p+1:Nat):Int)=(p:Int)+1 from by omega]at HA;clear HAdd HX q;go_wp2_with fail
  refine HA.out.mono ?_;rintro e w2 ⟨rfl,hA⟩;have HA2:=eu hA;rw[aa.out]at HA2;obtain⟨v2,ah,hM2,-,hB2,-⟩:=hA;have c3:=hM2.c.2.2.2.1;rw[aa.out]at c3;have f3:=hM2.f 3;have HD:=eu (show qE L af a B n p c st w (.returned (.bool true)) (w2.setCell ⟨a,3,none⟩ (.int .i64 ((op:Int)+1)))from .inl ⟨rfl,p+1,lL.on HG.out ak.out ag.out HC.out (HA2.out.open_ _ (by rw[aa.out];simp[Sc.opens])) (by decide) rfl,(aj.out W ae.out).trans (iC hB2 (fC a) 3 _),by omega,by omega⟩);clear hM2 hB2 HA2 HA;go_wp2_with fail
  go_ret;rw[ai.out];exact HD.out
 have aB:((c:Int)==123)=false:=by simp;omega
 have ax:=eu q;clear q;by_cases q:c=93
 ·have g:((c:Int)==93)=true:=by simp;omega
  have ag:=eu (HX.out 10 (by decide) (by rw[q];rfl));have hmx:max ((op:Int)-1) 0=((op-1:Nat):Int):=by omega
  have HA:=eu (HAdd.out 10 W ae.out);rw[show((p+1:Nat):Int)=(p:Int)+1 from by omega]at HA;clear HAdd HX q;go_wp2_with fail
  refine HA.out.mono ?_;rintro e w2 ⟨rfl,hA⟩;have HA2:=eu hA;rw[aa.out]at HA2;obtain⟨v2,ah,hM2,-,hB2,-⟩:=hA;have c3:=hM2.c.2.2.2.1;rw[aa.out]at c3;have f3:=hM2.f 3;have HD:=eu (show qE L af a B n p c st w (.returned (.bool true)) (w2.setCell ⟨a,3,none⟩ (.int .i64 ((op-1:Nat):Int)))from .inl ⟨rfl,p+1,lL.on HG.out ak.out ag.out HC.out (HA2.out.open_ _ (by rw[aa.out];simp[Sc.opens])) (by decide) rfl,(aj.out W ae.out).trans (iC hB2 (fC a) 3 _),by omega,by omega⟩);clear hM2 hB2 HA2 HA;go_wp2_with fail
  go_ret;rw[ai.out];exact HD.out
 have aF:((c:Int)==93)=false:=by simp;omega
 have aA:=eu q;clear q;by_cases q:c=125
 ·have g:((c:Int)==125)=true:=by simp;omega
  have ag:=eu (HX.out 11 (by decide) (by rw[q];rfl));have hmx:max ((op:Int)-1) 0=((op-1:Nat):Int):=by omega
  have HA:=eu (HAdd.out 11 W ae.out);rw[show((p+1:Nat):Int)=(p:Int)+1 from by omega]at HA;clear HAdd HX q;go_wp2_with fail
  refine HA.out.mono ?_;rintro e w2 ⟨rfl,hA⟩;have HA2:=eu hA;rw[aa.out]at HA2;obtain⟨v2,ah,hM2,-,hB2,-⟩:=hA;have c3:=hM2.c.2.2.2.1;rw[aa.out]at c3;have f3:=hM2.f 3;have HD:=eu (show qE L af a B n p c st w (.returned (.bool true)) (w2.setCell ⟨a,3,none⟩ (.int .i64 ((op-1:Nat):Int)))from .inl ⟨rfl,p+1,lL.on HG.out ak.out ag.out HC.out (HA2.out.open_ _ (by rw[aa.out];simp[Sc.opens])) (by decide) rfl,(aj.out W ae.out).trans (iC hB2 (fC a) 3 _),by omega,by omega⟩);clear hM2 hB2 HA2 HA;go_wp2_with fail
  go_ret;rw[ai.out];exact HD.out
 have aC:((c:Int)==125)=false:=by simp;omega
 have ay:=eu q;clear q;by_cases q:c=44
 ·have g:((c:Int)==44)=true:=by simp;omega
  by_cases q2:0<op
  ·have g2:(0:Int)<(op:Int):=by omega
   have ag:=eu (HX.out 7 (by decide) (by rw[q,aa.out];simp[Sc.sign,q2]));have HA:=eu (HAdd.out 7 W ae.out);rw[show((p+1:Nat):Int)=(p:Int)+1 from by omega]at HA;clear HAdd HX q q2;go_wp2_with fail
   refine HA.out.mono ?_;rintro e w2 ⟨rfl,hA⟩;have hBl:Below a W w2:=by obtain⟨v2,ah,-,-,hB2,-⟩:=hA;exact hB2
   have HD:=eu (show qE L af a B n p c st w (.returned (.bool true)) w2 from .inl ⟨rfl,p+1,lL.on HG.out ak.out ag.out HC.out hA (by decide) rfl,(aj.out W ae.out).trans hBl,by omega,by omega⟩);clear hA hBl HA;go_wp2_with fail
   go_ret;rw[ai.out];exact HD.out
  obtain rfl:op=0:=by omega
  have HD:=eu (show qE L af a B n p c st w (.returned (.bool false)) W from .inr ⟨rfl,ae.out,az.out,ax.out,aA.out,ay.out,λ_=>aa.out⟩);clear HAdd HX q q2;go_wp2_with fail
  go_ret;rw[ai.out];exact HD.out
 have g:((c:Int)==44)=false:=by simp;omega
 have HD:=eu (show qE L af a B n p c st w (.returned (.bool false)) W from .inr ⟨rfl,ae.out,az.out,ax.out,aA.out,ay.out,λh=>absurd h q⟩);clear HAdd HX q;go_wp2_with fail
 go_ret;rw[ai.out];exact HD.out
end
namespace Sc
open Sg
theorem GG(op:Nat)(dash:Bool)(c:Nat)(t:List Nat)(h:c=45)(h1:op=0)(h2:dash=true)(h3:nT t=true):sign op dash (c::fO t)=5:=by
 subst h h1 h2;simp[sign,wS,h3]
theorem Km(op:Nat)(dash:Bool)(c:Nat)(t:List Nat)(h:zu (decide (0<op)) (c::t)=true):sign op dash (c::fO t)=6:=by
 have hc:c=58/\um (decide (0<op)) t=true:=by simpa [zu]using h
 obtain⟨rfl,hk⟩:=hc;simp[sign,zP,hk]
theorem Nf(op:Nat)(dash:Bool)(c:Nat)(t:List Nat)(h1:c≠91)(h2:c≠123)(h3:c≠93)(h4:c≠125)(h5:c=44->op=0)(hd:¬(c=45/\op=0/\dash=true/\nT t=true))(hc:zu (decide (0<op)) (c::t)=false):sign op dash (c::fO t)=0:=by
 rw[sign];rw[eQ h1,eQ h2,eQ h3,eQ h4];by_cases q:c=44
 ·rw[eT q,eQ (by rw[h5 q];decide)]
 rw[eQ q];by_cases q:c=45
 ·rw[eT q,wS];by_cases a1:op=0
  ·rw[eT a1];by_cases a2:dash=true
   ·rw[eT a2];by_cases a3:nT t=true
    ·exact absurd ⟨q,a1,a2,a3⟩ hd
    rw[eQ a3]
   rw[eQ a2]
  rw[eQ a1]
 rw[eQ q];by_cases q:c=58
 ·have:um (decide (0<op)) t=false:=by simpa [zu,q]using hc
  rw[eT q,zP,this];rfl
 rw[eQ q]
theorem sJ(op:Nat)(dash:Bool)(r:List Nat)(h:sign op dash r=0)(x:Nat×Nat)(hx:named r=x)(h0:0<x.1):word op dash r=x:=by
 unfold word;rw[h,eQ (by decide),hx,eT h0]
theorem vw(op:Nat)(dash:Bool)(r:List Nat)(h:sign op dash r=0)(h1:(named r).1=0)(x:Nat×Nat)(hx:quoted r=x)(h0:0<x.1):word op dash r=x:=by
 unfold word;rw[h,eQ (by decide),h1,eQ (by decide),hx,eT h0]
theorem GH(op:Nat)(dash:Bool)(r:List Nat)(h:sign op dash r=0)(h1:(named r).1=0)(h2:(quoted r).1=0)(h3:op=0/\0<oI r):word op dash r=(18,oI r):=by
 unfold word;rw[h,eQ (by decide),h1,eQ (by decide),h2,eQ (by decide),eT h3]
theorem Kn(op:Nat)(dash:Bool)(r:List Nat)(h:sign op dash r=0)(h1:(named r).1=0)(h2:(quoted r).1=0)(h3:¬(op=0/\0<oI r))(h4:bad r=true):word op dash r=(22,1):=by
 unfold word;rw[h,eQ (by decide),h1,eQ (by decide),h2,eQ (by decide),eQ h3,eT h4]
theorem DC(op:Nat)(dash:Bool)(r:List Nat)(h:sign op dash r=0)(h1:(named r).1=0)(h2:(quoted r).1=0)(h3:¬(op=0/\0<oI r))(h4:bad r=false):word op dash r=(15,pG (decide (0<op)) r):=by
 unfold word;rw[h,eQ (by decide),h1,eQ (by decide),h2,eQ (by decide),eQ h3,eQ (by rw[h4];decide)]
theorem GI(c:Nat)(t:List Nat)(h:c=38)(h0:0<run uy t):named (c::fO t)=(12,run uy t+1):=by
 subst h;rw[named,l5 uy vJ,eT rfl,eQ (by omega)]
theorem DD(c:Nat)(t:List Nat)(h:c=42)(h0:0<run uy t):named (c::fO t)=(13,run uy t+1):=by
 subst h;rw[named,l5 uy vJ,eQ (by decide),eT rfl,eQ (by omega)]
theorem GJ(c:Nat)(t:List Nat)(h:c=33):named (c::fO t)=(14,run Hq t+1):=by
 subst h;rw[named,l5 Hq MI,eQ (by decide),eQ (by decide),eT rfl]
theorem Ko(c:Nat)(t:List Nat)(h1:¬(c=38/\0<run uy t))(h2:¬(c=42/\0<run uy t))(h3:c≠33):(named (c::fO t)).1=0:=by
 rw[named];rw[l5 uy vJ];by_cases q:c=38
 ·rw[eT q,eT (by omega)]
 rw[eQ q];by_cases q:c=42
 ·rw[eT q,eT (by omega)]
 rw[eQ q,eQ h3]
theorem GK(c:Nat)(r:List Nat)(h1:c≠39)(h2:c≠34):(quoted (c::r)).1=0:=by
 rw[quoted,eQ h1,eQ h2]
theorem DI(c:Nat)(r:List Nat)(h1:c=39):quoted (c::r)=(16,oF r+1):=by
 rw[quoted,eT h1]
theorem DJ(c:Nat)(r:List Nat)(h1:c=34):quoted (c::r)=(17,mV r+1):=by
 rw[quoted,eQ (by omega),eT h1]
end Sc
section
open Go.RowKit
open Sg
theorem QU{w:World}{a b off cap n:Nat}{L:List Nat}(p op c H:Nat)(t:List Nat)(h1:L.drop p=c::t)(hn:L.length=n)(hm:n<=16384)(hH:(if op=0 then Sc.nA (c::t)else 0)=H)(c0:w.cell? ⟨a,0,none⟩=some (.slice (some ⟨b,off,none⟩) n cap))(c1:w.cell? ⟨a,1,none⟩=some (.int .i64 p))(c3:w.cell? ⟨a,3,none⟩=some (.int .i64 op))(hT:r9 w b off L):
 Calls prog 66 #[.pointer (some ⟨a,0,none⟩)] w λe w'=>e=.returned (.int .i64 H)/\Below w.heap.size w w':=by
 by_cases ho:op=0
 ·subst ho;rw[eT rfl]at hH;by_cases hc:c=124\/c=62
  ·rw[<-hH];exact Px p c (Sc.nU t) t h1 hn hm hc rfl c0 c1 c3 hT
  rw[<-hH,Dr c t (by omega) (by omega)];exact I8 p 0 c t h1 hn hm (.inl (by omega)) c0 c1 c3 hT
 rw[eQ ho]at hH;rw[<-hH];exact I8 p op c t h1 hn hm (.inr (by omega)) c0 c1 c3 hT
end
section
open Go.RowKit
open Sg
open Sq
def zD(L:List Nat)(aa:List Tk)(a:Nat)(B:Value)(n p:Nat)(w:World)(e:Ending)(w':World):Prop:=
 e=.returned (.tuple #[])/\∃p',lL L aa a B w' p'/\Below a w w'/\p<p'/\p'<=n
theorem Kq:cls true=Sc.Hq:=rfl
theorem GL:cls false=Sc.uy:=rfl
theorem QV(a b off cap n p row c:Nat)(t L:List Nat)(az l:List Tk)(v:Value)(st:Sc.St)(w:World)(hn:L.length=n)(hm:n<=16384)(hab:b<a)(hcap:n<=cap)(hcm:cap<=maxLen)(hL:∀x∈L,x<256)(hT:r9 w b off L)(h1:L.drop p=c::t)(hbr:Sc.brk c=false)(hbl:Sc.blk c=false)
 (hM:lM w a (.slice (some ⟨b,off,none⟩) n cap) v p row st.op st.base (st.least-1) st.dash) (hO:Row w a v l) (hG:Sc.bu L az l st p) (hc:row+st.fo=p)
 (hx:Sc.next st.op st.dash st.blank (st.fo==0) (Sc.fO (L.drop p))=Sc.word st.op st.dash (Sc.fO (L.drop p)))
 (cr:c≠91) (bG:c≠123) (cz:c≠93) (bH:c≠125) (bI:c=44->st.op=0):
 Calls prog 41 #[.pointer (some ⟨a,0,none⟩)] w (zD L az a (.slice (some ⟨b,off,none⟩) n cap) n p w):=by
 obtain⟨c0,c1,c2,c3,c4,c5,c6,c7⟩:=hM.c;have h2:=Sc.kN h1;have d:=hT.at_ h1;obtain⟨B,hB⟩:=eX (Value.slice (some ⟨b,off,none⟩) n cap);have i1:(p:Int)<(n:Int):=by omega
 have i2:(p:Int)<=(n:Int):=by omega
 have hpn:p<n:=by omega
 have HB:=eu (λk=>gB (fu w.heap.size w) k);have HM:=eu (λW (hb:Below w.heap.size w W)=>hM.below hb);have HO:=eu (λW (hb:Below w.heap.size w W)=>show Row W a v l from fI hO hb);have HT:=eu (λW (hb:Below w.heap.size w W)=>hT.below hb);have aU:=eu (λW (hb:Below w.heap.size w W)=>hb.mono (uX hM.lt));have hrow:=Sc.jm c t hbr;have aV:Sc.gL (L.drop p)≠0:=by rw[h1,hrow.2];omega
 rw[h1,hrow.1]at hx
 have af:=eu (λW (hb:Below w.heap.size w W)(k m T:Nat)(hw:Sc.word st.op st.dash (c::Sc.fO t)=(k,m))(hk:Md k=true)(aL:p+m=T)=>
  Me (B:=B) (v:=v) (row:=row) W hn hm (by rw[<-hB];exact hM.below hb) (fI hO hb) hG hc aV (by rw[h1,hrow.1,hx];exact hw) hk aL)
 have HFin:=eu (λW (hb:Below w.heap.size w W)(w':World)(T:Nat)(h:lL L az a B w' T/\Below a W w'/\p<T/\T<=n)=>show zD L az a B n p w (.returned (.tuple #[])) w' from⟨rfl,T,h.1,(aU.out W hb).trans h.2.1,h.2.2.1,h.2.2.2⟩);obtain⟨E,hE⟩:=eX (p+Sc.gL (L.drop p));have hrl:=Sc.kC (L.drop p);rw[iq,hn]at hrl;have hE2:E=p+1+Sc.gL t:=by rw[<-hE,h1,hrow.2];omega
 have aM:p+1<=E/\E<=n:=by omega
 have htk:(L.drop (p+1)).take (E-(p+1))=Sc.fO t:=by rw[h2.2.1,hE2,show p+1+Sc.gL t-(p+1)=Sc.gL t by omega];rfl
 obtain⟨R,hR⟩:=eX ((Sc.jZ (c::t)).1);obtain⟨KR,bJ⟩:=eX ((Sc.jZ (c::t)).2);have hbad:Sc.bad (c::Sc.fO t)=decide (R<0):=by
  have:=Sc.sZ (c::t) (by rw[hrow.2];omega);rw[hrow.1]at this;rw[Sc.bad,this,hR]
 have aG:=EO (c::t);rw[hR]at aG;obtain⟨M0,hM0⟩:=eX (n-p);obtain⟨C0,hC0⟩:=eX (cap-p);have hsl0:=wV (b:=b) (off:=off) p hpn hcap hcm hm;rw[hM0,hC0]at hsl0;have bK:=eu (λW (hb:Below w.heap.size w W)=>by have:=Iz (w:=W) p c t M0 C0 h1 hn hm hL hM0 (hT.below hb);rw[hR,bJ]at this;exact this);obtain⟨nn,hnn⟩:=eX (Sc.run Sc.uy t);obtain⟨NM,hNM⟩:=eX (p+1+nn);obtain⟨tn,htn⟩:=eX (Sc.run Sc.Hq t);obtain⟨TN,aW⟩:=eX (p+1+tn);have hnt:nn<=n-(p+1)/\tn<=n-(p+1):=by
  have h3:=Sc.ow Sc.uy t;have h4:=Sc.ow Sc.Hq t;omega
 have bL:=eu (λW (hb:Below w.heap.size w W)=>by have:=I6 (w:=W) (a:=a) (cap:=cap) false (p+1) NM hn hm (by omega) (by rw[h2.2.1,GL,hnn,hNM]) (fe hb c0) (hT.below hb);rw[show((p+1:Nat):Int)=(p:Int)+1 from by omega]at this;exact this);have bM:=eu (λW (hb:Below w.heap.size w W)=>by have:=I6 (w:=W) (a:=a) (cap:=cap) true (p+1) TN hn hm (by omega) (by rw[h2.2.1,Kq,htn,aW]) (fe hb c0) (hT.below hb);rw[show((p+1:Nat):Int)=(p:Int)+1 from by omega]at this;exact this);have aX:=eu (λW (hb:Below w.heap.size w W)=>by have:=CS (w:=W) (a:=a) (cap:=cap) (p+1) hn (by omega) (by omega) (fe hb c0) (hT.below hb);rw[show((p+1:Nat):Int)=(p:Int)+1 from by omega,h2.2.1]at this;exact this);have aY:=eu (λW (hb:Below w.heap.size w W)=>I7 (w:=W) (a:=a) (cap:=cap) p st.op c t h1 hn hm (fe hb c0) (fe hb c3) (hT.below hb));have aN:=eu (λW (hb:Below w.heap.size w W)=>zS (w:=W) (a:=a) (cap:=cap) p E hn hm (by omega) hE (fe hb c0) (hT.below hb));obtain⟨sn,hsn⟩:=eX (Sc.oF (Sc.fO t));obtain⟨dn,hdn⟩:=eX (Sc.mV (Sc.fO t));obtain⟨SN,aZ⟩:=eX (p+1+sn);obtain⟨DN,bf⟩:=eX (p+1+dn);have hsd:SN<=E/\DN<=E:=by
  have h3:=Sc.Er (Sc.fO t);have h4:=Sc.Eu (Sc.fO t);rw[Sc.iV]at h3 h4;omega
 have bN:=eu (λW (hb:Below w.heap.size w W)=>by have:=MO (w:=W) (a:=a) (cap:=cap) (p+1) E SN hn hm aM.1 aM.2 (by rw[htk,hsn,aZ]) (fe hb c0) (hT.below hb);rw[show((p+1:Nat):Int)=(p:Int)+1 from by omega]at this;exact this);have bO:=eu (λW (hb:Below w.heap.size w W)=>by have:=MQ (w:=W) (a:=a) (cap:=cap) (p+1) E DN hn hm aM.1 aM.2 (by rw[htk,hdn,bf]) (fe hb c0) (hT.below hb);rw[show((p+1:Nat):Int)=(p:Int)+1 from by omega]at this;exact this);obtain⟨H,hH⟩:=eX ((if st.op=0 then Sc.nA (c::t)else 0));have bg:=eu (λW (c0:W.cell? ⟨a,0,none⟩=some (.slice (some ⟨b,off,none⟩) n cap))(c1:W.cell? ⟨a,1,none⟩=some (.int .i64 p))(c3:W.cell? ⟨a,3,none⟩=some (.int .i64 st.op))(hT:r9 W b off L)=>QU (w:=W) p st.op c H t h1 hn hm hH c0 c1 c3 hT);have hhd:Sc.oI (c::Sc.fO t)=Sc.nA (c::t):=by rw[<-hrow.1];exact Sc.JL (c::t) (by rw[hrow.2];omega)
 have bn:=eu (show(st.op=0/\0<Sc.oI (c::Sc.fO t))↔0<H by
  rw[hhd,<-hH];by_cases g:st.op=0
  ·rw[eT g];exact⟨λh=>h.2,λh=>⟨g,h⟩⟩
  rw[eQ g];exact⟨λh=>absurd h.1 g,λh=>absurd h (by decide)⟩)
 have cB:=eu (fun(g:0<H)=>show Sc.oI (c::Sc.fO t)=H by
  rw[hhd];by_cases q:st.op=0
  ·rw[eT q]at hH;exact hH
  rw[eQ q]at hH;omega)
 obtain⟨PN,bq⟩:=eX (p+Sc.pG (decide (0<st.op)) (c::Sc.fO t));have bP:=eu (λW (hb:Below w.heap.size w W)=>PI (w:=W) p st.op c t h1 hbr hbl hn hm hcap hcm hL (fe hb c0) (fe hb c1) (fe hb c3) (hT.below hb) PN (by rw[hrow.1];exact bq));obtain⟨Et,aO⟩:=eX (Sc.nT t);obtain⟨Co,aP⟩:=eX (Sc.zu (decide (0<st.op)) (c::t));rw[aO]at aX;rw[aP]at aY;obtain⟨Q1,ax⟩:=eX ((c==45&&(st.op==0&&(st.dash&&Et))));have cK:=eu ax
 have bQ:=eu (fun(g:Q1=true)=>show Sc.word st.op st.dash (c::Sc.fO t)=(5,1)by
  have:c=45/\st.op=0/\st.dash=true/\Et=true:=by rw[<-ax]at g;simpa using g
  exact Sc.uO _ _ _ 5 (Sc.GG _ _ _ _ this.1 this.2.1 this.2.2.1 (by rw[aO];exact this.2.2.2)) (by decide))
 have HSc:=eu (fun(g:Co=true)=>show Sc.word st.op st.dash (c::Sc.fO t)=(6,1)from Sc.uO _ _ _ 6 (Sc.Km _ _ _ _ (by rw[aP];exact g)) (by decide))
 have bR:=eu (fun(g1:Q1=false)(g2:Co=false)=>show Sc.sign st.op st.dash (c::Sc.fO t)=0 from Sc.Nf _ _ _ _ cr bG cz bH bI (by
  intro h;rw[aO]at h;rw[<-ax,h.1,h.2.1,h.2.2.1,h.2.2.2]at g1
  cases g1) (by rw[aP];exact g2))
 obtain⟨op,hop⟩:=eX (st.op);rw[hop]at c3 ax;obtain⟨ds,hds⟩:=eX (st.dash);rw[hds]at c5 ax;obtain⟨ak,aA,HG,HC,ag,bS⟩:=j6 ax hop hG hc hB aV;obtain⟨aB,bT,cO,cZ,df,dh⟩:=j6 hnn hNM aW htn aZ bf;obtain⟨di,dm,dw,bU⟩:=jk hsn hdn bq hbad;have dx:=eu (show Sc.next st.op st.dash st.blank (st.fo==0) (Sc.fO (L.drop p))=Sc.word st.op st.dash (c::Sc.fO t)by rw[h1,hrow.1,hx])
 have bz:=eu (show H<=n-p by
  rw[<-hH];split
  ·have:=Sc.A9 (c::Sc.fO t);rw[hhd]at this;have h5:=Sc.iV (c::t);rw[hrow.1]at h5;have h6:=Sc.kC (c::t);have h7:(c::t).length=n-p:=by rw[<-h1,iq,hn]
   omega
  exact gG _)
 have HAdd:=eu (λW (v:Value)(text:Int)(T:Nat)(dA:T<=100000)(hM:lM W a B v p row st.op st.base text st.dash)(hO:Row W a v l)=>yB 18 T st.fo p row st.op st.base text st.dash a B v l W hM hO hc dA (by omega) (by have:=hG.len;omega) hG.base.1);have dC:=eu hn;clear hT hM hO hG hn h1 h2 hc hx hrow aV hE hrl hE2 htk hR bJ hbad hM0 hC0 hnn hNM htn aW hsn hdn aZ bf hH hhd bq aO aP ax hop hds hB bI hbr hbl hcap hcm hL c7
 go_enter func41,ntmps41
 go_wp2_with fail
 go_big_quiet (fail)
 have hb:=HB.out nq;have c0:=fe hb c0;have c1:=fe hb c1;have c2:=fe hb c2;have c3:=fe hb c3;have c4:=fe hb c4;have c5:=fe hb c5;have aa:=eu hb;clear hb HB d;generalize w.drewN nq=W at*;go_wp2_with fail
 refine(bK.out W aa.out).mono ?_;rintro e w1 ⟨rfl,rfl⟩;clear hsl0 bK;have w1:IntKind.i64.wrap ((p:Int)+1)=(p:Int)+1:=jC _ (by omega);go_wp2_with fail
 refine(bL.out W aa.out).mono ?_;rintro e w1 ⟨rfl,rfl⟩;clear bL;go_upto_region 5 with fail
 go_cut [39] (λq wx=>q=.bool Q1/\W=wx)
 case first=>
  by_cases z1:c=45
  ·have g1:((c:Int)==45)=true:=by simp;omega
   by_cases z2:op=0
   ·subst z2;cases ds with
    |true=>
     have HZ:=eu (show Q1=Et by rw[<-ak.out,z1];simp);clear z1;go_wp2_with fail
     refine(aX.out W aa.out).mono ?_;rintro e w1 ⟨rfl,rfl⟩;go_wp2_with fail
     go_meet
     exact⟨by rw[HZ.out],rfl⟩
    |false=>
     have HZ:=eu (show Q1=false by rw[<-ak.out];simp);clear z1;go_wp2_with fail
     go_meet
     exact⟨by rw[HZ.out],rfl⟩
   have g2:((op:Int)==0)=false:=by simp;omega
   have HZ:=eu (show Q1=false by rw[<-ak.out];simp[z2]);clear z1 z2;go_wp2_with fail
   go_meet
   exact⟨by rw[HZ.out],rfl⟩
  have g1:((c:Int)==45)=false:=by simp;omega
  have HZ:=eu (show Q1=false by rw[<-ak.out];simp[z1]);clear z1;go_wp2_with fail
  go_meet
  exact⟨by rw[HZ.out],rfl⟩
 case rest=>
 obtain⟨rfl,rfl⟩:=hcut;cases Q1 with
 |true=>
  have HP:=af.out W aa.out 5 1 (p+1) (bQ.out (by simp)) rfl rfl;rw[show((p+1:Nat):Int)=(p:Int)+1 from by omega]at HP;have ae:=eu HP;clear HP;go_wp2_with fail
  refine ae.out.mono ?_;rintro e w3 ⟨rfl,h⟩;have HD:=eu (HFin.out W aa.out w3 _ h);clear h;go_wp2_with fail
  go_end0
  rw[ag.out];exact HD.out
 |false=>
 clear c5;go_wp2_with fail
 refine(aY.out W aa.out).mono ?_;rintro e w1 ⟨rfl,rfl⟩;cases Co with
 |true=>
  have HP:=af.out W aa.out 6 1 (p+1) (HSc.out (by simp)) rfl rfl;rw[show((p+1:Nat):Int)=(p:Int)+1 from by omega]at HP;have ae:=eu HP;clear HP;go_wp2_with fail
  refine ae.out.mono ?_;rintro e w3 ⟨rfl,h⟩;have HD:=eu (HFin.out W aa.out w3 _ h);clear h;go_wp2_with fail
  go_end0
  rw[ag.out];exact HD.out
 |false=>
 have ai:=eu (bR.out (by simp) (by simp));clear bQ HSc bR aY aX cK ak;obtain⟨Q3,bV⟩:=eX ((c==38&&decide (0<nn)));obtain⟨Q4,bW⟩:=eX ((c==42&&decide (0<nn)));obtain⟨aC,aD⟩:=fD bV bW;have aj:=eu (show p+1+nn=NM from bT.out);clear bV bW;go_upto_region 9 with fail
 go_cut [73] (λq wx=>q=.bool Q3/\W=wx)
 case first=>
  by_cases z1:c=38
  ·have g1:((c:Int)==38)=true:=by simp;omega
   by_cases z2:0<nn
   ·have HZ:=eu (show Q3=true by rw[<-aC.out,z1,iO z2];rfl);have g2:(p:Int)+1<(NM:Int):=by have:=aj.out;omega
    clear z1 z2;go_wp2_with fail
    go_meet
    exact⟨by rw[HZ.out],rfl⟩
   have HZ:=eu (show Q3=false by rw[<-aC.out,iF z2];simp);have g2:(NM:Int)=(p:Int)+1:=by have:=aj.out;omega
   clear z1 z2;go_wp2_with fail
   go_meet
   exact⟨by rw[HZ.out],rfl⟩
  have g1:((c:Int)==38)=false:=by simp;omega
  have HZ:=eu (show Q3=false by rw[<-aC.out];simp[z1]);clear z1;go_wp2_with fail
  go_meet
  exact⟨by rw[HZ.out],rfl⟩
 case rest=>
 obtain⟨rfl,rfl⟩:=hcut;cases Q3 with
 |true=>
  have hq:c=38/\0<nn:=by have:=aC.out;simpa using this
  have ae:=eu (af.out W aa.out 12 (nn+1) NM (Sc.sJ _ _ _ ai.out _ (by rw[Sc.GI c t hq.1 (by rw[aB.out];exact hq.2),aB.out]) (by simp)) rfl (by have:=aj.out;omega));clear hq;go_wp2_with fail
  refine ae.out.mono ?_;rintro e w3 ⟨rfl,h⟩;have HD:=eu (HFin.out W aa.out w3 _ h);clear h;go_wp2_with fail
  go_end0
  rw[ag.out];exact HD.out
 |false=>
 go_upto_region 11 with fail
 go_cut [85] (λq wx=>q=.bool Q4/\W=wx)
 case first=>
  by_cases z1:c=42
  ·have g1:((c:Int)==42)=true:=by simp;omega
   by_cases z2:0<nn
   ·have HZ:=eu (show Q4=true by rw[<-aD.out,z1,iO z2];rfl);have g2:(p:Int)+1<(NM:Int):=by have:=aj.out;omega
    clear z1 z2;go_wp2_with fail
    go_meet
    exact⟨by rw[HZ.out],rfl⟩
   have HZ:=eu (show Q4=false by rw[<-aD.out,iF z2];simp);have g2:(NM:Int)=(p:Int)+1:=by have:=aj.out;omega
   clear z1 z2;go_wp2_with fail
   go_meet
   exact⟨by rw[HZ.out],rfl⟩
  have g1:((c:Int)==42)=false:=by simp;omega
  have HZ:=eu (show Q4=false by rw[<-aD.out];simp[z1]);clear z1;go_wp2_with fail
  go_meet
  exact⟨by rw[HZ.out],rfl⟩
 case rest=>
 obtain⟨rfl,rfl⟩:=hcut;cases Q4 with
 |true=>
  have hq:c=42/\0<nn:=by have:=aD.out;simpa using this
  have ae:=eu (af.out W aa.out 13 (nn+1) NM (Sc.sJ _ _ _ ai.out _ (by rw[Sc.DD c t hq.1 (by rw[aB.out];exact hq.2),aB.out]) (by simp)) rfl (by have:=aj.out;omega));clear hq;go_wp2_with fail
  refine ae.out.mono ?_;rintro e w3 ⟨rfl,h⟩;have HD:=eu (HFin.out W aa.out w3 _ h);clear h;go_wp2_with fail
  go_end0
  rw[ag.out];exact HD.out
 |false=>
 by_cases z33:c=33
 ·have g1:((c:Int)==33)=true:=by simp;omega
  have ae:=eu (af.out W aa.out 14 (tn+1) TN (Sc.sJ _ _ _ ai.out _ (by rw[Sc.GJ c t z33,cZ.out]) (by simp)) rfl (by have:=cO.out;omega));clear z33;go_wp2_with fail
  refine(bM.out W aa.out).mono ?_;rintro e w1 ⟨rfl,rfl⟩;go_wp2_with fail
  refine ae.out.mono ?_;rintro e w3 ⟨rfl,h⟩;have HD:=eu (HFin.out W aa.out w3 _ h);clear h;go_wp2_with fail
  go_end0
  rw[ag.out];exact HD.out
 have dD:((c:Int)==33)=false:=by simp;omega
 have aH:=eu (Sc.Ko c t (by rw[aB.out];intro h;have:=aC.out;rw[h.1,iO h.2]at this;cases this) (by rw[aB.out];intro h;have:=aD.out;rw[h.1,iO h.2]at this;cases this) z33);clear z33 bM aC aD;by_cases z39:c=39
 ·have g1:((c:Int)==39)=true:=by simp;omega
  have ae:=eu (af.out W aa.out 16 (sn+1) SN (Sc.vw _ _ _ ai.out aH.out _ (by rw[Sc.DI c _ z39,di.out]) (by simp)) rfl (by have:=df.out;omega));clear z39;go_wp2_with fail
  refine(aN.out W aa.out).mono ?_;rintro e w1 ⟨rfl,rfl⟩;go_wp2_with fail
  refine(bN.out W aa.out).mono ?_;rintro e w1 ⟨rfl,rfl⟩;go_wp2_with fail
  refine ae.out.mono ?_;rintro e w3 ⟨rfl,h⟩;have HD:=eu (HFin.out W aa.out w3 _ h);clear h;go_wp2_with fail
  go_end0
  rw[ag.out];exact HD.out
 have dE:((c:Int)==39)=false:=by simp;omega
 by_cases z34:c=34
 ·have g1:((c:Int)==34)=true:=by simp;omega
  have ae:=eu (af.out W aa.out 17 (dn+1) DN (Sc.vw _ _ _ ai.out aH.out _ (by rw[Sc.DJ c _ z34,dm.out]) (by simp)) rfl (by have:=dh.out;omega));have dF:min (DN:Int) (E:Int)=(DN:Int):=by omega
  clear z34 z39;go_wp2_with fail
  refine(aN.out W aa.out).mono ?_;rintro e w1 ⟨rfl,rfl⟩;go_wp2_with fail
  refine(bO.out W aa.out).mono ?_;rintro e w1 ⟨rfl,rfl⟩;go_wp2_with fail
  refine(aN.out W aa.out).mono ?_;rintro e w1 ⟨rfl,rfl⟩;go_wp2_with fail
  refine ae.out.mono ?_;rintro e w3 ⟨rfl,h⟩;have HD:=eu (HFin.out W aa.out w3 _ h);clear h;go_wp2_with fail
  go_end0
  rw[ag.out];exact HD.out
 have dG:((c:Int)==34)=false:=by simp;omega
 have bA:=eu (Sc.GK c (Sc.fO t) z39 z34);clear z39 z34 aN bN bO bT aj;go_wp2_with fail
 refine(bg.out W c0 c1 (by rw[aA.out];exact c3) (HT.out W aa.out)).mono ?_;rintro e W2 ⟨rfl,hb2⟩;have c0:=fe hb2 c0;have c1:=fe hb2 c1;have c2:=fe hb2 c2;have c3:=fe hb2 c3;have c4:=fe hb2 c4;have HB2:=eu (aa.out.trans (hb2.mono aa.out.size));clear hb2 aa;have aF:=eu (HM.out W2 HB2.out);rw[ag.out,aA.out]at aF;have bX:=eu (HO.out W2 HB2.out);by_cases zH:0<H
 ·have gH:(0:Int)<(H:Int):=by omega
  have aR:=eu (dx.out.trans (by rw[Sc.GH _ _ _ ai.out aH.out bA.out (bn.out.2 zH),cB.out zH]):Sc.next st.op st.dash st.blank (st.fo==0) (Sc.fO (L.drop p))=(18,H));obtain⟨T,aL⟩:=eX (p+H);have hT1:T<=20000:=by have:=bz.out;omega
  have e1:(p:Int)+(H:Int)=(T:Int):=by omega
  have w2:IntKind.i64.wrap (T:Int)=(T:Int):=jC _ (by omega);obtain⟨Cc,bY⟩:=eX (st.fo);have e2:(p:Int)-(row:Int)=(Cc:Int):=by have:=HC.out;omega
  have w3:IntKind.i64.wrap (Cc:Int)=(Cc:Int):=jC _ (by have:=HC.out;omega);have w4:IntKind.i64.wrap ((Cc:Int)-1)=(Cc:Int)-1:=jC _ (by have:=HC.out;omega);obtain⟨av,bZ,aS⟩:=gW aL bY HG.out.base.1;obtain⟨base,hbase⟩:=eX (st.base);obtain⟨dH,aI⟩:=eX (st.dash);rw[hbase,aI]at aF;rw[hbase]at c4 aS;obtain⟨aQ,aT⟩:=fD hbase aI;have f6:=aF.out.f 6;have c6:=aF.out.c.2.2.2.2.2.2.1;clear aL bY hbase aI bP af;by_cases z2:base<0
  ·skip
   have hb0:base<0:=z2
   obtain rfl:base=-1:=by have:=aS.out;omega
   have bB:=eu (show(Cc:Int)-1=(Sc.take st 18 H).least-1 by
    show _=(if 18=18 then(if st.base=-1 then(st.fo:Int)else st.base+1)else st.least)-1
    rw[eT rfl,aQ.out,eT rfl,bZ.out])
   have ah:=eu ((aF.out.Mc (-1)).Mc ((Cc:Int)-1));have aJ:=eu (jE (jE bX.out 6 (.int .i64 (-1))) 6 (.int .i64 ((Cc:Int)-1)));have ay:=eu (iC (iC (fu a W2) (fC a) 6 (.int .i64 (-1))) (fC a) 6 (.int .i64 ((Cc:Int)-1)));have HT3:=eu ((HT.out W2 HB2.out).low ay.out hab);have aK:=eu (bg.out _ (by rw[ag.out];exact ah.out.c.1) ah.out.c.2.1 (by rw[aA.out];exact ah.out.c.2.2.2.1) HT3.out);clear z2;go_wp2_with fail
   refine aK.out.mono ?_;rintro e W4 ⟨rfl,hb4⟩;have bC:=eu (ah.out.below hb4);have bD:=eu (show Row W4 a v l from fI aJ.out hb4);have bE:=eu (((aU.out W2 HB2.out).trans ay.out).trans (hb4.mono (uX ah.out.lt)));have HA:=eu (HAdd.out W4 v ((Cc:Int)-1) T (by omega) (by rw[aQ.out,aT.out,aA.out];exact bC.out) bD.out);clear hb4 ah aJ ay HT3 aK c0 c1 c2 c3 c4 f6;go_wp2_with fail
   refine HA.out.mono ?_;rintro e w5 ⟨rfl,hA⟩;have hBl:Below a W4 w5:=by obtain⟨v2,bF,-,-,hB2,-⟩:=hA;exact hB2
   have HD:=eu (show zD L az a B n p w (.returned (.tuple #[])) w5 from⟨rfl,T,by
    rw[<-av.out];rw[<-av.out]at hA
    exact lL.on HG.out bS.out aR.out HC.out hA (by decide) bB.out,bE.out.trans hBl,by have:=av.out;omega,by have:=av.out;have:=bz.out;omega⟩)
   clear hA hBl HA;go_wp2_with fail
   go_end0
   rw[ag.out];exact HD.out
  skip
  have hb0:¬base<0:=z2
  have bB:=eu (show base=(Sc.take st 18 H).least-1 by
   show _=(if 18=18 then(if st.base=-1 then(st.fo:Int)else st.base+1)else st.least)-1
   rw[eT rfl,aQ.out,eQ (by omega)];omega)
  have ah:=eu (aF.out.Mc base);have aJ:=eu (jE bX.out 6 (.int .i64 base));have ay:=eu (iC (fu a W2) (fC a) 6 (.int .i64 base));have HT3:=eu ((HT.out W2 HB2.out).low ay.out hab);have aK:=eu (bg.out _ (by rw[ag.out];exact ah.out.c.1) ah.out.c.2.1 (by rw[aA.out];exact ah.out.c.2.2.2.1) HT3.out);clear z2;go_wp2_with fail
  refine aK.out.mono ?_;rintro e W4 ⟨rfl,hb4⟩;have bC:=eu (ah.out.below hb4);have bD:=eu (show Row W4 a v l from fI aJ.out hb4);have bE:=eu (((aU.out W2 HB2.out).trans ay.out).trans (hb4.mono (uX ah.out.lt)));have HA:=eu (HAdd.out W4 v base T (by omega) (by rw[aQ.out,aT.out,aA.out];exact bC.out) bD.out);clear hb4 ah aJ ay HT3 aK c0 c1 c2 c3 c4 f6;go_wp2_with fail
  refine HA.out.mono ?_;rintro e w5 ⟨rfl,hA⟩;have hBl:Below a W4 w5:=by obtain⟨v2,bF,-,-,hB2,-⟩:=hA;exact hB2
  have HD:=eu (show zD L az a B n p w (.returned (.tuple #[])) w5 from⟨rfl,T,by
   rw[<-av.out];rw[<-av.out]at hA
   exact lL.on HG.out bS.out aR.out HC.out hA (by decide) bB.out,bE.out.trans hBl,by have:=av.out;omega,by have:=av.out;have:=bz.out;omega⟩)
  clear hA hBl HA;go_wp2_with fail
  go_end0
  rw[ag.out];exact HD.out
 obtain rfl:H=0:=by omega
 by_cases zR:R<0
 ·have HP:=af.out W2 HB2.out 22 1 (p+1) (Sc.Kn _ _ _ ai.out aH.out bA.out (λh=>zH (bn.out.1 h)) (by rw[bU.out];exact iO zR)) rfl rfl;rw[show((p+1:Nat):Int)=(p:Int)+1 from by omega]at HP;have ae:=eu HP;have gR:R<0:=zR
  clear HP zH zR aG;go_wp2_with fail
  refine ae.out.mono ?_;rintro e w3 ⟨rfl,h⟩;have HD:=eu (HFin.out W2 HB2.out w3 _ h);clear h;go_wp2_with fail
  go_end0
  rw[ag.out];exact HD.out
 have gR:¬R<0:=zR
 have dB:=eu (λW3 hb3=>af.out W3 hb3 15 _ PN (Sc.DC _ _ _ ai.out aH.out bA.out (λh=>zH (bn.out.1 h)) (by rw[bU.out];exact iF zR)) rfl dw.out);clear zH zR aG;go_wp2_with fail
 refine(bP.out W2 HB2.out).mono ?_;rintro e W3 ⟨rfl,hb3⟩;have HB3:=eu (HB2.out.trans (hb3.mono HB2.out.size));have ae:=eu (dB.out W3 HB3.out);clear hb3;go_wp2_with fail
 refine ae.out.mono ?_;rintro e w3 ⟨rfl,h⟩;have HD:=eu (HFin.out W3 HB3.out w3 _ h);clear h;go_wp2_with fail
 go_end0
 rw[ag.out];exact HD.out
end
section
open Go.RowKit
open Sg
open Sq
theorem GN(op:Nat)(dash blank:Bool)(r:List Nat)(h:0<Sc.mark r):Sc.next op dash blank true r=(Sc.mark r,3):=by
 unfold Sc.next;rw[eT ⟨rfl,h⟩]
theorem Kr(D:List Nat):Sc.markT D=0\/Sc.markT D=20\/Sc.markT D=21:=by
 rw[<-Sc.nI];unfold Sc.mark
 (repeat' split)<;>simp
def IA(w:World)(a':Option Addr)(cap n:Nat)(L:List Nat):Prop:=n=0\/∃b off,a'=some ⟨b,off,none⟩/\b<w.heap.size/\r9 w b off L/\n<=cap/\cap<=maxLen
theorem IA.of{w:World}{v:Value}{s:ByteArray}(h:ou w v s):∃a' cap,v=.slice a' s.size cap/\IA w a' cap s.size (Sc.fP s):=by
 rcases h with⟨h1,h2⟩|⟨b,off,cap,h1,h2,h3,h4⟩
 ·exact⟨none,0,by rw[h1,h2],.inl h2⟩
 by_cases h0:s.size=0
 ·exact⟨_,_,h1,.inl h0⟩
 refine⟨_,_,h1,.inr ⟨b,off,rfl,lt_of_cell (h4 0 (by omega)),λj c hj=>?_,h2,h3⟩⟩;have hl:j<s.size:=by
  have:=(fT.1 hj).1
  rwa [Sc.ll]at this
 have:=Sc.uD s j;rw[jS,hj]at this;rw[h4 j hl,<-this];rfl
theorem Ng(v:Value)(s:ByteArray)(w:World)(hv:ou w v s):
 Calls prog 23 #[v] w (Gives (Sc.fP s) w):=by
 have hmx:=hv.size_le;simp only[maxLen]at hmx;have hln:=Sc.ll s;have hlt:=Sc.Ml s;obtain⟨a',cap,rfl,hH⟩:=IA.of hv;obtain⟨L,hL⟩:=eX (Sc.fP s);obtain⟨n,hn⟩:=eX (s.size);rw[hL]at hln hlt hH⊢;rw[hn]at hln hH hmx⊢;clear hv hL hn;by_cases hlong:16384<n
 ·have hI:(16384:Int)<(n:Int):=by omega
  have hE:Sc.tokens L=[]:=by rw[Sc.uH,eT (by rw[hln];exact hlong)]
  have HD:=eu (show Gives L w (.returned (.slice none 0 0)) w from⟨_,rfl,by rw[hE];exact Cy w _ _ _,fu _ _⟩);clear hE hln hlt hH
  go_enter func23,ntmps23
  go_wp2_with fail
  go_ret;exact HD.out
 have hI:¬((16384:Int)<(n:Int)):=by omega
 obtain⟨aa,ae⟩:=eX (Sc.tokens L);have hG0:Sc.qB L aa [] 0 (-1) 0:=⟨by rw[<-ae,Sc.uH,eQ (by rw[hln];omega)];rfl,fC _,ji _,gG _⟩
 have aC:=eu (hG0.row (by simp[Sc.isText]));obtain⟨aD,HH,HN,aR⟩:=jk ae hH hln hlt;obtain⟨B,hB⟩:=eX (Value.slice a' n cap);have aZ:=eu hB;have hm:n<=16384:=by omega
 clear hG0 ae hH hln hlt hlong hB
 go_enter func23,ntmps23
 go_wp2_with fail
 have hM0:lM (w.alloc (.cells #[.slice a' n cap,.int .i64 0,.int .i64 0,.int .i64 0,.int .i64 0,.bool false,.int .i64 (-2),.slice none 0 0] 79)) w.heap.size (.slice a' n cap) (.slice none 0 0) 0 0 0 0 (-2) false:=qj w _;have af:=eu hM0;have HB0:=eu (eZ w (.cells #[.slice a' n cap,.int .i64 0,.int .i64 0,.int .i64 0,.int .i64 0,.bool false,.int .i64 (-2),.slice none 0 0] 79));clear hM0;refine(wW _ _ _ _ _ _ _ _ _ _ af.out).mono ?_;rintro e W0 ⟨rfl,hW0⟩;have aF:=eu (show lM W0 w.heap.size (.slice a' n cap) (.slice none 0 0) (0:Nat) (0:Nat) (0:Nat) (-1) (-2) true by rw[hW0];exact((af.out.set2 0).Ma (-1)).Mb true);have aj:=eu (show Below w.heap.size w W0 by rw[hW0];exact iC (iC (iC HB0.out (fC _) 2 _) (fC _) 4 _) (fC _) 5 _);have ak:=eu (show lL L aa w.heap.size (.slice a' n cap) W0 0 from lL.fresh aF.out (Cy _ _ _ _) aC.out);clear af HB0 hW0 aF aC hI;go_wp2_with fail
 go_loopg [] n (λgf wr=>∃p:Nat,Hid (lL L aa w.heap.size (.slice a' n cap) wr p)/\Hid (Below w.heap.size w wr)/\p<=n/\n<=p+gf)
 case atStart=>exact⟨0,ak,aj,gG _,by omega⟩
 case round=>
  obtain⟨p,ay,ah,hpn,hgf⟩:=hrel;obtain⟨v1,row,l,st,hM,hO,hG,hc⟩:=ay.out;have c1:=hM.c.2.1;have c2:=hM.c.2.2.1;have c7:=hM.c.2.2.2.2.2.2.2;clear ak aj;by_cases hlt:p<n
  ·obtain⟨g',rfl⟩:∃g',gk=g'+1:=⟨gk-1,by omega⟩
   have i1:(p:Int)<(n:Int):=by omega
   rcases HH.out with h0|⟨b,off,rfl,hbw,hT,hcap,hcm⟩
   ·omega
   have HT:=eu (hT.low ah.out hbw);have HM:=eu (λW (hb:Below wr.heap.size wr W)=>hM.below hb);have HO:=eu (λW (hb:Below wr.heap.size wr W)=>show Row W w.heap.size v1 l from fI hO hb);have ai:=eu (λW (hb:Below wr.heap.size wr W)=>show Below w.heap.size w W from ah.out.wP (fC _) (hb.mono (uX hM.lt)));obtain⟨HG,HC⟩:=fD hG hc;obtain⟨F,hF⟩:=eX ((st.fo==0));have aS:((p:Int)==(row:Int))=F:=by rw[<-hF,uj];simp;omega
   have HF:=eu hF;obtain⟨mk,hmk⟩:=eX ((if F=true then Sc.markT (L.drop p)else 0));have ag:=eu hmk;clear hM hO hG hc hT hF hmk c7 ay;go_upto_region 7 with fail
   go_cut [28] (λq wx=>q=.bool F/\Below wr.heap.size wr wx)
   case first=>
    cases F;all_goals
     go_wp2_with fail
     go_big_quiet (fail)
     have hbq:=gB (fu wr.heap.size wr) nq;go_wp2_with fail
     go_meet
     exact⟨rfl,hbq⟩
   case rest=>
   obtain⟨rfl,hb1⟩:=hcut;have c1:=fe hb1 c1;have HB1:=eu hb1;clear hb1 aS c2;generalize wc=W1 at*
   go_upto_if 28 with fail
   go_cut [4] (λq wx=>q=.int .i64 mk/\W1=wx)
   case first=>
    cases F with
    |true=>
     have hmm:=NY (w:=W1) (a:=w.heap.size) (b:=b) (off:=off) (cap:=cap) p HN.out hm hlt (HM.out W1 HB1.out).c.1 (HT.out.below HB1.out);rw[show Sc.markT (L.drop p)=mk by have:=ag.out;rw[eT rfl]at this;exact this]at hmm;have aT:=eu hmm;clear hmm;go_wp2_with fail
     refine aT.out.mono ?_;rintro e w2 ⟨rfl,rfl⟩;go_wp2_with fail
     go_meet
     exact⟨rfl,rfl⟩
    |false=>
     have hm0:mk=0:=by have:=ag.out;rw[eQ (by simp)]at this;exact this.symm
     have af:=eu hm0;clear hm0;go_wp2_with fail
     go_meet
     exact⟨by rw[af.out];rfl,rfl⟩
   case rest=>
   obtain⟨rfl,rfl⟩:=hcut;by_cases hmp:0<mk
   ·have gm:(0:Int)<(mk:Int):=by omega
    have az:F=true:=by
     cases F with
     |true=>rfl
     |false=>have:=ag.out;rw[eQ (by simp)]at this;omega
    have hmt:Sc.markT (L.drop p)=mk:=by have:=ag.out;rw[eT az]at this;exact this
    have hk:=Kr (L.drop p);rw[hmt]at hk;have hrn:Sc.gL (L.drop p)≠0:=by
     intro e;have h1:=Sc.wM (Sc.fO (L.drop p)) (by rw[Sc.nI,hmt];exact hmp);rw[Sc.iV]at h1;omega
    have aG:=eu (show Sc.next st.op st.dash st.blank (st.fo==0) (Sc.fO (L.drop p))=(mk,3)by rw[HF.out,az,GN _ _ _ _ (by rw[Sc.nI,hmt];exact hmp),Sc.nI,hmt]);have aU:=eu hrn;have aV:=eu (show Sc.opens st.op mk=0 by unfold Sc.opens;rw[eQ (by omega),eQ (by omega),eT (by omega)]);have HK:=eu (show mk≠19/\mk≠18 by omega);have hon:=HG.out.on hrn aG.out;have hrl:=Sc.kC (L.drop p);rw[iq,HN.out]at hrl;have hp3:p+3<=n:=by have:=hon.2.2;omega
    have aH:=eu (by
     have:=yB mk (p+3) st.fo p row st.op st.base (st.least-1) st.dash w.heap.size (.slice (some ⟨b,off,none⟩) n cap) v1 l W1 (HM.out W1 HB1.out) (HO.out W1 HB1.out) HC.out (by omega) (by omega) (by have:=HG.out.len;omega) HG.out.base.1;rw[show((p+3:Nat):Int)=(p:Int)+3 from by omega]at this
     exact this)
    clear hon hrl hrn hk hmt az hmp;go_wp2_with fail
    refine aH.out.mono ?_;rintro e w2 ⟨rfl,hA⟩;have HA:=eu hA;obtain⟨v2,aW,hM2,-,hB2,-⟩:=hA;have c3:=hM2.c.2.2.2.1;have f3:=hM2.f 3
    have HR:=eu (show lL L aa w.heap.size (.slice (some ⟨b,off,none⟩) n cap) (w2.setCell ⟨w.heap.size,3,none⟩ (.int .i64 0)) (p+3)from lL.on HG.out aU.out aG.out HC.out (HA.out.open_ 0 (by rw[aV.out];rfl)) HK.out.1 (by
     show _=(if mk=18 then(if st.base=-1 then(st.fo:Int)else st.base+1)else st.least)-1
     rw[eQ HK.out.2]))
    have HB2:=eu (iC ((ai.out W1 HB1.out).trans hB2) (fC _) 3 (.int .i64 0));clear hM2 hB2 HA aH;go_wp2_with fail
    go_roundg g'
    case measure=>omega
    case rel=>exact⟨p+3,HR,HB2,hp3,by omega⟩
   obtain rfl:mk=0:=by omega
   have aA:=eu (PL w.heap.size b off cap n p row L aa l v1 st W1 HN.out hm hbw hlt (HT.out.below HB1.out) (HM.out W1 HB1.out) (HO.out W1 HB1.out) HG.out HC.out (by
    intro hcz;have:=ag.out;rw[eT (by rw[<-HF.out,hcz];rfl)]at this
    exact this))
   have aX:=eu (ai.out W1 HB1.out);go_wp2_with fail
   refine aA.out.mono ?_;rintro e w2 (⟨rfl,p',h1,h2,h3,h4⟩|⟨rfl,hb2,⟨c,t,hd,hbr,hbl⟩,hnx⟩)
   ·have HR:=eu h1;have HB2:=eu (aX.out.trans h2);clear h1 h2 aA;go_wp2_with fail
    go_roundg g'
    case measure=>omega
    case rel=>exact⟨p',HR,HB2,h4,by omega⟩
   have HB2:=eu (HB1.out.trans (hb2.mono HB1.out.size));obtain⟨HD,HX,aI,aJ⟩:=jk hd hnx hbr hbl;have aB:=eu (Kl w.heap.size b off cap n p row c t L aa l v1 st w2 HN.out hm (HT.out.below HB2.out) hd hbr (HM.out w2 HB2.out) (HO.out w2 HB2.out) HG.out HC.out hnx);have aK:=eu (ai.out w2 HB2.out);clear hb2 hd hbr hbl hnx aA;go_wp2_with fail
   refine aB.out.mono ?_;rintro e w3 (⟨rfl,p',h1,h2,h3,h4⟩|⟨rfl,hb3,aL,av,aM,ax,aN⟩)
   ·have HR:=eu h1;have HB3:=eu (aK.out.trans h2);clear h1 h2 aB;go_wp2_with fail
    go_roundg g'
    case measure=>omega
    case rel=>exact⟨p',HR,HB3,h4,by omega⟩
   have HB3:=eu (HB2.out.trans (hb3.mono HB2.out.size));have aO:=eu (QV w.heap.size b off cap n p row c t L aa l v1 st w3 HN.out hm hbw hcap hcm aR.out (HT.out.below HB3.out) HD.out aI.out aJ.out (HM.out w3 HB3.out) (HO.out w3 HB3.out) HG.out HC.out HX.out aL av aM ax aN);have aP:=eu (ai.out w3 HB3.out);clear hb3 aL av aM ax aN aB;go_wp2_with fail
   refine aO.out.mono ?_;rintro e w4 ⟨rfl,p',h1,h2,h3,h4⟩;obtain⟨HR,aY⟩:=fD h1 (aP.out.trans h2);clear h1 h2 aO;go_wp2_with fail
   go_roundg g'
   case measure=>omega
   case rel=>exact⟨p',HR,aY,h4,by omega⟩
  have i1:¬((p:Int)<(n:Int)):=by omega
  have aQ:l=aa:=by
   have h:=hG.tot;rw[nM (by rw[HN.out];omega),Sc.uG,kH]at h;exact h
  have HD:=eu (show Gives L w (.returned v1) wr from⟨v1,rfl,by rw[aD.out,<-aQ];exact iK hO (Au _),ah.out⟩);clear aQ hM hO hG hc ay ah aD c2;go_wp2_with fail
  go_ret;exact HD.out
end
end Go.Proofs.YtfbiffdmhcjhbaaGreat

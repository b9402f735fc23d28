import Derived.Test.YtfbiffdmhcjhbaaGreatZa15
import Derived.Test.YtfbiffdmhcjhbaaGreatZa17
set_option linter.all false
set_option maxHeartbeats 16000000
set_option maxRecDepth 100000
set_option synthInstance.maxSize 4000
set_option synthInstance.maxHeartbeats 0
namespace Go.Proofs.YtfbiffdmhcjhbaaGreat
open Go.RowKit Tryz
section
open Go.RowKit
open Sq
open Ar
open Fl (Tk raw kd jh cnt ends opens gF gM begins back blanks fq pair item gI key pI iN jW)
def VG(l:List Tk)(d:Nat):Prop:=∀(w0 w:World)(rb:Nat)(tv:Value)(e:Nat)(s:Fl.St)(R:Nat->Prop)(up p:Nat)(b:Int),GS w0 w rb tv e l s R->Ck s.t l.length->Fits s.t p b up->Fe.Lf s.t->Fe.No s.t up->b<=p+1->p<=e->
 s.t.length+2*(e-p)<=600000000000->s.d.length+(e-p)<=600000000000->
 Calls prog 81 #[RG rb,.int .i64 up,.int .i64 p,.int .i64 d] w (fU w0 w rb tv e l R (.tuple #[.int .i64 (gI l e d up p s).1,.int .i64 ((gI l e d up p s).2.1:Nat)]) (gI l e d up p s).2.2)
theorem GS.node{w0 w:World}{rb:Nat}{tv:Value}{e:Nat}{l:List Tk}{s:Fl.St}{R:Nat->Prop}(h:GS w0 w rb tv e l s R){c:Nat}{x:Nd}(hx:s.t[c]?=some x):
 ∃g cap,w.cell? ⟨rb,1,none⟩=some (.slice (some ⟨g,0,none⟩) s.t.length cap)/\w.cell? ⟨g,c*6,none⟩=some (.int .i64 x.k):=by
 obtain⟨nv,dv,L,hM,hL,rfl⟩:=h;have hLn:L.length=s.t.length:=by rw[<-hL,nP]
 have hc:=(fT.1 hx).1;obtain⟨p,hp⟩:=iT L c (by omega);have hpx:p.nd=x:=by
  have h1:s.t[c]?=some p.nd:=by rw[<-hL,nO,hp];rfl
  rw[hx]at h1;exact(jF h1).symm
 obtain⟨g,cap,aa,-,-,-,-⟩:=jG hM.nodes.row (by omega);subst aa;refine⟨g,cap,hLn▸hM.cell 1 _ rfl,?_⟩;have:=hM.nodes.row.cells (g:=g) rfl _ _ ((ky nR L c p hp 0 (by decide)).trans rfl);rw[iy,j5,sO,hpx]at this;exact this
theorem QQ(l:List Tk)(d:Nat)(HV:VG l d)(aP:d<=1000)(w0 w:World)(rb:Nat)(tv:Value)(e:Nat)(s:Fl.St)(R:Nat->Prop)(c j:Nat)(b:Int)(x:Nd)(hS:GS w0 w rb tv e l s R)(hck:Ck s.t l.length)(hf:Fits s.t j b c)(hlf:Fe.Lf s.t)(hno:Fe.No s.t c)(hb:b<=j)
 (hj:kd l e j≠0) (ai:0<key l e j\/begins (kd l e j)=true) (hx:s.t[c]?=some x) (hn:s.t.length+2*(e-j)+1<=600000000000) (hd:s.d.length+(e-j)<=600000000000):
 Calls prog 105 #[RG rb,.int .i64 c,.int .i64 j,.int .i64 ((d:Int)+1)] w (fU w0 w rb tv e l R (.int .i64 ((item l e (gI l e d) (x.k==10) c j s).1:Nat)) (item l e (gI l e d) (x.k==10) c j s).2):=by
 have az:=(jW hj).1;have hel:=hS.gt.ends;have hls:=hS.gt.size;have hkey:=Je rb tv e l j w hS.gt (by omega);have gd:IntKind.i64.wrap ((d:Int)+1-1)=(d:Int):=by rw[show(d:Int)+1-1=(d:Int)by omega];exact jC _ (by omega)
 have aQ:IntKind.i64.wrap (d:Int)=(d:Int):=jC _ (by omega);by_cases hq:0<key l e j
 ·obtain⟨q1,q2,q3⟩:=pI (by omega) hq;have hI:item l e (gI l e d) (x.k==10) c j s=(if kd l e (fq l e (key l e j))=0\/kd l e (fq l e (key l e j))=7\/ends (kd l e (fq l e (key l e j)))=true then(key l e j,(pair l s c j (key l e j)).1)else if(gI l e d (pair l s c j (key l e j)).2 (fq l e (key l e j)) (pair l s c j (key l e j)).1).1<0 then(key l e j,(gI l e d (pair l s c j (key l e j)).2 (fq l e (key l e j)) (pair l s c j (key l e j)).1).2.2)else((gI l e d (pair l s c j (key l e j)).2 (fq l e (key l e j)) (pair l s c j (key l e j)).1).2.1,(gI l e d (pair l s c j (key l e j)).2 (fq l e (key l e j)) (pair l s c j (key l e j)).1).2.2)):=by
   unfold item;rw[eT hq]
  rw[hI];clear hI;obtain⟨q,aG⟩:=eX (key l e j);rw[aG]at q1 q2 q3 hq hkey⊢;have hz:=Fe.nG l s c j q q1;have hP:=N5 w0 w rb tv e l s R c j q b hS hck hf hlf hno q1 (by omega) (by omega);obtain⟨s1,a1,a2,_,a5⟩:=Fe.zM l e l.length (by omega) hck hf hlf hno (by omega) q1 q2;rw[a1]at hz hP⊢;dsimp only at hz hP⊢;have ht:=iN (l:=l) (e:=e) (i:=q) q2;obtain⟨X,hX⟩:=eX (fq l e q)
  have ag:=eu (λw1 R1 (h:GS w0 w1 rb tv e l s1 R1)=>show Calls prog 101 #[RG rb,.int .i64 q] w1 λen w'=>en=.returned (.int .i64 (X:Nat))/\w1=w' from by
   have h1:=zT rb tv e l q w1 h.gt (by omega);rw[hX]at h1
   exact h1)
  rw[hX]at ht⊢;obtain⟨K,hK⟩:=eX (kd l e X)
  have ah:=eu (λw1 R1 (h:GS w0 w1 rb tv e l s1 R1)=>show Calls prog 90 #[RG rb,.int .i64 X] w1 λen w'=>en=.returned (.int .i64 (K:Nat))/\w1=w' from by
   have h1:=yA rb tv e l X w1 h.gt;rw[hK]at h1
   exact h1)
  rw[hK];have aA:=eu (λw1=>Ec K w1);obtain⟨M,hM⟩:=eX (s.t.length);have hv:=HV;have aj:=eu (λw1 R1 (h:GS w0 w1 rb tv e l s1 R1)=>HV w0 w1 rb tv e s1 R1 s.t.length X q h a2.ck (a2.fits.le (by omega) (ji _)) a2.lf a2.no (by omega) ht.2 (by omega) (by rw[hz.2];omega));rw[hM]at hP aj⊢;obtain⟨aa,HP⟩:=fD hkey hP;by_cases stop:K=0\/K=7\/ends K=true
  ·rw[eT stop];have HQ:=eu (λW R' (h:GS w0 W rb tv e l s1 R')(h2:FP w W rb R R')=>show fU w0 w rb tv e l R (.int .i64 (q:Nat)) s1 (.returned (.int .i64 (q:Nat))) W from⟨rfl,R',h,h2⟩);obtain⟨Q,hQ⟩:=eX (fU w0 w rb tv e l R (.int .i64 ((q,s1).1:Nat)) (q,s1).2);have aK:fU w0 w rb tv e l R (.int .i64 (q:Nat)) s1=Q:=hQ;rw[hQ];rw[aK]at HQ;have gq:(0:Int)<(q:Int):=by omega
   clear hQ aK hP hkey aj hv a1 a2 a5 hz hM hX hK aG hck hf hlf hno hS hb hj ai hx hn hd az hel HV;have main:∀(a:Bool),ends K=a->(K=0\/K=7\/a=true)->Calls prog 105 #[RG rb,.int .i64 c,.int .i64 j,.int .i64 ((d:Int)+1)] w Q:=by
    intro a ha stop;have HE:=eu (λw1=>show Calls prog 100 #[.int .i64 K] w1 λe w'=>e=.returned (.bool a)/\w1=w' from ha▸aA.out w1);clear aA ha;by_cases k0:K=0
    ·have g1:((K:Int)==0)=true:=by simp;omega
     clear stop k0
     go_enter func105,ntmps105
     go_wp2_with fail
     with_reducible refine aa.out.mono ?_
     rintro e1 w1 ⟨rfl,rfl⟩;go_wp2_with fail
     refine HP.out.mono ?_;rintro e1 w1 ⟨rfl,R1,hS1,hF1⟩;obtain⟨HT1,af,HD⟩:=gW (ag.out w1 R1 hS1) (ah.out w1 R1 hS1) (HQ.out w1 R1 hS1 hF1);clear hS1 hF1 ag ah HQ HP aa;go_wp2_with (first|(with_reducible refine HT1.out.mono ?_;rintro e w1 ⟨rfl,rfl⟩)|(with_reducible refine af.out.mono ?_;rintro e w1 ⟨rfl,rfl⟩))
     exact HD.out
    have g1:((K:Int)==0)=false:=by simp;omega
    by_cases k7:K=7
    ·have g2:((K:Int)==7)=true:=by simp;omega
     clear stop k0 k7
     go_enter func105,ntmps105
     go_wp2_with fail
     with_reducible refine aa.out.mono ?_
     rintro e1 w1 ⟨rfl,rfl⟩;go_wp2_with fail
     refine HP.out.mono ?_;rintro e1 w1 ⟨rfl,R1,hS1,hF1⟩;obtain⟨HT1,af,HD⟩:=gW (ag.out w1 R1 hS1) (ah.out w1 R1 hS1) (HQ.out w1 R1 hS1 hF1);clear hS1 hF1 ag ah HQ HP aa;go_wp2_with (first|(with_reducible refine HT1.out.mono ?_;rintro e w1 ⟨rfl,rfl⟩)|(with_reducible refine af.out.mono ?_;rintro e w1 ⟨rfl,rfl⟩))
     exact HD.out
    have g2:((K:Int)==7)=false:=by simp;omega
    obtain rfl:a=true:=(stop.resolve_left k0).resolve_left k7;clear stop k0 k7
    go_enter func105,ntmps105
    go_wp2_with fail
    with_reducible refine aa.out.mono ?_
    rintro e1 w1 ⟨rfl,rfl⟩;go_wp2_with fail
    refine HP.out.mono ?_;rintro e1 w1 ⟨rfl,R1,hS1,hF1⟩;obtain⟨HT1,af,ax,HD⟩:=jk (ag.out w1 R1 hS1) (ah.out w1 R1 hS1) (HE.out w1) (HQ.out w1 R1 hS1 hF1);clear hS1 hF1 ag ah HQ HP aa HE;go_wp2_with (first|(with_reducible refine HT1.out.mono ?_;rintro e w1 ⟨rfl,rfl⟩)|(with_reducible refine af.out.mono ?_;rintro e w1 ⟨rfl,rfl⟩)|(with_reducible refine ax.out.mono ?_;rintro e w1 ⟨rfl,rfl⟩))
    exact HD.out
   exact main _ rfl stop
  rw[eQ stop];obtain⟨V,hV⟩:=eX (gI l e d M X s1);have ae:=eu (λw1 R1 (h:GS w0 w1 rb tv e l s1 R1)=>show Calls prog 81 #[RG rb,.int .i64 M,.int .i64 X,.int .i64 d] w1 (fU w0 w1 rb tv e l R1 (.tuple #[.int .i64 V.1,.int .i64 (V.2.1:Nat)]) V.2.2)from hV▸aj.out w1 R1 h);rw[hV];obtain⟨v1,v2,v3⟩:=V;dsimp only at ae⊢;have gq:(0:Int)<(q:Int):=by omega
  have k0:K≠0:=λh=>stop (.inl h)
  have k7:K≠7:=λh=>stop (.inr (.inl h))
  have g1:((K:Int)==0)=false:=by simp;omega
  have g2:((K:Int)==7)=false:=by simp;omega
  have ha:ends K=false:=by simpa using(λh=>stop (.inr (.inr h)):¬ends K=true)
  have HE:=eu (λw1=>show Calls prog 100 #[.int .i64 K] w1 λe w'=>e=.returned (.bool false)/\w1=w' from ha▸aA.out w1);by_cases neg:v1<0
  ·rw[eT neg];dsimp only;have HQ:=eu (λW w1 R1 R' (h1:FP w w1 rb R R1)(h:GS w0 W rb tv e l v3 R')(h2:FP w1 W rb R1 R')=>show fU w0 w rb tv e l R (.int .i64 (q:Nat)) v3 (.returned (.int .i64 (q:Nat))) W from⟨rfl,R',h,h1.trans h2⟩);obtain⟨Q,hQ⟩:=eX (fU w0 w rb tv e l R (.int .i64 (q:Nat)) v3);rw[hQ]at HQ⊢;clear hQ hP hkey aj hv a1 a2 a5 hz hM hX hK aG hck hf hlf hno hS hb hj ai hx hn hd az hel HV stop k0 k7 ha aA hV
   go_enter func105,ntmps105
   go_wp2_with fail
   with_reducible refine aa.out.mono ?_
   rintro e1 w1 ⟨rfl,rfl⟩;go_wp2_with fail
   refine HP.out.mono ?_;rintro e1 w1 ⟨rfl,R1,hS1,hF1⟩;obtain⟨HT1,af,ax,ak,av⟩:=xZ (ag.out w1 R1 hS1) (ah.out w1 R1 hS1) (HE.out w1) (ae.out w1 R1 hS1) hF1;clear hS1 hF1 ag ah HP aa HE ae;go_wp2_with (first|(with_reducible refine HT1.out.mono ?_;rintro e w1 ⟨rfl,rfl⟩)|(with_reducible refine af.out.mono ?_;rintro e w1 ⟨rfl,rfl⟩)|(with_reducible refine ax.out.mono ?_;rintro e w1 ⟨rfl,rfl⟩)|fail)
   refine ak.out.mono ?_;rintro e1 w2 ⟨rfl,R2,hS2,hF2⟩;have HD:=eu (HQ.out w2 w1 R1 R2 av.out hS2 hF2);clear hS2 hF2 ak HT1 af ax av HQ;go_wp2_with fail
   exact HD.out
  rw[eQ neg];dsimp only;have HQ:=eu (λW w1 R1 R' (h1:FP w w1 rb R R1)(h:GS w0 W rb tv e l v3 R')(h2:FP w1 W rb R1 R')=>show fU w0 w rb tv e l R (.int .i64 (v2:Nat)) v3 (.returned (.int .i64 (v2:Nat))) W from⟨rfl,R',h,h1.trans h2⟩);obtain⟨Q,hQ⟩:=eX (fU w0 w rb tv e l R (.int .i64 (v2:Nat)) v3);rw[hQ]at HQ⊢;clear hQ hP hkey aj hv a1 a2 a5 hz hM hX hK aG hck hf hlf hno hS hb hj ai hx hn hd az hel HV stop k0 k7 ha aA hV
  go_enter func105,ntmps105
  go_wp2_with fail
  with_reducible refine aa.out.mono ?_
  rintro e1 w1 ⟨rfl,rfl⟩;go_wp2_with fail
  refine HP.out.mono ?_;rintro e1 w1 ⟨rfl,R1,hS1,hF1⟩;obtain⟨HT1,af,ax,ak,av⟩:=xZ (ag.out w1 R1 hS1) (ah.out w1 R1 hS1) (HE.out w1) (ae.out w1 R1 hS1) hF1;clear hS1 hF1 ag ah HP aa HE ae;go_wp2_with (first|(with_reducible refine HT1.out.mono ?_;rintro e w1 ⟨rfl,rfl⟩)|(with_reducible refine af.out.mono ?_;rintro e w1 ⟨rfl,rfl⟩)|(with_reducible refine ax.out.mono ?_;rintro e w1 ⟨rfl,rfl⟩)|fail)
  refine ak.out.mono ?_;rintro e1 w2 ⟨rfl,R2,hS2,hF2⟩;have HD:=eu (HQ.out w2 w1 R1 R2 av.out hS2 hF2);clear hS2 hF2 ak HT1 af ax av HQ;go_wp2_with fail
  exact HD.out
 have hjb:j<=100000:=by omega
 have hq0:key l e j=0:=by omega
 rw[hq0]at hkey;have aa:=eu hkey;have hbg:begins (kd l e j)=true:=ai.resolve_left hq;have hI:item l e (gI l e d) (x.k==10) c j s=(if(x.k==10)=true then((gI l e d (Fl.add s c 6 j (j+1)).2 j ⟨Fl.keyed (Fl.add s c 6 j (j+1)).1.t (Fl.add s c 6 j (j+1)).2,(Fl.add s c 6 j (j+1)).1.d⟩).2.1,(gI l e d (Fl.add s c 6 j (j+1)).2 j ⟨Fl.keyed (Fl.add s c 6 j (j+1)).1.t (Fl.add s c 6 j (j+1)).2,(Fl.add s c 6 j (j+1)).1.d⟩).2.2)else((gI l e d c j s).2.1,(gI l e d c j s).2.2)):=by
  unfold item;rw[eQ hq]
 rw[hI];clear hI;obtain⟨g,cap,n1,n0⟩:=hS.node hx;have hcl:=(fT.1 hx).1;have aL:(c:Int)<(s.t.length:Int):=by omega
 cases ay:(x.k==10)with
 |true=>
  rw[eT rfl];obtain⟨s1,a1,_,a3,⟨x1,a4,a5⟩,a6⟩:=Fe.iW (kind:=6) (Fe.Ok.start (l:=l) (p0:=j) hck hf hlf hno) (f:=j) (t:=j+1) (by omega) (by omega) (by omega) (by omega) (by omega);have a1:Fl.add s c 6 j (j+1)=(s1,(s.t.length:Int)):=a1;have hadd:addN s.t c 6 j (j+1:Nat)=(s1.t,(s.t.length:Int)):=by
   have e1:=congrArg (λx=>x.1.t) a1;have e2:=congrArg Prod.snd a1;exact Prod.ext e1 e2
  have aB:s1.d=s.d:=by have e1:=congrArg (λx=>x.1.d) a1;exact e1.symm
  have hlen1:s1.t.length<=s.t.length+1:=by have h:=Fe.mf s.t c 6 j (j+1:Nat);rw[hadd]at h;exact h
  have hA:=Im w0 w rb tv e l s R c 6 j (j+1:Nat) hS (jD.of hck (by omega)) (zC hadd);rw[hadd]at hA;dsimp only at hA;rw[<-aB,show((j+1:Nat):Int)=(j:Int)+1 from by omega]at hA;rw[a1];dsimp only;have d3:=Fe.l9 (s.t.length:Int) a3;have hkl:=(Fl.lQ s1.t (s.t.length:Int)).1;have hM2:s.t.length<s1.t.length:=a3.fits.lt
  have aH:=eu (λw1 R1 (h:GS w0 w1 rb tv e l s1 R1)=>Jd w0 w1 rb tv e l s1 R1 s.t.length h hM2 (by omega));obtain⟨s2,hs2⟩:∃s2:Fl.St,(⟨Fl.keyed s1.t (s.t.length:Int),s1.d⟩:Fl.St)=s2:=⟨_,rfl⟩
  rw[hs2]at d3 aH⊢;have aM:s2.t.length=s1.t.length:=by rw[<-hs2];exact hkl
  have aJ:s2.d=s.d:=by rw[<-hs2];exact aB
  have aj:=eu (λw1 R1 (h:GS w0 w1 rb tv e l s2 R1)=>HV w0 w1 rb tv e s2 R1 s.t.length j (j+1:Nat) h d3.ck (d3.fits.le (ji _) (by omega)) d3.lf d3.no (by omega) (by omega) (by omega) (by rw[aJ];omega));obtain⟨M,hM⟩:=eX (s.t.length);rw[hM]at hA aH aj n1 aL⊢;obtain⟨V,hV⟩:=eX (gI l e d M j s2);have ae:=eu (λw1 R1 (h:GS w0 w1 rb tv e l s2 R1)=>show Calls prog 81 #[RG rb,.int .i64 M,.int .i64 j,.int .i64 d] w1 (fU w0 w1 rb tv e l R1 (.tuple #[.int .i64 V.1,.int .i64 (V.2.1:Nat)]) V.2.2)from hV▸aj.out w1 R1 h);rw[hV];obtain⟨v1,v2,v3⟩:=V;dsimp only at ae⊢;have HA:=eu hA;have gk:(x.k==10)=true:=ay;have HQ:=eu (λW w1 w2 R1 R2 R' (h1:FP w w1 rb R R1)(h2:FP w1 w2 rb R1 R2)(h:GS w0 W rb tv e l v3 R')(h3:FP w2 W rb R2 R')=>show fU w0 w rb tv e l R (.int .i64 (v2:Nat)) v3 (.returned (.int .i64 (v2:Nat))) W from⟨rfl,R',h,(h1.trans h2).trans h3⟩);obtain⟨Q,hQ⟩:=eX (fU w0 w rb tv e l R (.int .i64 (v2:Nat)) v3);rw[hQ]at HQ⊢;obtain⟨XK,aC⟩:=eX (x.k);rw[aC]at n0 gk;clear hQ hA hkey aj a1 a3 a4 a5 a6 d3 hM hck hf hlf hno hS hb hj ai hx hn hd az hel HV hV hq hq0 hbg hadd aB hlen1 hkl hM2 hs2 aM aJ ay hcl aC
  go_enter func105,ntmps105
  go_wp2_with fail
  with_reducible refine aa.out.mono ?_
  rintro e1 w1 ⟨rfl,rfl⟩;go_wp2_with fail
  refine HA.out.mono ?_;rintro e1 w1 ⟨rfl,R1,hS1,hF1⟩;obtain⟨aN,av⟩:=fD (aH.out w1 R1 hS1) hF1;clear hS1 hF1 aH HA aa;go_wp2_with fail
  refine aN.out.mono ?_;rintro e1 w2 ⟨rfl,R2,hS2,hF2⟩;obtain⟨ak,aO⟩:=fD (ae.out w2 R2 hS2) hF2;clear hS2 hF2 aN ae;go_wp2_with fail
  refine ak.out.mono ?_;rintro e1 w3 ⟨rfl,R3,aD,aF⟩;have HD:=eu (HQ.out w3 w1 w2 R1 R2 R3 av.out aO.out aD aF);clear aD aF ak av aO HQ;go_wp2_with fail
  exact HD.out
 |false=>
  rw[eQ (by decide)];have aI:=HV w0 w rb tv e s R c j b hS hck hf hlf hno (by omega) (by omega) (by omega) (by omega);obtain⟨V,hV⟩:=eX (gI l e d c j s);rw[hV]at aI⊢;obtain⟨v1,v2,v3⟩:=V;dsimp only at aI⊢;have ae:=eu aI;have gk:(x.k==10)=false:=ay;have HQ:=eu (λW R' (h:GS w0 W rb tv e l v3 R')(h3:FP w W rb R R')=>show fU w0 w rb tv e l R (.int .i64 (v2:Nat)) v3 (.returned (.int .i64 (v2:Nat))) W from⟨rfl,R',h,h3⟩);obtain⟨Q,hQ⟩:=eX (fU w0 w rb tv e l R (.int .i64 (v2:Nat)) v3);rw[hQ]at HQ⊢;obtain⟨XK,aC⟩:=eX (x.k);rw[aC]at n0 gk;obtain⟨M,hM⟩:=eX (s.t.length);rw[hM]at n1 aL;clear hQ hkey aI hM hck hf hlf hno hS hb hj ai hx hn hd az hel HV hV hq hq0 hbg ay hcl aC
  go_enter func105,ntmps105
  go_wp2_with fail
  with_reducible refine aa.out.mono ?_
  rintro e1 w1 ⟨rfl,rfl⟩;go_wp2_with fail
  refine ae.out.mono ?_;rintro e1 w3 ⟨rfl,R3,aD,aF⟩;have HD:=eu (HQ.out w3 R3 aD aF);clear aD aF ae HQ;go_wp2_with fail
  exact HD.out
end
section
open Go.RowKit
open Sq
open Ar
open Fl (Tk raw kd jh cnt ends opens gF gM begins back blanks fq pair item gI key iN jW jB jr rz vF tJ nE)
theorem lh{t:List Nd}{up k f u:Int}(h:(addN t up k f u).2=(t.length:Int)):iL t up k f u=true:=zC (r:=(addN t up k f u).1) (by rw[<-h])
structure CI(l:List Tk)(e d c op:Nat)(xk:Int)(Z:Nat×Fl.St)(p:Nat)(h:Bool)(s:Fl.St):Prop where
 ck:Ck s.t l.length
 fits:Fits s.t p p c
 lf:Fe.Lf s.t
 no:Fe.No s.t c
 lo:op<p
 hi:p<=e
 el:e<=l.length
 cn:cnt (raw l (p-1))=true
 kd:∃x,s.t[c]?=some x/\x.k=xk
 sz:s.t.length+2*(e-p)+1<=600000000000
 dz:s.d.length+(e-p)+1<=600000000000
 run:∃g,e+1<=g+p/\jB l e (gI l e d) c op g p h s=Z
section
variable {l:List Tk}{e d c op p:Nat}{xk:Int}{Z:Nat×Fl.St}{hv:Bool}{s:Fl.St}
theorem CI.ok(h:CI l e d c op xk Z p hv s):Fe.Ok l op l.length c s p p s:=.start h.ck h.fits h.lf h.no
theorem CI.next(h:CI l e d c op xk Z p hv s){p':Nat}{h':Bool}{s1:Fl.St}(o:Fe.Ok l op l.length c s p' p' s1)(hp:p<p')(he:p'<=e)(hc:cnt (raw l (p'-1))=true)
 (hz:s1.t.length<=s.t.length+2*(p'-p)) (hd:s1.d.length<=s.d.length+(p'-p)) (run:∀g,jB l e (gI l e d) c op (g+1) p hv s=jB l e (gI l e d) c op g p' h' s1):CI l e d c op xk Z p' h' s1:=by
 obtain⟨x,k1,k2⟩:=h.kd;obtain⟨x',k3,k4,_⟩:=o.keep.2 c x k1;obtain⟨g,g1,g2⟩:=h.run;obtain⟨g',rfl⟩:∃g',g=g'+1:=⟨g-1,by have:=h.hi;omega⟩
 have h1:=h.sz;have h2:=h.dz;have h3:=h.lo;exact⟨o.ck,o.fits,o.lf,o.no,by omega,he,h.el,hc,⟨x',k3,k4.trans k2⟩,by omega,by omega,g',by omega,by rw[<-run g'];exact g2⟩
theorem CI.at_(h:CI l e d c op xk Z p hv s)(hk:Fl.kd l e (fq l e p)≠0):p<=fq l e p/\fq l e p<e/\raw l (fq l e p)=Fl.kd l e (fq l e p)/\cnt (raw l (fq l e p))=true:=by
 have h1:=iN (l:=l) (e:=e) (i:=p) h.hi;have h2:=jW hk;refine⟨h1.1,h2.1,h2.2,?_⟩;have:=nE (λj=>!cnt (raw l j)) (e-p) p;have hi:=h.hi
 change fq l e p=_\/(λj=>!cnt (raw l j)) (fq l e p)=false at this
 rcases this with h3|h3
 ·omega
 simpa using h3
theorem CI.unfold(h:CI l e d c op xk Z p hv s):∃g,jB l e (gI l e d) c op (g+1) p hv s=Z:=by
 obtain⟨g,g1,g2⟩:=h.run;obtain⟨g',rfl⟩:∃g',g=g'+1:=⟨g-1,by have:=h.hi;omega⟩
 exact⟨g',g2⟩
theorem kL(l:List Tk)(e:Nat)(val:Int->Nat->Fl.St->Int×Nat×Fl.St)(c:Int)(op g p:Nat)(hv:Bool)(s:Fl.St):jB l e val c op (g+1) p hv s=
 (if Fl.kd l e (fq l e p)=0 then(back l p (op+1),(⟨s.t,s.d++[⟨9,Fl.pF l op,Fl.too l op⟩]⟩:Fl.St))
 else if Fl.kd l e (fq l e p)=(if raw l op=9 then 11 else 10)then(fq l e p+1,⟨gJ s.t c ((fq l e p+1:Nat):Int),s.d⟩)
 else if ends (Fl.kd l e (fq l e p))=true then jB l e val c op g (fq l e p+1) hv (Fl.err l s c (fq l e p) (fq l e p+1) 8)
 else if Fl.kd l e (fq l e p)=7 then
  if hv=true then jB l e val c op g (fq l e p+1) false ⟨gJ s.t c ((fq l e p+1:Nat):Int),s.d⟩
  else jB l e val c op g (fq l e p+1) hv (Fl.err l s c (fq l e p) (fq l e p+1) 8)
 else if hv=true then jB l e val c op g (jr l e (fq l e p)) hv (Fl.err l s c (fq l e p) (jr l e (fq l e p)) 8)
 else if 0<key l e (fq l e p)\/begins (Fl.kd l e (fq l e p))=true then jB l e val c op g (item l e val (raw l op==9) c (fq l e p) s).1 true (item l e val (raw l op==9) c (fq l e p) s).2
 else jB l e val c op g (fq l e p+1) hv (Fl.err l s c (fq l e p) (fq l e p+1) 8)):=rfl
theorem CI.QR(h:CI l e d c op xk Z p hv s)(hk:Fl.kd l e (fq l e p)=0):Z=(p,⟨s.t,s.d++[⟨9,Fl.pF l op,Fl.too l op⟩]⟩)/\back l p (op+1)=p:=by
 obtain⟨g,hg⟩:=h.unfold;have hb:=rz l p (op+1) (by have:=h.lo;omega) h.cn;rw[kL,eT hk,hb]at hg;exact⟨hg.symm,hb⟩
theorem CI.grow(h:CI l e d c op xk Z p hv s)(hk:Fl.kd l e (fq l e p)≠0):ku s.t c ((fq l e p+1:Nat):Int)=true:=by
 have ha:=h.at_ hk;have:=h.el;exact Bo h.ck h.fits.lt (by omega)
theorem CI.err(h:CI l e d c op xk Z p hv s)(hk:Fl.kd l e (fq l e p)≠0){t:Nat}(h1:fq l e p<t)(h2:t<=e):Fe.Ok l op l.length c s t t (Fl.err l s c (fq l e p) t 8)/\iL s.t c 11 (fq l e p) t=true:=by
 have ha:=h.at_ hk;have hl:=h.el;have hlo:=h.lo;have h3:=Fe.jL (code:=8) h.ok (f:=fq l e p) (t:=t) (by omega) h1 (by omega) (by omega) (by omega) (by omega) (by omega);exact⟨h3.1.le (ji _) (by omega),lh h3.2⟩
theorem CI.QS(h:CI l e d c op xk Z p hv s)(hk:Fl.kd l e (fq l e p)=(if raw l op=9 then 11 else 10)):Z=(fq l e p+1,⟨gJ s.t c ((fq l e p+1:Nat):Int),s.d⟩):=by
 obtain⟨g,hg⟩:=h.unfold;have h0:Fl.kd l e (fq l e p)≠0:=by rw[hk];split<;>omega
 rw[kL,eQ h0,eT hk]at hg;exact hg.symm
theorem CI.bad(h:CI l e d c op xk Z p hv s)(hk:Fl.kd l e (fq l e p)≠0)(run:∀g,jB l e (gI l e d) c op (g+1) p hv s=jB l e (gI l e d) c op g (fq l e p+1) hv (Fl.err l s c (fq l e p) (fq l e p+1) 8)):
 CI l e d c op xk Z (fq l e p+1) hv (Fl.err l s c (fq l e p) (fq l e p+1) 8):=by
 have ha:=h.at_ hk;have hz:=Fe.lZ l s c (fq l e p) (fq l e p+1) 8;exact h.next (h.err hk (by omega) (by omega)).1 (by omega) (by omega) (by rw[lJ];exact ha.2.2.2) (by omega) (by omega) run
theorem CI.more(h:CI l e d c op xk Z p hv s)(hk:Fl.kd l e (fq l e p)≠0)(run:∀g,jB l e (gI l e d) c op (g+1) p hv s=jB l e (gI l e d) c op g (fq l e p+1) false ⟨gJ s.t c ((fq l e p+1:Nat):Int),s.d⟩):
 CI l e d c op xk Z (fq l e p+1) false ⟨gJ s.t c ((fq l e p+1:Nat):Int),s.d⟩:=by
 have ha:=h.at_ hk;have hl:=h.el;have hz:(gJ s.t c ((fq l e p+1:Nat):Int)).length=s.t.length:=Fe.oO _ _ _;exact h.next (Fe.nX h.ok (by omega) (by omega) (by omega)) (by omega) (by omega) (by rw[lJ];exact ha.2.2.2) (jN (kZ hz) (by omega)) (by show s.d.length<=_;omega) run
theorem CI.second(h:CI l e d c op xk Z p true s)(hk:Fl.kd l e (fq l e p)≠0)(he:ends (Fl.kd l e (fq l e p))=false)(h7:Fl.kd l e (fq l e p)≠7)(hm:Fl.kd l e (fq l e p)≠(if raw l op=9 then 11 else 10)):
 CI l e d c op xk Z (jr l e (fq l e p)) true (Fl.err l s c (fq l e p) (jr l e (fq l e p)) 8)/\fq l e p<jr l e (fq l e p)/\jr l e (fq l e p)<=e:=by
 have ha:=h.at_ hk;have hz:=Fe.lZ l s c (fq l e p) (jr l e (fq l e p)) 8;obtain⟨t1,t2,t3⟩:=tJ hk ha.2.2.2 h7 he;exact⟨h.next (h.err hk t1 t2).1 (by omega) t2 t3 (by omega) (by omega) (λg=>by rw[kL,eQ hk,eQ hm,eQ (by rw[he];decide),eQ h7,eT rfl]),t1,t2⟩
theorem CI.item(h:CI l e d c op xk Z p false s)(hk:Fl.kd l e (fq l e p)≠0)(he:ends (Fl.kd l e (fq l e p))=false)(h7:Fl.kd l e (fq l e p)≠7)(hm:Fl.kd l e (fq l e p)≠(if raw l op=9 then 11 else 10))(hb:0<key l e (fq l e p)\/begins (Fl.kd l e (fq l e p))=true):
 CI l e d c op xk Z (Fl.item l e (gI l e d) (raw l op==9) c (fq l e p) s).1 true (Fl.item l e (gI l e d) (raw l op==9) c (fq l e p) s).2/\fq l e p<(Fl.item l e (gI l e d) (raw l op==9) c (fq l e p) s).1:=by
 have ha:=h.at_ hk;have hl:=h.el;have hlo:=h.lo;obtain⟨next,s',i1,i2,i3,i4,i5,i6,i7⟩:=Fe.Ez l e l.length (by omega) _ (Fe.rf l e l.length (by omega) d) (raw l op==9) (c:=c) (j:=fq l e p) h.ck (h.fits.le (by omega) (ji _)) h.lf h.no (by omega) hk hb;have run:∀g,jB l e (gI l e d) c op (g+1) p false s=jB l e (gI l e d) c op g next true s':=λg=>by rw[kL,eQ hk,eQ hm,eQ (by rw[he];decide),eQ h7,eQ (by decide),eT hb,i1]
 rw[i1];dsimp only;exact⟨h.next (p':=next) (s1:=s') (i5.low (by omega)) (by omega) i3 i4 (by omega) (by omega) run,i2⟩
end
theorem GS.grow{w0 w:World}{rb:Nat}{tv:Value}{e:Nat}{l:List Tk}{s:Fl.St}{R:Nat->Prop}(h:GS w0 w rb tv e l s R)(i t:Int)(hr:jD s.t)(hm:ku s.t i t=true):
 ∃nv,w.cell? ⟨rb,1,none⟩=some nv/\Calls prog 70 #[.agg #[nv],.int .i64 i,.int .i64 t] w (λen w'=>∃ua un uc,en=.returned (.agg #[.slice ua un uc])/\w'.cell? ⟨rb,1,none⟩=some nv/\w'.frozen? ⟨rb,1,none⟩=false/\
  ∃R',GS w0 (w'.setCell ⟨rb,1,none⟩ (.slice ua un uc)) rb tv e l ⟨gJ s.t i t,s.d⟩ R'/\FP w (w'.setCell ⟨rb,1,none⟩ (.slice ua un uc)) rb R R'):=by
 obtain⟨nv,dv,L,hM,hL,rfl⟩:=h;refine⟨nv,hM.cell 1 _ rfl,?_⟩;have hN:iR w nv s.t:=hL▸hM.nodes.nodes;have hA:=QL nv s.t i t w hN hr.good (jN hr.len (by decide)) (λx hx=>jN (hr.kids x hx) (by decide));rw[hm]at hA;refine hA.mono ?_;rintro e1 w1 ⟨u,rfl,aa,hO,hb⟩;obtain⟨ua,uc,rfl⟩:=aa.shape;obtain⟨L',hL',ae⟩:=hO rfl;obtain⟨af,ag⟩:=hM.toTree hb (ae.base hM.kE.size);exact⟨ua,_,uc,rfl,fe hb (hM.cell 1 _ rfl),(hM.below hb).free 1,_,⟨_,dv,L',af,hL',rfl⟩,ag⟩
end
namespace Rw
def jP(ts:List Tk):Nat:=match jd ts with
 |none=>1
 |some x=>if si x.1=true then 4 else 5
theorem J3(b:Bool)(ts:List Tk):kindOf b ts=if iQ ts=19 then 2 else if b=true/\jP ts≠4 then 3 else jP ts:=by
 unfold kindOf jP;split
 ·rfl
 cases jd ts with
 |none=>cases b<;>rfl
 |some x=>
  dsimp only;by_cases hm:si x.1=true<;>cases b<;>simp[hm]
theorem Gm(l:List Tk)(fr i:Nat)(x:Tk)(h:l[fr+i]?=some x):(l.drop fr).take (i+1)=(l.drop fr).take i++[x]:=by
 rw[LM,qT,h];rfl
theorem Dx(l:List Tk)(fr i:Nat)(y:Tk)(h:l[fr]?=some y)(hi:0<i):qA ((l.drop fr).take i)=y.2.1:=by
 have hf:=(fT.1 h).1;have e:l[fr]=y:=(fT.1 h).2;obtain⟨j,rfl⟩:∃j,i=j+1:=⟨i-1,by omega⟩
 rw[sM hf,e,vR];rfl
theorem Dy(l:List Tk)(fr i:Nat)(y:Tk)(h:l[fr]?=some y)(hi:0<i):iQ ((l.drop fr).take i)=y.1:=by
 have hf:=(fT.1 h).1;have e:l[fr]=y:=(fT.1 h).2;obtain⟨j,rfl⟩:∃j,i=j+1:=⟨i-1,by omega⟩
 rw[sM hf,e,vR];rfl
theorem Gn(ts:List Tk)(x:Tk):jP (ts++[x])=if(jd ts).isNone=true/\Sc.counts x.1=true then(if si x.1=true then 4 else 5)else jP ts:=by
 unfold jP;rw[vg];cases jd ts with
 |some y=>simp
 |none=>
  dsimp only;by_cases hc:Sc.counts x.1=true
  ·rw[eT hc,eT ⟨rfl,hc⟩]
  rw[eQ hc,eQ (λh=>hc h.2)]
theorem kL(ts:List Tk)(x:Tk):ni (ts++[x])=if(jd ts).isNone=true/\Sc.counts x.1=true then(x.2.1:Int)-(qA (ts++[x]):Int)else ni ts:=by
 unfold ni;rw[vg];cases hf:jd ts with
 |some y=>
  have hne:ts≠[]:=λe=>by rw[e]at hf;cases hf
  have:qA (ts++[x])=qA ts:=by
   cases ts with
   |nil=>exact absurd rfl hne
   |cons z r=>rfl
  simp[this]
 |none=>
  dsimp only;by_cases hc:Sc.counts x.1=true
  ·rw[eT hc,eT ⟨rfl,hc⟩]
  rw[eQ hc,eQ (λh=>hc h.2)]
theorem M3{p:Nat}{ts:List Tk}(h:jl p ts):(ni ts<0)↔(jd ts).isNone=true:=by
 have:=Pg h;cases hf:jd ts with
 |none=>rw[hf]at this;simp at this;simp;omega
 |some x=>rw[hf]at this;simp at this;simp;omega
theorem J4(l:List Tk)(fr i:Nat)(hi:0<i)(h:∀j x,j+1<i->l[fr+j]?=some x->ends x=false)(hn:fr+i=l.length\/∃x,l[fr+i-1]?=some x/\ends x=true):kG (l.drop fr)=i:=by
 refine Mq _ i hi (λj x hj hx=>h j x hj (by rw[qT]at hx;exact hx)) ?_;rcases hn with h1|⟨x,h1,h2⟩
 ·left;rw[iq];omega
 right;refine⟨x,?_,h2⟩;rw[qT,show fr+(i-1)=fr+i-1 by omega];exact h1
theorem Gp(l:List Tk)(op fr:Nat)(h:fr<l.length):oz op fr (l.drop fr)=
 ⟨kindOf (decide (0<op)) ((l.drop fr).take (kG (l.drop fr))),fr,fr+kG (l.drop fr),ni ((l.drop fr).take (kG (l.drop fr)))⟩::oz (ql op ((l.drop fr).take (kG (l.drop fr)))) (fr+kG (l.drop fr)) (l.drop (fr+kG (l.drop fr))):=by
 rw[vk op fr (l.drop fr) (by intro e;have:=congrArg List.length e;rw[iq]at this;simp at this;omega),lH]
theorem Gq(l:List Tk)(op fr:Nat)(h:l.length<=fr):oz op fr (l.drop fr)=[]:=by
 rw[nM h];rfl
theorem M4(l:List Tk)(n:Nat)(h:∀j x,j<n->l[j]?=some x->Sc.counts x.1=false)(hn:n=l.length\/∃x,l[n]?=some x/\Sc.counts x.1=true):ik l=n:=by
 induction l generalizing n with
 |nil=>
  rcases hn with h1|⟨x,h1,_⟩
  ·exact h1.symm
  simp at h1
 |cons y r ih=>
  rw[ik];cases n with
  |zero=>
   rcases hn with h1|⟨x,h1,h2⟩
   ·simp at h1
   obtain rfl:y=x:=by simpa using h1
   rw[eT h2]
  |succ n=>
   rw[eQ (by rw[h 0 y (by omega) rfl];decide),ih n (λj x hj hx=>h (j+1) x (by omega) (by simpa using hx)) (by
    rcases hn with h1|⟨x,h1,h2⟩
    ·left;rw[gy]at h1;omega
    right;exact⟨x,by simpa using h1,h2⟩)]
theorem yR:∀(f g:Nat)(l:List Tk),l.length<=f->l.length<=g->jU f l=jU g l/\jw f l=jw g l
 |0,g,l=>λh _=>by
  obtain rfl:l=[]:=oD (by omega);cases g with
  |zero=>exact⟨rfl,rfl⟩
  |succ g=>rw[jU,jU,jw,jw];exact⟨by rw[eQ (by decide)],by rw[eQ (by decide)]⟩
 |f+1,0,l=>λ_ h=>by
  obtain rfl:l=[]:=oD (by omega);rw[jU,jU,jw,jw];exact⟨by rw[eQ (by decide)],by rw[eQ (by decide)]⟩
 |f+1,g+1,l=>λh1 h2=>by
  rw[jU,jU,jw,jw];by_cases hk:iQ l=5
  ·rw[eT hk,eT hk,eT hk,eT hk];have ih:=yR f g (l.drop (blanks (l.drop 1)+1)) (by rw[iq];omega) (by rw[iq];omega);rw[ih.1,ih.2];exact⟨rfl,rfl⟩
  rw[eQ hk,eQ hk,eQ hk,eQ hk];exact⟨rfl,rfl⟩
theorem yS:∀(f g:Nat)(l:List Tk),l.length<=f->l.length<=g->l7 f l=l7 g l
 |0,g,l=>λh _=>by
  obtain rfl:l=[]:=oD (by omega);cases g with
  |zero=>rfl
  |succ g=>rw[l7,l7,eQ (by decide)]
 |f+1,0,l=>λ_ h=>by
  obtain rfl:l=[]:=oD (by omega);rw[l7,l7,eQ (by decide)]
 |f+1,g+1,l=>λh1 h2=>by
  rw[l7,l7];by_cases hk:isProp (iQ l)=true
  ·rw[eT hk,eT hk,yS f g _ (by rw[iq];omega) (by rw[iq];omega)]
  rw[eQ hk,eQ hk]
theorem Gr(l:List Tk)(h:iQ l=5):jU l.length l=0::(jU (l.drop (blanks (l.drop 1)+1)).length (l.drop (blanks (l.drop 1)+1))).map (·+(blanks (l.drop 1)+1))/\jw l.length l=jw (l.drop (blanks (l.drop 1)+1)).length (l.drop (blanks (l.drop 1)+1))+(blanks (l.drop 1)+1):=by
 have hne:=rD l 5 h (by decide);cases hl:l.length with
 |zero=>exact absurd (oD hl) hne
 |succ f=>
  rw[jU,jw,eT h,eT h];have:=yR f (l.drop (blanks (l.drop 1)+1)).length (l.drop (blanks (l.drop 1)+1)) (by rw[iq];omega) (fC _);rw[this.1,this.2];exact⟨rfl,rfl⟩
theorem Gs(l:List Tk)(h:iQ l≠5):jU l.length l=[]/\jw l.length l=0:=by
 cases hl:l.length with
 |zero=>exact⟨rfl,rfl⟩
 |succ f=>rw[jU,jw,eQ h,eQ h];exact⟨rfl,rfl⟩
theorem Gt(l:List Tk)(h:isProp (iQ l)=true):l7 l.length l=l7 (l.drop (blanks (l.drop 1)+1)).length (l.drop (blanks (l.drop 1)+1))+(blanks (l.drop 1)+1):=by
 have hne:l≠[]:=λe=>by rw[e]at h;exact absurd h (by decide)
 cases hl:l.length with
 |zero=>exact absurd (oD hl) hne
 |succ f=>rw[l7,eT h,yS f (l.drop (blanks (l.drop 1)+1)).length _ (by rw[iq];omega) (fC _)]
theorem Gu(l:List Tk)(h:isProp (iQ l)=false):l7 l.length l=0:=by
 cases hl:l.length with
 |zero=>rfl
 |succ f=>rw[l7,eQ (by rw[h];decide)]
end Rw
namespace Ft
open Ar Fl
def pre(d0:List Dg)(s:St):St:=⟨s.t,d0++s.d⟩
theorem EV(d0:List Dg)(s:St)(up:Int)(k f t:Nat):add (pre d0 s) up k f t=(pre d0 (add s up k f t).1,(add s up k f t).2):=rfl
theorem tC(d0:List Dg)(l:List Tk)(s:St)(up:Int)(f t code:Nat):err l (pre d0 s) up f t code=pre d0 (err l s up f t code):=by
 unfold err pre;dsimp only;rw[lT]
theorem J5(d0:List Dg)(l:List Tk)(s:St)(c:Int)(j q:Nat):pair l (pre d0 s) c j q=(pre d0 (pair l s c j q).1,(pair l s c j q).2):=by
 unfold pair;dsimp only;split
 ·rfl
 rfl
def VP(v:Int->Nat->St->Int×Nat×St):Prop:=∀d0 up p s,v up p (pre d0 s)=((v up p s).1,(v up p s).2.1,pre d0 (v up p s).2.2)
theorem EW(l:List Tk)(e:Nat)(fo:Option (Int->Nat->St->Nat×St))(h:∀k,fo=some k->∀d0 c op s,k c op (pre d0 s)=((k c op s).1,pre d0 (k c op s).2)):VP (vU l e fo):=by
 intro d0 up p s;unfold vU;dsimp only;obtain⟨o,ho⟩:=eX ((lead l e (e-blanks l e p) none (blanks l e p)).1);obtain⟨i,hi⟩:=eX ((lead l e (e-blanks l e p) none (blanks l e p)).2);rw[ho,hi];obtain⟨k,hk⟩:=eX (kd l e i);rw[hk];by_cases c1:k=13
 ·rw[eT c1,eT c1];rfl
 rw[eQ c1,eQ c1];by_cases c2:gF k=true
 ·rw[eT c2,eT c2];rfl
 rw[eQ c2,eQ c2];by_cases c3:k=18
 ·rw[eT c3,eT c3];rfl
 rw[eQ c3,eQ c3];by_cases c4:opens k=true
 ·rw[eT c4,eT c4];cases aa:fo with
  |none=>
   dsimp only;rw[tC];rfl
  |some q=>
   dsimp only;rw[EV];dsimp only;rw[h q aa]
 rw[eQ c4,eQ c4];cases o with
 |none=>rfl
 |some x=>rfl
theorem J6(l:List Tk)(e:Nat)(v:Int->Nat->St->Int×Nat×St)(hv:VP v)(aa:Bool)(d0:List Dg)(c:Int)(j:Nat)(s:St):
 item l e v aa c j (pre d0 s)=((item l e v aa c j s).1,pre d0 (item l e v aa c j s).2):=by
 unfold item;dsimp only;by_cases h:0<key l e j
 ·rw[eT h,eT h,J5];dsimp only;by_cases h2:kd l e (fq l e (key l e j))=0\/kd l e (fq l e (key l e j))=7\/ends (kd l e (fq l e (key l e j)))=true
  ·rw[eT h2,eT h2]
  rw[eQ h2,eQ h2,hv];dsimp only;by_cases h3:(v (pair l s c j (key l e j)).2 (fq l e (key l e j)) (pair l s c j (key l e j)).1).1<0
  ·rw[eT h3,eT h3]
  rw[eQ h3,eQ h3]
 rw[eQ h,eQ h];cases aa with
 |true=>
  rw[eT rfl,eT rfl,EV];dsimp only;have:(⟨keyed (pre d0 (add s c 6 j (j+1)).1).t (add s c 6 j (j+1)).2,(pre d0 (add s c 6 j (j+1)).1).d⟩:St)=pre d0 ⟨keyed (add s c 6 j (j+1)).1.t (add s c 6 j (j+1)).2,(add s c 6 j (j+1)).1.d⟩:=rfl;rw[this,hv]
 |false=>
  rw[eQ (by decide),eQ (by decide),hv]
theorem pY(l:List Tk)(e:Nat)(v:Int->Nat->St->Int×Nat×St)(hv:VP v)(d0:List Dg)(c:Int)(op:Nat):∀(g p:Nat)(hd:Bool)(s:St),
 jB l e v c op g p hd (pre d0 s)=((jB l e v c op g p hd s).1,pre d0 (jB l e v c op g p hd s).2)
 |0,p,hd,s=>rfl
 |g+1,p,hd,s=>by
  rw[jB,jB];obtain⟨j,hj⟩:=eX (fq l e p);rw[hj];obtain⟨k,hk⟩:=eX (kd l e j);rw[hk];by_cases k0:k=0
  ·rw[eT k0,eT k0];unfold pre;dsimp only;rw[lT]
  rw[eQ k0,eQ k0];by_cases k1:k=(if raw l op=9 then 11 else 10)
  ·rw[eT k1,eT k1];rfl
  rw[eQ k1,eQ k1];by_cases k2:ends k=true
  ·rw[eT k2,eT k2,tC];exact pY l e v hv d0 c op g _ _ _
  rw[eQ k2,eQ k2];by_cases k3:k=7
  ·rw[eT k3,eT k3];by_cases k4:hd=true
   ·rw[eT k4,eT k4];exact pY l e v hv d0 c op g _ _ ⟨gJ s.t c ((j+1:Nat):Int),s.d⟩
   rw[eQ k4,eQ k4,tC];exact pY l e v hv d0 c op g _ _ _
  rw[eQ k3,eQ k3];by_cases k4:hd=true
  ·rw[eT k4,eT k4,tC];exact pY l e v hv d0 c op g _ _ _
  rw[eQ k4,eQ k4];by_cases k5:0<key l e j\/begins k=true
  ·rw[eT k5,eT k5,J6 l e v hv];exact pY l e v hv d0 c op g _ _ _
  rw[eQ k5,eQ k5,tC];exact pY l e v hv d0 c op g _ _ _
theorem Bp(l:List Tk)(e:Nat):∀d:Nat,VP (gI l e d)
 |0=>EW l e none (λk h=>by cases h)
 |d+1=>EW l e _ (λk h d0 c op s=>by
  injection h with h
  subst h
  exact pY l e _ (Bp l e d) d0 c op (e-op) (op+1) false s)
theorem J7(l:List Tk)(e d p:Nat)(up:Int)(s:St):gI l e d up p s=((gI l e d up p ⟨s.t,[]⟩).1,(gI l e d up p ⟨s.t,[]⟩).2.1,⟨(gI l e d up p ⟨s.t,[]⟩).2.2.t,s.d++(gI l e d up p ⟨s.t,[]⟩).2.2.d⟩):=by
 have:=Bp l e d s.d up p ⟨s.t,[]⟩;unfold pre at this;rw[kH]at this;exact this
theorem J8{l:List Tk}{e:Nat}{n:Int}{up:Nat}(hn:(e:Int)<=n)(d p:Nat)(b:Int)(s:St)(hck:Ck s.t n)(hf:Fits s.t p b up)(hb:b<=p+1)(hpe:p<=e):
 (gI l e d up p s).2.2.t.length<=s.t.length+2*((gI l e d up p s).2.1-p)/\(gI l e d up p s).2.1<=e/\p<=(gI l e d up p s).2.1:=by
 rw[J7];dsimp only;rcases J2 (l:=l) hn d p b hck hf hb hpe with⟨h1,_⟩|⟨next,s',ps',h1,_,h3,h4,_,_,_,_,_,h10,_⟩
 ·rw[h1];dsimp only;omega
 rw[h1];dsimp only;omega
end Ft
end Go.Proofs.YtfbiffdmhcjhbaaGreat

import Derived.Test.YtmkkdjpebbdikaaGreatDoorZn19
import Derived.Test.YtmkkdjpebbdikaaGreatDoorZn20
set_option linter.all false
set_option maxHeartbeats 16000000
set_option maxRecDepth 100000
namespace Go.Proofs.YtmkkdjpebbdikaaGreatDoor
open Go.RowKit Go.Proofs.Tryz
namespace Fl
open Ar
theorem CW(l:List Tk)(e:Nat):∀(f g:Nat)(o:Option (Nat×Nat))(i:Nat),e<=i+f->e<=i+g->lead l e f o i=lead l e g o i
 |0,0,o,i=>λ_ _=>rfl
 |0,g+1,o,i=>λh _=>by
  rw[lead,lead,eX];have:kd l e i=0:=by unfold kd;rw[eY (.inl (by omega))]
  rw[this];decide
 |f+1,0,o,i=>λ_ h=>by
  rw[lead,lead,eX];have:kd l e i=0:=by unfold kd;rw[eY (.inl (by omega))]
  rw[this];decide
 |f+1,g+1,o,i=>λh1 h2=>by
  rw[lead,lead];by_cases hp:gW (kd l e i)=true
  ·rw[eY hp,eY hp];have h0:kd l e i≠0:=λh=>by rw[h]at hp;exact absurd hp (by decide)
   have:=j6 (l:=l) (e:=e) (i:=i+1) (jc h0).1;exact CW l e f g _ _ (by omega) (by omega)
  rw[eX hp,eX hp]
def Rb(l:List Tk)(i0 h m:Nat)(O:Option (Nat×Nat))(I:Nat):Prop:=
 i0<=h/\h<=l.length/\m<=h/\((m=i0/\h=i0/\lead l l.length (l.length-h) none h=(O,I))\/(i0<m/\lead l l.length (l.length-h) (some (i0,m-1)) h=(O,I)))
theorem Rb.start{l:List Tk}{i0:Nat}(h:i0<=l.length){O:Option (Nat×Nat)}{I:Nat}(hl:lead l l.length (l.length-i0) none i0=(O,I)):Rb l i0 i0 i0 O I:=⟨fB _,h,fB _,.inl ⟨rfl,rfl,hl⟩⟩
theorem Rb.next{l:List Tk}{i0 h m:Nat}{O:Option (Nat×Nat)}{I:Nat}(hv:Rb l i0 h m O I)(hp:gW (kd l l.length h)=true):Rb l i0 (blanks l l.length (h+1)) (h+1) O I/\h<blanks l l.length (h+1):=by
 obtain⟨h1,h2,h3,h4⟩:=hv;have h0:kd l l.length h≠0:=λh=>by rw[h]at hp;exact absurd hp (by decide)
 have hl:=(jc h0).1;have hb:=j6 (l:=l) (e:=l.length) (i:=h+1) hl;have hst:∀o,lead l l.length (l.length-h) o h=lead l l.length (l.length-blanks l l.length (h+1)) (some (kL o h,h)) (blanks l l.length (h+1)):=λo=>by
  rw[show l.length-h=(l.length-(h+1))+1 by omega,lead,eY hp];exact CW l l.length _ _ _ _ (by omega) (by omega)
 refine⟨⟨by omega,hb.2,hb.1,.inr ⟨by omega,?_⟩⟩,by omega⟩;rw[jH];rcases h4 with⟨_,e2,h4⟩|⟨_,h4⟩
 ·rw[hst]at h4;have:kL none h=i0:=e2;rw[this]at h4;exact h4
 rw[hst]at h4;exact h4
theorem Rb.stop{l:List Tk}{i0 h m:Nat}{O:Option (Nat×Nat)}{I:Nat}(hv:Rb l i0 h m O I)(hp:gW (kd l l.length h)=false):I=h/\((m=i0/\O=none/\h=i0)\/(i0<m/\O=some (i0,m-1)))/\kL O I=i0:=by
 have hst:∀o,lead l l.length (l.length-h) o h=(o,h):=λo=>by
  cases hf:l.length-h with
  |zero=>rfl
  |succ f=>rw[lead,eX (by simp[hp])]
 obtain⟨h1,h2,h3,h4⟩:=hv;rcases h4 with⟨e1,e2,h4⟩|⟨e1,h4⟩
 ·rw[hst]at h4;injection h4 with a b
  subst a b;exact⟨rfl,.inl ⟨e1,rfl,e2⟩,e2⟩
 rw[hst]at h4;injection h4 with a b
 subst a b;exact⟨rfl,.inr ⟨e1,rfl⟩,rfl⟩
def YS(l:List Tk)(e:Nat):Nat->Option (Nat->Nat->fV->Nat×fV)
 |0=>none
 |d+1=>some (λc op s=>iI l e (iC l e d) c op (e-op) (op+1) false s)
theorem Qu(l:List Tk)(e d:Nat):iC l e d=yD l e (YS l e d):=by
 cases d<;>rfl
end Fl
section
open Go.RowKit
open Sq
open Ar
open Fl (kx)
def Nz(rb p d i0 h m:Nat)(up:Int)(a:Act):Prop:=a.defers=[]/\a.tmps.size=82/\a.tmps.getD 0 undef=RP rb/\a.tmps.getD 1 undef=.int .i64 up/\a.tmps.getD 2 undef=.int .i64 p/\a.tmps.getD 3 undef=.int .i64 d/\a.tmps.getD 4 undef=undef/\a.tmps.getD 5 undef=undef/\a.tmps.getD 6 undef=undef/\a.tmps.getD 7 undef=undef/\a.tmps.getD 8 undef=.int .i64 0/\a.tmps.getD 9 undef=.int .i64 i0/\a.tmps.getD 10 undef=.int .i64 h/\a.tmps.getD 11 undef=.int .i64 m
theorem Nz.is{rb p d i0 h m:Nat}{up:Int}{a:Act}(hl:Nz rb p d i0 h m up a):∃u:Nat->Value,a={tmps:=#[RP rb,.int .i64 up,.int .i64 p,.int .i64 d,undef,undef,undef,undef,.int .i64 0,.int .i64 i0,.int .i64 h,.int .i64 m,u 12,u 13,u 14,u 15,u 16,u 17,u 18,u 19,u 20,u 21,u 22,u 23,u 24,u 25,u 26,u 27,u 28,u 29,u 30,u 31,u 32,u 33,u 34,u 35,u 36,u 37,u 38,u 39,u 40,u 41,u 42,u 43,u 44,u 45,u 46,u 47,u 48,u 49,u 50,u 51,u 52,u 53,u 54,u 55,u 56,u 57,u 58,u 59,u 60,u 61,u 62,u 63,u 64,u 65,u 66,u 67,u 68,u 69,u 70,u 71,u 72,u 73,u 74,u 75,u 76,u 77,u 78,u 79,u 80,u 81],defers:=[]}:=by
 obtain⟨t,df⟩:=a;obtain⟨h1,h2,g0,g1,g2,g3,g4,g5,g6,g7,g8,g9,g10,g11⟩:=hl;dsimp only at h1 h2 g0 g1 g2 g3 g4 g5 g6 g7 g8 g9 g10 g11;subst h1;refine⟨λk=>t.getD k undef,?_⟩;have h3:=zm t 82 h2;have h4:(List.range 82).map (λk=>t.getD k undef)=[t.getD 0 undef,t.getD 1 undef,t.getD 2 undef,t.getD 3 undef,t.getD 4 undef,t.getD 5 undef,t.getD 6 undef,t.getD 7 undef,t.getD 8 undef,t.getD 9 undef,t.getD 10 undef,t.getD 11 undef,t.getD 12 undef,t.getD 13 undef,t.getD 14 undef,t.getD 15 undef,t.getD 16 undef,t.getD 17 undef,t.getD 18 undef,t.getD 19 undef,t.getD 20 undef,t.getD 21 undef,t.getD 22 undef,t.getD 23 undef,t.getD 24 undef,t.getD 25 undef,t.getD 26 undef,t.getD 27 undef,t.getD 28 undef,t.getD 29 undef,t.getD 30 undef,t.getD 31 undef,t.getD 32 undef,t.getD 33 undef,t.getD 34 undef,t.getD 35 undef,t.getD 36 undef,t.getD 37 undef,t.getD 38 undef,t.getD 39 undef,t.getD 40 undef,t.getD 41 undef,t.getD 42 undef,t.getD 43 undef,t.getD 44 undef,t.getD 45 undef,t.getD 46 undef,t.getD 47 undef,t.getD 48 undef,t.getD 49 undef,t.getD 50 undef,t.getD 51 undef,t.getD 52 undef,t.getD 53 undef,t.getD 54 undef,t.getD 55 undef,t.getD 56 undef,t.getD 57 undef,t.getD 58 undef,t.getD 59 undef,t.getD 60 undef,t.getD 61 undef,t.getD 62 undef,t.getD 63 undef,t.getD 64 undef,t.getD 65 undef,t.getD 66 undef,t.getD 67 undef,t.getD 68 undef,t.getD 69 undef,t.getD 70 undef,t.getD 71 undef,t.getD 72 undef,t.getD 73 undef,t.getD 74 undef,t.getD 75 undef,t.getD 76 undef,t.getD 77 undef,t.getD 78 undef,t.getD 79 undef,t.getD 80 undef,t.getD 81 undef]:=rfl;rw[h4,g0,g1,g2,g3,g4,g5,g6,g7,g8,g9,g10,g11]at h3;exact congrArg (λt=>({tmps:=t,defers:=[]}:Act)) h3
theorem OC(w0:World)(rb:Nat)(tv:Value)(l:List Tk)(d:Nat)(hT:nO l)(hds:d<=1000)(hV:∀d',d=d'+1->KV w0 rb tv l d'):KV w0 rb tv l d:=by
 intro w up p s R hS hu1 hu2 hp hz;have hR:=hS.rt;have hls:=hR.size;have hb0:=Fl.j6 (l:=l) hp;have HB0:=eZ (hR.blank p hp);obtain⟨RES,aA⟩:=fq (Fl.iC l l.length d up p s);rw[aA];rw[Fl.Qu]at aA;unfold Fl.yD at aA;dsimp only at aA;obtain⟨i0,hi0⟩:=fq (Fl.blanks l l.length p);rw[hi0]at aA HB0 hb0;obtain⟨OI,aM⟩:=fq (Fl.lead l l.length (l.length-i0) none i0);obtain⟨O,I⟩:=OI;rw[aM]at aA;dsimp only at aA;obtain⟨aN,aJ,ag⟩:=jF (Fl.Rb.start hb0.2 aM) aA hT;have HK:=eZ (λj (hj:j<=l.length)=>hR.kind j hj);have aK:=eZ (λj (hj:j<=l.length)=>hR.blank j hj);have ah:=eZ (λk f t=>Nu w0 w rb tv l s R up k f t hS hu1 hu2 hz.room);have aB:=eZ (λi (hi:i<l.length) hk=>Wt rb tv l i w hR hT hi hk);have ax:=eZ (λi ho=>CE rb tv l i w hR hT ho);have ay:=eZ (λf t (hf:f<l.length)(h0:0<t)(ht:t<=l.length)=>Ov w0 w rb tv l s R up 10 f t hS hu1 hu2 hz.room (by have:=hz.d;omega) hf h0 ht);have az:=eZ (λd' (hd:d=d'+1) op (h1:p<=op)(h2:op<l.length)(hk:Fl.raw l op=8\/Fl.raw l op=9)=>G5 w0 w rb tv l d' s R (hV d' hd) hT up i0 op hS hu1 hu2 (hz.on h1 (by omega)) h2 hk (by omega));have hpi:=hb0.1;obtain⟨Q,hQ⟩:=fq (Goes w0 w rb tv l R (.int .i64 RES.1) RES.2);have HQ:=eZ (fun(w3:World)(t:Nat)(s':Fl.fV)(he:(t,s')=RES)(h:∃R',RS w0 w3 rb tv l s' R'/\FP w w3 rb R R')=>show Q (.returned (.int .i64 t)) w3 by rw[<-hQ,<-he];exact⟨rfl,h⟩);have aC:=eZ (show(p,s)=RES->Q (.returned (.int .i64 p)) w from λhe=>by rw[<-hQ,<-he];exact⟨rfl,R,hS,FP.refl w rb R⟩);rw[hQ];obtain⟨aD,aF,ak⟩:=jF hls hds hpi;clear hV hT hds hS hu1 hu2 hp hz hR hls hb0 hi0 aM aA hQ hpi
 go_enter func131,ntmps131
 go_wp2;refine qG 0 (λa' w'=>w'=w/\∃(h m:Nat),Nz rb p d i0 h m up a'/\Hid (Fl.Rb l i0 h m O I)) (λa' _=>l.length-(intOf (a'.tmps.getD 10 undef)).toNat) rfl ?_ ?_
 ·rintro a' w' ⟨rfl,h,m,hlive,aI⟩;obtain⟨u,rfl⟩:=hlive.is;have HI0:=eZ (show p<=i0/\i0<=h from⟨ak.out,aI.out.1⟩);clear hlive HB0 aN;have hls:=aD.out;have hds:=aF.out;have aO:=aI.out.2.1;have hcall:=HK.out h aO;have hkd:=Fl.B5 aO;have hk0:=Iu ag.out h;have hkl:kx l h≠21->h<l.length:=λh2=>by
   unfold Fl.kx at h2;split at h2
   ·assumption
   exact absurd rfl h2
  have hraw:kx l h≠20->kx l h≠21->Fl.raw l h=kx l h:=λh1 h2=>by
   have:=Fl.jc (l:=l) (e:=l.length) (i:=h) (by rw[hkd,eX (λh=>h.elim h1 h2)];exact hk0);rw[this.2,hkd,eX (λh=>h.elim h1 h2)]
  obtain⟨K,hK⟩:=fq (kx l h);rw[hK]at hcall hkd hk0 hkl hraw;have H1:=eZ hcall;have aZ:h<=100000:=by omega
  obtain⟨aG,ai,aj,av⟩:=oN hk0 hkd hkl hraw;clear hcall hK hkd hk0 hkl hraw hls;by_cases aS:K=12
  ·subst aS;have hp2:Fl.gW (Fl.kd l l.length h)=true:=by rw[ai.out];rfl
   have aH:=aj.out (by decide);obtain⟨hn1,hn2⟩:=aI.out.next hp2;have H2:=aK.out (h+1) (by omega);obtain⟨t,ht⟩:=fq (Fl.blanks l l.length (h+1));rw[ht]at hn1 hn2 H2;rw[show((h+1:Nat):Int)=(h:Int)+1 from by omega]at H2;obtain⟨H2,HJ⟩:=fT H2 hn1;have aT:=hn1.2.1;clear HK aK ah aB ax ay az HQ aC aJ aI ag aD aF ak aG ai aj av hp2 hn1 ht hds;go_wp2_with fail
   refine H1.out.mono ?_;rintro e wi ⟨rfl,rfl⟩;go_wp2_with fail
   refine H2.out.mono ?_;rintro e wi ⟨rfl,rfl⟩;go_wp2_with fail
   go_step3
   refine⟨rfl,⟨rfl,t,h+1,⟨rfl,rfl,rfl,rfl,rfl,rfl,rfl,rfl,rfl,rfl,rfl,rfl,rfl,rfl⟩,HJ⟩,?_⟩;show l.length-((t:Nat):Int).toNat<l.length-((h:Nat):Int).toNat
   omega
  have g12:((K:Int)==12)=false:=by simp;omega
  by_cases aU:K=14
  ·subst aU;have hp2:Fl.gW (Fl.kd l l.length h)=true:=by rw[ai.out];rfl
   have aH:=aj.out (by decide);obtain⟨hn1,hn2⟩:=aI.out.next hp2;have H2:=aK.out (h+1) (by omega);obtain⟨t,ht⟩:=fq (Fl.blanks l l.length (h+1));rw[ht]at hn1 hn2 H2;rw[show((h+1:Nat):Int)=(h:Int)+1 from by omega]at H2;obtain⟨H2,HJ⟩:=fT H2 hn1;have aT:=hn1.2.1;clear HK aK ah aB ax ay az HQ aC aJ aI ag aD aF ak aG ai aj av hp2 hn1 ht hds;go_wp2_with fail
   refine H1.out.mono ?_;rintro e wi ⟨rfl,rfl⟩;go_wp2_with fail
   refine H2.out.mono ?_;rintro e wi ⟨rfl,rfl⟩;go_wp2_with fail
   go_step3
   refine⟨rfl,⟨rfl,t,h+1,⟨rfl,rfl,rfl,rfl,rfl,rfl,rfl,rfl,rfl,rfl,rfl,rfl,rfl,rfl⟩,HJ⟩,?_⟩;show l.length-((t:Nat):Int).toNat<l.length-((h:Nat):Int).toNat
   omega
  have g14:((K:Int)==14)=false:=by simp;omega
  have aP:Fl.gW (Fl.kd l l.length h)=false:=by
   rw[ai.out];split
   ·rfl
   unfold Fl.gW;simp;omega
  obtain⟨hI,hO,aQ⟩:=aI.out.stop aP;have hres:=aJ.out;rw[aQ,hI,ai.out]at hres;clear aK aJ aI aP aQ hI;by_cases aV:K=15
  ·subst aV;rw[eX (by decide),eY (by decide)]at hres;have H2:=ah.out 7 i0 (h+1);have af:=eZ (λw3 R3 aa ae=>HQ.out w3 (h+1) _ hres ⟨R3,aa,ae⟩);rw[show((h+1:Nat):Int)=(h:Int)+1 from by omega]at H2 af;have H2:=eZ H2;clear HK ah aB ax ay az HQ aC ag aD aF ak aG ai aj av hds hres hO;go_wp2_with fail
   refine H1.out.mono ?_;rintro e wi ⟨rfl,rfl⟩;go_wp2_with fail
   refine H2.out.mono ?_;rintro e w3 ⟨rfl,R3,aa,ae⟩;have HD:=eZ (af.out w3 R3 aa ae);clear aa ae af H2;go_wp2_with fail
   try simp only[Exit.jump]
   exact HD.out
  have g15:((K:Int)==15)=false:=by simp;omega
  by_cases q16:K=16
  ·subst q16;rw[eX (by decide),eY (by decide)]at hres;have H2:=ah.out 7 i0 (h+1);have af:=eZ (λw3 R3 aa ae=>HQ.out w3 (h+1) _ hres ⟨R3,aa,ae⟩);rw[show((h+1:Nat):Int)=(h:Int)+1 from by omega]at H2 af;have H2:=eZ H2;clear HK ah aB ax ay az HQ aC ag aD aF ak aG ai aj av hds hres hO;go_wp2_with fail
   refine H1.out.mono ?_;rintro e wi ⟨rfl,rfl⟩;go_wp2_with fail
   refine H2.out.mono ?_;rintro e w3 ⟨rfl,R3,aa,ae⟩;have HD:=eZ (af.out w3 R3 aa ae);clear aa ae af H2;go_wp2_with fail
   try simp only[Exit.jump]
   exact HD.out
  have g16:((K:Int)==16)=false:=by simp;omega
  by_cases aW:K=17
  ·subst aW;rw[eX (by decide),eY (by decide)]at hres;have H2:=ah.out 7 i0 (h+1);have af:=eZ (λw3 R3 aa ae=>HQ.out w3 (h+1) _ hres ⟨R3,aa,ae⟩);rw[show((h+1:Nat):Int)=(h:Int)+1 from by omega]at H2 af;have H2:=eZ H2;clear HK ah aB ax ay az HQ aC ag aD aF ak aG ai aj av hds hres hO;go_wp2_with fail
   refine H1.out.mono ?_;rintro e wi ⟨rfl,rfl⟩;go_wp2_with fail
   refine H2.out.mono ?_;rintro e w3 ⟨rfl,R3,aa,ae⟩;have HD:=eZ (af.out w3 R3 aa ae);clear aa ae af H2;go_wp2_with fail
   try simp only[Exit.jump]
   exact HD.out
  have g17:((K:Int)==17)=false:=by simp;omega
  by_cases aX:K=13
  ·subst aX;rw[eY (by decide)]at hres;have H2:=ah.out 8 i0 (h+1);have af:=eZ (λw3 R3 aa ae=>HQ.out w3 (h+1) _ hres ⟨R3,aa,ae⟩);rw[show((h+1:Nat):Int)=(h:Int)+1 from by omega]at H2 af;have H2:=eZ H2;clear HK ah aB ax ay az HQ aC ag aD aF ak aG ai aj av hds hres hO;go_wp2_with fail
   refine H1.out.mono ?_;rintro e wi ⟨rfl,rfl⟩;go_wp2_with fail
   refine H2.out.mono ?_;rintro e w3 ⟨rfl,R3,aa,ae⟩;have HD:=eZ (af.out w3 R3 aa ae);clear aa ae af H2;go_wp2_with fail
   try simp only[Exit.jump]
   exact HD.out
  have g13:((K:Int)==13)=false:=by simp;omega
  by_cases aY:K=18
  ·subst aY;rw[eX (by decide),eX (by decide),eY (by decide)]at hres;have H2:=eZ (aB.out h (aj.out (by decide)) (av.out (by decide) (by decide)));obtain⟨t,ht⟩:=fq (Fl.text l l.length h);rw[ht]at hres H2;have H3:=eZ (ah.out 7 i0 t);have af:=eZ (λw3 R3 aa ae=>HQ.out w3 t _ hres ⟨R3,aa,ae⟩);clear HK ah aB ax ay az HQ aC ag aD aF ak aG ai aj av hds hres hO ht;go_wp2_with fail
   refine H1.out.mono ?_;rintro e wi ⟨rfl,rfl⟩;go_wp2_with fail
   refine H2.out.mono ?_;rintro e wi ⟨rfl,rfl⟩;go_wp2_with fail
   refine H3.out.mono ?_;rintro e w3 ⟨rfl,R3,aa,ae⟩;have HD:=eZ (af.out w3 R3 aa ae);clear aa ae af H2 H3;go_wp2_with fail
   try simp only[Exit.jump]
   exact HD.out
  have g18:((K:Int)==18)=false:=by simp;omega
  by_cases q8:K=8
  ·subst q8;rw[eX (by decide),eX (by decide),eX (by decide),eY (by decide)]at hres;have aH:=aj.out (by decide);have hrw:=av.out (by decide) (by decide);have aL:=ak.out;cases d with
   |zero=>
    have ho:Fl.opens (Fl.kd l l.length h)=true:=by rw[ai.out];rfl
    have hbi:=Fl.kV ho;have H2:=ax.out h ho;obtain⟨t,ht⟩:=fq (Fl.balanced l l.length h);rw[ht]at hbi H2;have hres2:(t,Fl.o9 l s up i0 t 10)=RES:=by rw[<-ht];exact hres
    have H2:=eZ H2;have H3:=eZ (ay.out i0 t (by have:=HI0.out;omega) (by omega) hbi.2.1);have af:=eZ (λw3 R3 aa ae=>HQ.out w3 t _ hres2 ⟨R3,aa,ae⟩);clear HK ah aB ax ay az HQ aC ag aD aF ak aG ai aj av hds hres hO ht hres2 hbi ho hrw aH aL;go_wp2_with fail
    refine H1.out.mono ?_;rintro e wi ⟨rfl,rfl⟩;go_wp2_with fail
    refine H2.out.mono ?_;rintro e wi ⟨rfl,rfl⟩;go_wp2_with fail
    refine H3.out.mono ?_;rintro e w3 ⟨rfl,R3,aa,ae⟩;have HD:=eZ (af.out w3 R3 aa ae);clear aa ae af H2 H3;go_wp2_with fail
    try simp only[Exit.jump]
    exact HD.out
   |succ d=>
    have H2:=az.out d rfl h (by have:=HI0.out;omega) aH (by rw[hrw];omega);have hres2:Fl.iI l l.length (Fl.iC l l.length d) s.q.length h (l.length-h) (h+1) false ⟨Fl.iB s.q up (if Fl.raw l h=9 then 10 else 9) i0,s.d⟩=RES:=by rw[hrw];exact hres
    rw[hres2]at H2;rw[show((d+1:Nat):Int)=(d:Int)+1 from by omega]at H2;have H2:=eZ H2;have gd:((d:Int)+1==0)=false:=by simp;omega
    have af:=eZ (λw3 R3 aa ae=>HQ.out w3 RES.1 RES.2 rfl ⟨R3,aa,ae⟩);clear HK ah aB ax ay az HQ aC ag aD aF ak aG ai aj av hds hres hO hres2 hrw aH aL;go_wp2_with fail
    refine H1.out.mono ?_;rintro e wi ⟨rfl,rfl⟩;go_wp2_with fail
    refine H2.out.mono ?_;rintro e w3 ⟨rfl,R3,aa,ae⟩;have HD:=eZ (af.out w3 R3 aa ae);clear aa ae af H2;go_wp2_with fail
    try simp only[Exit.jump]
    exact HD.out
  have g8:((K:Int)==8)=false:=by simp;omega
  by_cases q9:K=9
  ·subst q9;rw[eX (by decide),eX (by decide),eX (by decide),eY (by decide)]at hres;have aH:=aj.out (by decide);have hrw:=av.out (by decide) (by decide);have aL:=ak.out;cases d with
   |zero=>
    have ho:Fl.opens (Fl.kd l l.length h)=true:=by rw[ai.out];rfl
    have hbi:=Fl.kV ho;have H2:=ax.out h ho;obtain⟨t,ht⟩:=fq (Fl.balanced l l.length h);rw[ht]at hbi H2;have hres2:(t,Fl.o9 l s up i0 t 10)=RES:=by rw[<-ht];exact hres
    have H2:=eZ H2;have H3:=eZ (ay.out i0 t (by have:=HI0.out;omega) (by omega) hbi.2.1);have af:=eZ (λw3 R3 aa ae=>HQ.out w3 t _ hres2 ⟨R3,aa,ae⟩);clear HK ah aB ax ay az HQ aC ag aD aF ak aG ai aj av hds hres hO ht hres2 hbi ho hrw aH aL;go_wp2_with fail
    refine H1.out.mono ?_;rintro e wi ⟨rfl,rfl⟩;go_wp2_with fail
    refine H2.out.mono ?_;rintro e wi ⟨rfl,rfl⟩;go_wp2_with fail
    refine H3.out.mono ?_;rintro e w3 ⟨rfl,R3,aa,ae⟩;have HD:=eZ (af.out w3 R3 aa ae);clear aa ae af H2 H3;go_wp2_with fail
    try simp only[Exit.jump]
    exact HD.out
   |succ d=>
    have H2:=az.out d rfl h (by have:=HI0.out;omega) aH (by rw[hrw];omega);have hres2:Fl.iI l l.length (Fl.iC l l.length d) s.q.length h (l.length-h) (h+1) false ⟨Fl.iB s.q up (if Fl.raw l h=9 then 10 else 9) i0,s.d⟩=RES:=by rw[hrw];exact hres
    rw[hres2]at H2;rw[show((d+1:Nat):Int)=(d:Int)+1 from by omega]at H2;have H2:=eZ H2;have gd:((d:Int)+1==0)=false:=by simp;omega
    have af:=eZ (λw3 R3 aa ae=>HQ.out w3 RES.1 RES.2 rfl ⟨R3,aa,ae⟩);clear HK ah aB ax ay az HQ aC ag aD aF ak aG ai aj av hds hres hO hres2 hrw aH aL;go_wp2_with fail
    refine H1.out.mono ?_;rintro e wi ⟨rfl,rfl⟩;go_wp2_with fail
    refine H2.out.mono ?_;rintro e w3 ⟨rfl,R3,aa,ae⟩;have HD:=eZ (af.out w3 R3 aa ae);clear aa ae af H2;go_wp2_with fail
    try simp only[Exit.jump]
    exact HD.out
  have g9:((K:Int)==9)=false:=by simp;omega
  have hnk:∀k:Nat,k=(if K=20\/K=21 then 0 else K)->k≠13/\Fl.ig k=false/\k≠18/\Fl.opens k=false:=λk hk=>by
   have h1:k≠13/\k≠15/\k≠16/\k≠17/\k≠18/\k≠8/\k≠9:=by split at hk<;>omega
   refine⟨h1.1,?_,h1.2.2.2.2.1,?_⟩
   ·unfold Fl.ig;simp;omega
   unfold Fl.opens;simp;omega
  obtain⟨n1,n2,n3,n4⟩:=hnk _ rfl;rw[eX n1,eX (by rw[n2];decide),eX n3,eX (by rw[n4];decide)]at hres;rcases hO with⟨e1,e2,e3⟩|⟨e1,e2⟩
  ·rw[e2]at hres;have hres2:(p,s)=RES:=hres;have HD:=eZ (aC.out hres2);subst e1;clear HK ah aB ax ay az HQ aC ag aD aF ak aG ai aj av hds hres hres2 e2 e3 hnk n1 n2 n3 n4;go_wp2_with fail
   refine H1.out.mono ?_;rintro e wi ⟨rfl,rfl⟩;go_wp2_with fail
   try simp only[Exit.jump]
   exact HD.out
  rw[e2]at hres;have hres2:(m-1+1,(⟨Fl.jm s.q up 7 i0 (m-1+1),s.d⟩:Fl.fV))=RES:=hres;rw[show m-1+1=m by omega]at hres2;have gm:((m:Int)==(i0:Int))=false:=by simp;omega
  have H3:=eZ (ah.out 7 i0 m);have af:=eZ (λw3 R3 aa ae=>HQ.out w3 m _ hres2 ⟨R3,aa,ae⟩);clear HK ah aB ax ay az HQ aC ag aD aF ak aG ai aj av hds hres hres2 e2 e1 hnk n1 n2 n3 n4;go_wp2_with fail
  refine H1.out.mono ?_;rintro e wi ⟨rfl,rfl⟩;go_wp2_with fail
  refine H3.out.mono ?_;rintro e w3 ⟨rfl,R3,aa,ae⟩;have HD:=eZ (af.out w3 R3 aa ae);clear aa ae af H3;go_wp2_with fail
  try simp only[Exit.jump]
  exact HD.out
 intro hlab;have aR:=eZ hlab;clear hlab;go_wp2_with fail
 refine HB0.out.mono ?_;rintro e wi ⟨rfl,rfl⟩;go_wp2_with fail
 go_step3
 rename_i K hK;exact hK _ _ (aR.out _ _ ⟨rfl,i0,i0,⟨rfl,rfl,rfl,rfl,rfl,rfl,rfl,rfl,rfl,rfl,rfl,rfl,rfl,rfl⟩,aN⟩)
end
section
open Go.RowKit
open Sq
open Ar
theorem Kn(w0:World)(rb:Nat)(tv:Value)(l:List Tk)(hT:nO l):∀d:Nat,d<=1000->KV w0 rb tv l d
 |0=>λh=>OC w0 rb tv l 0 hT h (λd' e=>by omega)
 |d+1=>λh=>OC w0 rb tv l (d+1) hT h (λd' e=>by
  obtain rfl:d'=d:=by omega
  exact Kn w0 rb tv l hT d' (by omega))
def zt(r:Int×Nat×Fl.St)(w:World)(e:Ending)(w':World):Prop:=
 ∃u dv,e=.returned (.tuple #[.agg #[u],.int .i64 r.1,.int .i64 r.2.1,dv])/\iM w' u r.2.2.t/\Reads ib w' dv r.2.2.d/\Below w.heap.size w w'/\uH w' w.heap.size u r.2.2.t r.1/\w'.ownsRow w.heap.size 40 3 dv r.2.2.d.length (ib.all r.2.2.d)
theorem WO(bv v tv:Value)(l0:List Tk)(en:Nat)(T0:List Nd)(up0 at' d:Nat)(n b:Int)(w:World)(hl:Reads iU w v l0)(bC:l0.length<=100000)(hen:en<=l0.length)(az:nO l0)(hN:iM w tv T0)(hck:Ck T0 n)(hf:Fits T0 at' b up0)(hb:b<=at'+1)(hpe:at'<=en)(hn:(en:Int)<=n)
 (hs:T0.length<=4000) (hk:∀x∈T0,x.ks.length<=4000) (hd:d<=50):
 Calls prog 94 #[bv,v,.agg #[tv],.int .i64 up0,.int .i64 at',.int .i64 en,.int .i64 d] w (zt (Fl.jd l0 en d up0 at' ⟨T0,[]⟩) w):=by
 rw[<-Ft.Pt l0 en d at' up0 ⟨T0,[]⟩ hpe];have aA:=az.take en;obtain⟨va,vc,rfl⟩:=hl.shape;obtain⟨v3,hv3,hr3⟩:=UK (P:=prog) Q9 hl hen;obtain⟨l,aV⟩:=fq (l0.take en);have hll:l.length=en:=by rw[<-aV,kD];omega
 rw[aV]at aA hr3⊢;have hls:l.length<=100000:=by omega
 clear aV;subst hll;obtain⟨M0,hM0⟩:=fq (l0.length);rw[hM0]at bC hen hv3⊢;have ag:=Fl.ug (l:=l) (e:=l.length) hn d at' b hck hf hb hpe;have hG:=hck.good;obtain⟨ta,tc,rfl⟩:=hN.shape;obtain⟨a3,c3,rfl⟩:=hr3.shape;obtain⟨VR,bD⟩:=fq (Fl.jd l l.length d up0 at' ⟨T0,[]⟩);rw[bD]at ag⊢;obtain⟨PR,aW⟩:=fq (Fl.iC l l.length d (-1) at' ⟨[],[]⟩);have hpv:=Fl.tO (l:=l) (e:=l.length) d (-1) at' ⟨[],[]⟩ hpe (by omega) (by show(-1:Int)<0;decide);rw[aW]at ag hpv;have hkb:Fl.KB PR.2.q:=by
  rcases hpv with⟨e1,_⟩|⟨nx,s1,e1,_,_,_,g,_,_⟩
  ·rw[e1];intro i x h;simp at h
  rw[e1];exact g.kids (λi x h=>by simp at h)
 clear hpv;obtain⟨w1,hw1,hb1,kT,kR,kB⟩:=Bf w (.cells #[.slice ta T0.length tc] 31) (.cells #[.slice none 0 0] 31) (.cells #[.slice none 0 0,.slice none 0 0,.slice none 0 0] 154);obtain⟨Bt,aX⟩:=fq (w.heap.size);obtain⟨Br,hBr⟩:=fq (w.heap.size+1);obtain⟨rb,hrb⟩:=fq (w.heap.size+2);rw[aX]at kT;rw[hBr]at kR;rw[hrb]at kB;obtain⟨w2,hw2⟩:=fq (w1.setCell ⟨rb,0,none⟩ (.slice a3 l.length c3));have hne1:Bt≠rb:=by omega
 have hne2:Br≠rb:=by omega
 have bE:w2.heap[Bt]?=some (.cells #[.slice ta T0.length tc] 31 (0,0)):=by rw[<-hw2,jf _ _ _ _ hne1];exact kT
 have bF:w2.heap[Br]?=some (.cells #[.slice none 0 0] 31 (0,0)):=by rw[<-hw2,jf _ _ _ _ hne2];exact kR
 have kB2:w2.heap[rb]?=some (.cells #[.slice a3 l.length c3,.slice none 0 0,.slice none 0 0] 154 (0,0)):=by rw[<-hw2];exact qb kB _
 have aR:Below w.heap.size w w2:=by rw[<-hw2];exact hb1.setCell (p:=⟨rb,0,none⟩) (by show w.heap.size<=rb;omega) _
 have hM2:RM w w2 rb (.slice a3 l.length c3) (.slice none 0 0) (.slice none 0 0) l [] []:=⟨aR,hr3,hls,by omega,kB2,OT.nil _ _,kY ib _ _⟩
 have hS2:RS w w2 rb (.slice a3 l.length c3) l ⟨[],[]⟩ (jT (.slice none 0 0) (.slice none 0 0) []):=⟨_,_,_,hM2,rfl,rfl⟩
 have aB:=Kn w rb (.slice a3 l.length c3) l aA d (by omega) w2 (-1) at' ⟨[],[]⟩ _ hS2 (by omega) (by show(-1:Int)<0;decide) hpe ⟨by show 0+_+_<=_;omega,by show 0+_<=_;omega,λi x h=>by simp at h⟩;rw[aW]at aB;have c0:w1.cell? ⟨rb,0,none⟩=some (.slice none 0 0):=(gG kB 0).trans rfl;have f0:w1.frozen? ⟨rb,0,none⟩=false:=nH kB 0;obtain⟨av,aY,aZ,HT2,HR2⟩:=sP aB ag hkb bE bF;have HN:=eZ (λW (hb:Below w.heap.size w W)=>hN.below hb);obtain⟨HG,HS,aL,bR,HW1,HW2⟩:=kJ hG hs hk hls hw1 hw2;obtain⟨bG,bH,bI⟩:=jF aX hBr hrb;have HQ:=eZ (λu dv w'=>show(iM w' u VR.2.2.t/\Reads ib w' dv VR.2.2.d/\Below w.heap.size w w'/\uH w' w.heap.size u VR.2.2.t VR.1/\w'.ownsRow w.heap.size 40 3 dv VR.2.2.d.length (ib.all VR.2.2.d))->zt VR w (.returned (.tuple #[.agg #[u],.int .i64 VR.1,.int .i64 VR.2.1,dv])) w' from λh=>⟨u,dv,rfl,h⟩);obtain⟨Q,hQ⟩:=fq (zt VR w);rw[hQ]at HQ⊢;have hlo1:w.heap.size<=Br:=by omega
 have bX:=eZ (show w.heap.size<=Bt/\w.heap.size<=Br/\w.heap.size<=rb from⟨by omega,by omega,by omega⟩);have aM:=eZ (show Bt≠rb/\Br≠rb from⟨hne1,hne2⟩);obtain⟨TN,bf⟩:=fq (T0.length);obtain⟨N,bg⟩:=fq (l.length);obtain⟨bY,bn⟩:=fT bg bf;rw[bf]at HW1 HT2⊢;rw[bg]at HW2 av hv3 hpe hls hen⊢;clear hM0 az;clear hkb hl aA hN hck hf hb hn hs hk ag hG hr3 bD aW hw1 hb1 kT kR kB aX hBr hrb hw2 hne1 hne2 bE bF kB2 aR hM2 hS2 aB hQ bf bg
 go_enter func94,ntmps94
 go_upto_region 2 with fail
 rw[HW1.out,bI.out,bH.out,bG.out];clear HW1 bI bH bG;go_upto_region 4 with fail
 rw[HW2.out];clear HW2 c0 f0 hv3;go_wp2_with fail
 refine av.out.mono ?_;rintro e w3 ⟨rfl,R3,⟨nv,dv,L,aa,hL3,rfl⟩,aN⟩;have hnone:∀k,¬jT (.slice none 0 0) (.slice none 0 0) [] k:=λk h=>by
  rcases h with h|h|⟨p,hp,_⟩
  ·cases h
  ·cases h
  cases hp
 have bq:=(aN.block Bt (il HT2.out) aM.out.1 (hnone Bt)).trans HT2.out;have aC:=(aN.block Br (il HR2.out) aM.out.2 (hnone Br)).trans HR2.out;have hb3:=aa.lu;have cT:=iF bq;have cR:=iF aC;have c1:=aa.cells.2.1;have bS:=(Reads.fJ (E:=gP) aa.nodes.row).shape;obtain⟨na,nc,bJ⟩:=bS;rcases aY.out with⟨e1,e2⟩|⟨next,s',ps',e1,e2,g1,g2,g3,g4,g5,g6,g7,g8,g9,v,g10,g11⟩
 ·subst e1 e2;have hL0:L=[]:=by
   have h:L.map Ln.nd=[]:=hL3;exact XA.1 h
  subst hL0;subst bJ;have ai:=eZ (Mf _ T0 (up0:Int) na nc w3 (HN.out w3 hb3) HG.out HS.out aL.out);rw[bn.out]at ai;obtain⟨HR3,HB3⟩:=fT aC hb3;clear aN aa hL3 hnone bq aC hb3 av HN HG aL aY HT2 HR2 aZ;go_wp2_with fail
  refine ai.out.mono ?_;rintro e w4 ⟨u,rfl,aj,hb4,-⟩;obtain⟨ua,uc,rfl⟩:=aj.shape;rw[bn.out]at aj⊢;have af:=(hb4.block Br (il HR3.out)).trans HR3.out;have aD:=iF af;have bK:w4.frozen? ⟨Br,0,none⟩=false:=nH af 0;have c10:(w4.setCell ⟨Br,0,none⟩ (.slice ua TN uc)).cell? ⟨Br,0,none⟩=some (.slice ua TN uc):=gU _ _ _ (by rw[aD];rfl);have HD:=eZ (HQ.out (.slice ua TN uc) (.slice none 0 0) _ ⟨(aj.set aD (.slice ua TN uc)).set c10 (.slice ua TN uc),.inl ⟨rfl,rfl⟩,((HB3.out.trans (hb4.mono HB3.out.size)).setCell (p:=⟨Br,0,none⟩) hlo1 _).setCell (p:=⟨Br,0,none⟩) hlo1 _,λh=>absurd h (by show¬(0:Int)<=-1;decide),kY ib _ _⟩);clear aj hb4 af ai;go_wp2_with fail
  refine pW (v:=.tuple #[.agg #[.slice ua TN uc],.int .i64 (-1),.int .i64 (at':Int),.slice none 0 0]) ?_ rfl HD.out;simp[results,results94,go_sem,c10,gU]
 subst e1 e2;have hL3:L.map Ln.nd=ps'.q:=hL3;have bT:L.length=ps'.q.length:=by rw[<-hL3,jD]
 obtain⟨p0,hp0⟩:=jB L 0 (by omega);have hpv:p0.nd=v:=by
  have h:(L.map Ln.nd)[0]?=some p0.nd:=by rw[lS,hp0];rfl
  rw[hL3,g10]at h;exact(jl h).symm
 have bU:ps'.q.length<=400000:=by have:=bR.out;have:=HS.out;omega
 have hpt:=Mg _ nv T0 up0 L p0 w.heap.size w3 (HN.out w3 hb3) HG.out HS.out aL.out aa.nodes hb3.size (by omega) (λp hp=>by
  obtain⟨i,hi⟩:=lh hp;have hx:ps'.q[i]?=some p.nd:=by rw[<-hL3,lS,hi];rfl
  have hil:=(gD.1 hx).1;have h1:=g9 i p.nd hx;have h2:=aZ.out i p.nd hx;have h2:p.nd.ks.length<=ps'.q.length:=h2;refine⟨by omega,h1.1,by omega,λz hz=>?_⟩;have:=h1.2.2 z hz;have:=HS.out
  omega) hp0 (by rw[hpv];exact g11)
 rw[hL3,g6]at hpt;have hnr:∀(k:Nat)(C:Array Value)(t:TypeId)(fr:Nat×Nat),w3.heap[k]?=some (.cells C t fr)->3≠t->38≠t->¬(nv.ownBlock=some k\/∃p∈L,p.val.ownBlock=some k):=λk C t fr hh h1 h2 h3=>by
  rcases h3 with h3|⟨p,hp,h3⟩
  ·exact fF aa.nodes.row hh h2 h3
  obtain⟨i,hi⟩:=lh hp;exact fF (aa.nodes.kids i p hi) hh h1 h3
 have hdt:∀k,dv.ownBlock=some k->k<w3.heap.size/\¬(nv.ownBlock=some k\/∃p∈L,p.val.ownBlock=some k):=λk hk=>by
  refine⟨(aa.told.lt k hk).2,λh3=>?_⟩;rcases h3 with h3|⟨p,hp,h3⟩
  ·exact fH aa.nodes.row aa.told (by decide) k h3 hk
  obtain⟨i,hi⟩:=lh hp;exact fH (aa.nodes.kids i p hi) aa.told (by decide) k h3 hk
 have hbx:=aa.box;obtain⟨ai,HR3,HB3,aO,aP,aF⟩:=kJ hpt aC hb3 hdt hnr hbx;obtain⟨bL,bM⟩:=fT aa.told g4;rw[bn.out]at ai HQ;have gT:((TN:Int)==-1)=false:=by simp
 clear aN aa hL3 hnone bq aC hb3 av HN HG aL aY HT2 HR2 aZ bT hp0 hpv bU hpt hnr hdt hbx g1 g2 g3 g4 g5 g6 g7 g8 g9 g10 g11;subst bJ;obtain⟨LN,bN⟩:=fq (L.length);rw[bN]at ai aF aO aP c1;clear bN;go_wp2_with fail
 refine ai.out.mono ?_;rintro e w4 ⟨u,rfl,aj,hb4,hkp,htl⟩;obtain⟨ua,uc,rfl⟩:=aj.shape;obtain⟨un,hun⟩:=fq (s'.t.length);have aS:iM w4 (.slice ua un uc) s'.t:=by rw[<-hun];exact aj
 have aT:(s'.t,(TN:Int)).1.length=un:=hun;rw[aT];have af:=(hkp Br (il HR3.out) (aP.out _ _ _ _ HR3.out (by decide) (by decide))).trans HR3.out;have aQ:=(hkp rb (il aF.out) (aP.out _ _ _ _ aF.out (by decide) (by decide))).trans aF.out;have ae:=fU bL.out (λk hk=>hkp k (aO.out k hk).1 (aO.out k hk).2);obtain⟨da,dc,hdv⟩:=(Reads.fJ (E:=ib) ae).shape;have aG:=Reads.fJ (E:=ib) ae;rw[hdv]at aG aQ;obtain⟨dn,hdn⟩:=fq (ps'.d.length);have ak:(next,ps').2.d.length=dn:=hdn;rw[ak]at aG aQ;have aD:=iF af;have bK:w4.frozen? ⟨Br,0,none⟩=false:=nH af 0;obtain⟨w5,ah⟩:=fq (w4.setCell ⟨Br,0,none⟩ (.slice ua un uc));have ay:w5.heap[Br]?=some (.cells #[.slice ua un uc] 31 (0,0)):=by rw[<-ah];exact qb af _
 have bz:=(jf w4 ⟨Br,0,none⟩ (.slice ua un uc) rb (λe=>aM.out.2 e.symm)).trans aQ;rw[ah]at bz;have bA:=aS.set aD (.slice ua un uc);have hb5:=(HB3.out.trans (hb4.mono (fB _))).setCell (p:=⟨Br,0,none⟩) hlo1 (.slice ua un uc);have bO:Reads ib w5 (.slice da dn dc) ps'.d:=by
  have h:=fU (w':=w5) ae (λk hk=>by rw[<-ah];exact jf _ _ _ _ (λe=>fF ae af (by decide) (by have e:k=Br:=e;rw[<-e];exact hk)));have:=Reads.fJ (E:=ib) h;rw[hdv,ak]at this;exact this
 rw[ah]at bA hb5;have q1:=iF ay;have q2:w5.cell? ⟨rb,2,none⟩=some (.slice da dn dc):=(gG bz 2).trans rfl;have q3:w5.frozen? ⟨Br,0,none⟩=false:=nH ay 0;have c10:(w5.setCell ⟨Br,0,none⟩ (.slice ua un uc)).cell? ⟨Br,0,none⟩=some (.slice ua un uc):=gU _ _ _ (by rw[q1];rfl);have x1:=c10;have x2:(w5.setCell ⟨Br,0,none⟩ (.slice ua un uc)).cell? ⟨rb,2,none⟩=some (.slice da dn dc):=jL aM.out.2 q2;have aH:Reads ib (w5.setCell ⟨Br,0,none⟩ (.slice ua un uc)) (.slice da dn dc) ps'.d:=by
  have h5:=fU (w':=w5) ae (λk hk=>by rw[<-ah];exact jf _ _ _ _ (λe=>fF ae af (by decide) (by have e:k=Br:=e;rw[<-e];exact hk)));have h:=fU (w':=w5.setCell ⟨Br,0,none⟩ (.slice ua un uc)) h5 (λk hk=>jf _ _ _ _ (λe=>fF h5 ay (by decide) (by have e:k=Br:=e;rw[<-e];exact hk)));have:=Reads.fJ (E:=ib) h;rw[hdv,ak]at this;exact this
 have aI:(w5.setCell ⟨Br,0,none⟩ (.slice ua un uc)).ownsRow w.heap.size 40 3 (.slice da dn dc) ps'.d.length (ib.all ps'.d):=by
  have h5:=fU (w':=w5) ae (λk hk=>by rw[<-ah];exact jf _ _ _ _ (λe=>fF ae af (by decide) (by have e:k=Br:=e;rw[<-e];exact hk)));have h:=fU (w':=w5.setCell ⟨Br,0,none⟩ (.slice ua un uc)) h5 (λk hk=>jf _ _ _ _ (λe=>fF h5 ay (by decide) (by have e:k=Br:=e;rw[<-e];exact hk)));rw[hdv,ak]at h;rw[hdn];exact h
 have aJ:=bA.set q1 (.slice ua un uc);obtain⟨tP,tL,ht1,ht2,ht3⟩:=htl (by show(0:Int)<=(TN:Int);omega);have aU:(s'.t,(TN:Int)).1.length=un:=hun;rw[aU]at ht3;have aK:VT (w5.setCell ⟨Br,0,none⟩ (.slice ua un uc)) w.heap.size (.slice ua un uc) tP tL:=by
  have h5:=ht3.box af (by decide) (by decide) 0 (.slice ua un uc);rw[ah]at h5;exact h5.box ay (by decide) (by decide) 0 _
 have ht1:(tP.length:Int)=(TN:Int):=ht1;have ht2:(tP++tL).map Ln.nd=s'.t:=ht2;have ax:=hb5.setCell (p:=⟨Br,0,none⟩) hlo1 (.slice ua un uc);obtain⟨w6,bB⟩:=fq (w5.setCell ⟨Br,0,none⟩ (.slice ua un uc));rw[bB]at c10 aH aJ ax aK aI;have bP:w6.drew.cell? ⟨Br,0,none⟩=some (.slice ua un uc):=c10;have HD:=eZ (λW (hW:Below w6.heap.size w6 W)=>HQ.out (.slice ua un uc) (.slice da dn dc) W ⟨aJ.below hW,by show Reads ib W _ s'.d;rw[bM.out];exact aH.below hW,ax.trans (hW.mono ax.size),λ_=>⟨tP,tL,ht1,ht2,aK.below hW⟩,by show World.ownsRow W _ _ _ _ s'.d.length (ib.all s'.d);rw[bM.out];exact fQ aI hW⟩);obtain⟨bQ,bV⟩:=fT ah bB;clear aI ht1 ht2 ht3 htl aK aU aj hb4 hkp hun aS aT af aQ ae hdv aG hdn ak ah ay bz bA hb5 bO aH aJ ax bB ai HR3 HB3 aO aP aF bL;go_upto_region 6 with fail
 rw[bQ.out];clear bQ aD bK;go_upto_region 8 with fail
 refine BJ (S:=λwx=>wx.cell? ⟨Br,0,none⟩=some (.slice ua un uc)/\wx.cell? ⟨rb,2,none⟩=some (.slice da dn dc)) (by kernel_rfl) (⟨q1,q2⟩) (λhH=>?_);refine gY 0 (.agg #[.slice ua un uc]) rfl (by kernel_rfl) rfl fC (λW hW=>?_) hH ?_
 ·obtain⟨z1,z2⟩:=hW;go_simp
 refine gY 1 (.int .i64 (TN:Int)) rfl (by kernel_rfl) rfl fC (λW hW=>by go_simp) hH ?_;refine gY 2 (.int .i64 (next:Int)) rfl (by kernel_rfl) rfl fC (λW hW=>by go_simp) hH ?_;refine gY 3 (.pointer (some ⟨rb,2,none⟩)) rfl (by kernel_rfl) rfl fC (λW hW=>by go_simp) hH ?_;refine gY 4 (.slice da dn dc) rfl (by kernel_rfl) rfl fC (λW hW=>?_) hH ?_
 ·obtain⟨z1,z2⟩:=hW;go_simp
 refine vB 5 (by kernel_rfl) rfl λK hK=>?_
 go_simp;refine hK.out _ _ (⟨x1,x2⟩) (λhH2=>?_);clear hK K;try simp only[Act.put,fK,fP,fO]
 refine gY 6 (.int .i64 (TN:Int)) rfl (by kernel_rfl) rfl fC (λW hW=>by go_simp) hH2 ?_;refine gY 7 (.int .i64 (next:Int)) rfl (by kernel_rfl) rfl fC (λW hW=>by go_simp) hH2 ?_;refine gY 8 (.slice da dn dc) rfl (by kernel_rfl) rfl fC (λW hW=>by go_simp) hH2 ?_;refine yM (by kernel_rfl) ?_ _;rw[bV.out];have bW:=eZ (HD.out w6.drew (fI _ w6).drew);go_wp2_with fail
 refine pW (v:=.tuple #[.agg #[.slice ua un uc],.int .i64 (TN:Int),.int .i64 (next:Int),.slice da dn dc]) ?_ rfl bW.out;simp[results,results94,go_sem,bP]
end
section
open Go.RowKit
open Sg
theorem Iz(c:Int)(w:World)(h1:c<=2147483647)(h:Utf8.valid c=true):
 Calls prog 145 #[.int .i32 c] w λe w'=>e=.returned (.bool true)/\w=w':=by
 have:=yn c w h1;rw[h]at this;exact this
theorem IA(s:ByteArray)(p:Nat):(Utf8.decode s p).1<55296\/(57343<(Utf8.decode s p).1/\(Utf8.decode s p).1<=1114111):=by
 rw[Sf];have h0:(s.get! p).toNat<256:=KP _
 generalize (s.get! p).toNat=b0,(s.get! (p+1)).toNat=b1,(s.get! (p+2)).toNat=b2,(s.get! (p+3)).toNat=b3 at*;unfold Lib.decodeN
 (repeat' split)<;>(dsimp only at*;omega)
theorem CX(s:ByteArray)(p:Nat):Utf8.valid ((Utf8.decode s p).1:Int)=true:=by
 have:=IA s p;simp[Utf8.valid];omega
theorem Jn(c:Int)(w:World):Calls prog 144 #[.string ByteArray.empty,.int .u8 c] w λe w'=>e=.returned (.int .i64 (-1))/\w'=w:=by
 have h:=Any.strings_IndexByte (L:=SY) ByteArray.empty c w;refine De h ?_;rintro e w' ⟨rfl,rfl⟩;exact⟨rfl,rfl⟩
theorem YT(w:World):
 Calls prog 117 #[.string ⟨#[39]⟩,.int .i32 65533] w λe w'=>e=.returned (.int .i64 (-1))/\Below w.heap.size w w':=by
 go_enter func117,ntmps117
 go_wp2_with fail
 go_loopg [] 1 (λgf wr=>∃(pos:Nat),wr.heap[w.heap.size]?=some (.stringIter ⟨#[39]⟩ pos)/\Below w.heap.size w wr/\pos+gf=1)
 case atStart=>exact⟨0,xM w _ 0,(fI _ w).alloc (fB _) _,rfl⟩
 case round=>
  obtain⟨pos,hit,hb,hf⟩:=hrel;rcases(by omega:pos=0\/pos=1)with rfl|rfl
  ·obtain rfl:gk=1:=by omega
   have hnx:∀ty,(Instr.next (.pointer (some ⟨w.heap.size,0,none⟩)) true ty).run prog wr=_:=λty=>BG wr w.heap.size ⟨#[39]⟩ 0 ty hit (by decide) (by decide)
   have hit2:=vI wr w.heap.size ⟨#[39]⟩ 0 1 hit;have hb2:=qK hb (k:=w.heap.size) (fB _) ⟨#[39]⟩ 1;generalize wr.iterAt w.heap.size ⟨#[39]⟩ (0+1)=W at*;clear hit hb;go_wp2_with fail
   go_roundg 0
   case measure=>omega
   case rel=>exact⟨1,hit2,hb2,rfl⟩
  have hnx:∀ty,(Instr.next (.pointer (some ⟨w.heap.size,0,none⟩)) true ty).run prog wr=_:=λty=>xN wr w.heap.size ⟨#[39]⟩ 1 ty hit (by decide)
  clear hit;go_wp2_with fail
  go_ret;exact⟨rfl,hb⟩
theorem YU(r:Int)(V:ByteArray)(w:World)(hr:128<=r)(hr2:r<=1114111)(hn:r≠65533)(hv:Utf8.valid r=true)(hb:2<=V.size)(hb2:V.size<=4)(he:Utf8.encode r=V):
 Calls prog 117 #[.string ⟨#[39]⟩,.int .i32 r] w λe w'=>e=.returned (.int .i64 (-1))/\Below w.heap.size w w':=by
 have h3:(r==65533)=false:=iW.2 hn;have hcv:∀w,(convert 21 9 (.int .i32 r)).run prog w=.ok (.string V) w:=λw=>by rw[nU r w,he]
 have hge:¬((V.size:Int)-1<1):=by omega
 have HV:=eZ (Iz r w (by omega) hv);clear he hv
 go_enter func117,ntmps117
 go_wp2_with fail
 refine HV.out.mono ?_;rintro e w1 ⟨rfl,rfl⟩;go_wp2_with fail
 go_step3
 go_wp2_with fail
 go_loopg [9,10] 1 (λgf i f wr=>i=.int .i64 ((V.size:Int)-1)/\f=.int .i64 0/\wr=w)
 case atStart=>exact⟨rfl,rfl,rfl⟩
 case round=>
  obtain⟨rfl,rfl,rfl⟩:=hrel;go_wp2_with fail
  rw[vJ];go_ret;exact⟨rfl,fI _ _⟩
def BP(r:Int):Bool:=decide (r=39)
theorem Mi(r:Int)(h0:0<=r)(h1:r<128):decide (0<=Lib.indexByte [39] r.toNat.toUInt8)=BP r:=by
 have key:∀n:Fin 128,decide (0<=Lib.indexByte [39] n.val.toUInt8)=BP (n.val:Int):=by decide
 have:=key ⟨r.toNat,by omega⟩;simp only at this;rw[this];congr 1;omega
theorem Mj(r:Int)(h:128<=r):BP r=false:=by
 unfold BP;simp;omega
theorem YV(r:Int)(w:World)(h0:128<=r)(hr2:r<=1114111)(hv:Utf8.valid r=true):
 Calls prog 117 #[.string ⟨#[39]⟩,.int .i32 r] w λe w'=>e=.returned (.int .i64 (-1))/\Below w.heap.size w w':=by
 by_cases h2:r=65533
 ·subst h2;exact YT w
 have hs:=x9 hv;have he:=encode_eq r;have hsz:=qm r;generalize EG r=c at hs he hsz;subst hs;have h3:2<=(rG c).length/\(rG c).length<=4:=by
  unfold rG;rw[eX (by omega)];split
  ·simp[enc2]
  split<;>simp[enc3,enc4]
 exact YU _ _ w (by omega) hr2 h2 hv (by rw[hsz];exact h3.1) (by rw[hsz];exact h3.2) rfl
theorem YW(r:Int)(w:World)(h0:0<=r)(hr2:r<=1114111)(hv:Utf8.valid r=true):
 Calls prog 135 #[.string ⟨#[39]⟩,.int .i32 r] w λe w'=>e=.returned (.bool (BP r))/\Below w.heap.size w w':=by
 by_cases h1:r<128
 ·have h:=Any.strings_ContainsRune_ascii (L:=JB) ⟨#[39]⟩ r w h0 h1;refine De h ?_;rintro e w' ⟨rfl,rfl⟩;refine⟨?_,fI _ _⟩;show Ending.returned (.bool (decide (0<=Lib.indexByte [39] r.toNat.toUInt8)))=_;rw[Mi r h0 h1]
 have HI:=eZ (YV r w (by omega) hr2 hv);rw[Mj r (by omega)]
 go_enter func135,ntmps135
 go_wp2_with fail
 refine HI.out.mono ?_;rintro e w1 ⟨rfl,hb⟩;go_wp2;go_ret;exact⟨rfl,hb⟩
theorem YX(w:World):
 Calls prog 117 #[.string ⟨#[34,92]⟩,.int .i32 65533] w λe w'=>e=.returned (.int .i64 (-1))/\Below w.heap.size w w':=by
 go_enter func117,ntmps117
 go_wp2_with fail
 go_loopg [] 2 (λgf wr=>∃(pos:Nat),wr.heap[w.heap.size]?=some (.stringIter ⟨#[34,92]⟩ pos)/\Below w.heap.size w wr/\pos+gf=2)
 case atStart=>exact⟨0,xM w _ 0,(fI _ w).alloc (fB _) _,rfl⟩
 case round=>
  obtain⟨pos,hit,hb,hf⟩:=hrel;rcases(by omega:pos=0\/pos=1\/pos=2)with rfl|rfl|rfl
  ·obtain rfl:gk=2:=by omega
   have hnx:∀ty,(Instr.next (.pointer (some ⟨w.heap.size,0,none⟩)) true ty).run prog wr=_:=λty=>BG wr w.heap.size ⟨#[34,92]⟩ 0 ty hit (by decide) (by decide)
   have hit2:=vI wr w.heap.size ⟨#[34,92]⟩ 0 1 hit;have hb2:=qK hb (k:=w.heap.size) (fB _) ⟨#[34,92]⟩ 1;generalize wr.iterAt w.heap.size ⟨#[34,92]⟩ (0+1)=W at*;clear hit hb;go_wp2_with fail
   go_roundg 1
   case measure=>omega
   case rel=>exact⟨1,hit2,hb2,rfl⟩
  ·obtain rfl:gk=1:=by omega
   have hnx:∀ty,(Instr.next (.pointer (some ⟨w.heap.size,0,none⟩)) true ty).run prog wr=_:=λty=>BG wr w.heap.size ⟨#[34,92]⟩ 1 ty hit (by decide) (by decide)
   have hit2:=vI wr w.heap.size ⟨#[34,92]⟩ 1 2 hit;have hb2:=qK hb (k:=w.heap.size) (fB _) ⟨#[34,92]⟩ 2;generalize wr.iterAt w.heap.size ⟨#[34,92]⟩ (1+1)=W at*;clear hit hb;go_wp2_with fail
   go_roundg 0
   case measure=>omega
   case rel=>exact⟨2,hit2,hb2,rfl⟩
  have hnx:∀ty,(Instr.next (.pointer (some ⟨w.heap.size,0,none⟩)) true ty).run prog wr=_:=λty=>xN wr w.heap.size ⟨#[34,92]⟩ 2 ty hit (by decide)
  clear hit;go_wp2_with fail
  go_ret;exact⟨rfl,hb⟩
theorem YY(r:Int)(a b:UInt8)(w:World)(hr:128<=r)(hr2:r<=1114111)(hn:r≠65533)(hv:Utf8.valid r=true)(hb:128<=b.toNat)(he:Utf8.encode r=⟨#[a,b]⟩):
 Calls prog 117 #[.string ⟨#[34,92]⟩,.int .i32 r] w λe w'=>e=.returned (.int .i64 (-1))/\Below w.heap.size w w':=by
 have h3:(r==65533)=false:=iW.2 hn;have hcv:∀w,(convert 21 9 (.int .i32 r)).run prog w=.ok (.string ⟨#[a,b]⟩) w:=λw=>by rw[nU r w,he]
 have hne:((((⟨#[34,92]⟩:ByteArray)[1]'(by decide)).toNat:Int) !=(((⟨#[a,b]⟩:ByteArray)[1]'(by decide:(1:Nat)<2)).toNat:Int))=true:=by
  show((92:Int) !=(b.toNat:Int))=true;simp;omega
 have HV:=eZ (Iz r w (by omega) hv);clear he hv
 go_enter func117,ntmps117
 go_wp2_with fail
 refine HV.out.mono ?_;rintro e w1 ⟨rfl,rfl⟩;go_wp2_with fail
 go_step3
 go_wp2_with fail
 go_loopg [9,10] 1 (λgf i f wr=>i=.int .i64 1/\f=.int .i64 0/\wr=w)
 case atStart=>exact⟨rfl,rfl,rfl⟩
 case round=>
  obtain⟨rfl,rfl,rfl⟩:=hrel;go_wp2_with fail
  go_step3
  go_wp2_with fail
  go_big_quiet (fail)
  go_wp2_with fail
  go_big_quiet (exact(Jn _ _).mono λ_ _ h=>⟨h.1,_,h.2⟩)
  go_wp2_with fail
  rw[vJ];go_wp2_with fail
  rw[vJ];go_ret;exact⟨rfl,by first|exact ji (fI _ _) _|exact ji (ji (fI _ _) _) _⟩
theorem YZ(r:Int)(V:ByteArray)(w:World)(hr:128<=r)(hr2:r<=1114111)(hn:r≠65533)(hv:Utf8.valid r=true)(hb:3<=V.size)(hb2:V.size<=4)(he:Utf8.encode r=V):
 Calls prog 117 #[.string ⟨#[34,92]⟩,.int .i32 r] w λe w'=>e=.returned (.int .i64 (-1))/\Below w.heap.size w w':=by
 have h3:(r==65533)=false:=iW.2 hn;have hcv:∀w,(convert 21 9 (.int .i32 r)).run prog w=.ok (.string V) w:=λw=>by rw[nU r w,he]
 have hge:¬((V.size:Int)-1<2):=by omega
 have HV:=eZ (Iz r w (by omega) hv);clear he hv
 go_enter func117,ntmps117
 go_wp2_with fail
 refine HV.out.mono ?_;rintro e w1 ⟨rfl,rfl⟩;go_wp2_with fail
 go_step3
 go_wp2_with fail
 go_loopg [9,10] 1 (λgf i f wr=>i=.int .i64 ((V.size:Int)-1)/\f=.int .i64 0/\wr=w)
 case atStart=>exact⟨rfl,rfl,rfl⟩
 case round=>
  obtain⟨rfl,rfl,rfl⟩:=hrel;go_wp2_with fail
  rw[vJ];go_ret;exact⟨rfl,fI _ _⟩
def BQ(r:Int):Bool:=decide (r=34\/r=92)
theorem Mk(r:Int)(h0:0<=r)(h1:r<128):decide (0<=Lib.indexByte [34,92] r.toNat.toUInt8)=BQ r:=by
 have key:∀n:Fin 128,decide (0<=Lib.indexByte [34,92] n.val.toUInt8)=BQ (n.val:Int):=by decide
 have:=key ⟨r.toNat,by omega⟩;simp only at this;rw[this];congr 1;omega
theorem Ml(r:Int)(h:128<=r):BQ r=false:=by
 unfold BQ;simp;omega
theorem Y0(r:Int)(w:World)(h0:128<=r)(hr2:r<=1114111)(hv:Utf8.valid r=true):
 Calls prog 117 #[.string ⟨#[34,92]⟩,.int .i32 r] w λe w'=>e=.returned (.int .i64 (-1))/\Below w.heap.size w w':=by
 by_cases h2:r=65533
 ·subst h2;exact YX w
 have hs:=x9 hv;have he:=encode_eq r;have hsz:=qm r;generalize EG r=c at hs he hsz;subst hs;by_cases c2:c<2048
 ·have e:rG c=enc2 c:=by unfold rG;rw[eX (by omega),eY c2]
  rw[e]at he;exact YY _ _ (UInt8.ofNat (128+c%64)) w (by omega) hr2 h2 hv (by rw[byte_of _ (by omega)];omega) he
 have h3:3<=(rG c).length/\(rG c).length<=4:=by
  unfold rG;rw[eX (by omega),eX c2];split<;>simp[enc3,enc4]
 exact YZ _ _ w (by omega) hr2 h2 hv (by rw[hsz];exact h3.1) (by rw[hsz];exact h3.2) rfl
theorem Y1(r:Int)(w:World)(h0:0<=r)(hr2:r<=1114111)(hv:Utf8.valid r=true):
 Calls prog 135 #[.string ⟨#[34,92]⟩,.int .i32 r] w λe w'=>e=.returned (.bool (BQ r))/\Below w.heap.size w w':=by
 by_cases h1:r<128
 ·have h:=Any.strings_ContainsRune_ascii (L:=JB) ⟨#[34,92]⟩ r w h0 h1;refine De h ?_;rintro e w' ⟨rfl,rfl⟩;refine⟨?_,fI _ _⟩;show Ending.returned (.bool (decide (0<=Lib.indexByte [34,92] r.toNat.toUInt8)))=_;rw[Mk r h0 h1]
 have HI:=eZ (Y0 r w (by omega) hr2 hv);rw[Ml r (by omega)]
 go_enter func135,ntmps135
 go_wp2_with fail
 refine HI.out.mono ?_;rintro e w1 ⟨rfl,hb⟩;go_wp2;go_ret;exact⟨rfl,hb⟩
end
section
open Go.RowKit
open Sg
def tJ(t:ByteArray)(n:Nat):Value:=.agg #[.string t,.int .i64 (n:Int)]
def nq1(c:Nat):Bool:=!BP (c:Int)
def xH(c:Nat):Bool:=!BQ (c:Int)
theorem Qv(s:ByteArray)(p:Nat)(h:p<s.size):BP ((Utf8.decode s p).1:Int)=!nq1 (s.get! p).toNat:=by
 have h1:=Sg.tK s p 39 h (by decide);unfold nq1 BP;rw[Bool.not_not];refine decide_eq_decide.2 ?_;omega
theorem Qw(s:ByteArray)(p:Nat)(h:p<s.size):BQ ((Utf8.decode s p).1:Int)=!xH (s.get! p).toNat:=by
 have h1:=Sg.tK s p 34 h (by decide);have h2:=Sg.tK s p 92 h (by decide);unfold xH BQ;rw[Bool.not_not];refine decide_eq_decide.2 ?_;omega
theorem _root_.Go.RowKit.Below.zu{B b:Nat}{a w:World}(h:Below B a w)(x y:Value)(hB:B<=b):Below B a ((w.setCell ⟨b,0,none⟩ x).setCell ⟨b,1,none⟩ y):=
 (h.setCell (p:=⟨b,0,none⟩) hB x).setCell (p:=⟨b,1,none⟩) hB y
theorem Ko(s:ByteArray):s.extract 0 s.size=s:=by simp
theorem Qx(c:Nat)(h:128<=c):nq1 c=true:=by simp[nq1,BP];omega
theorem Qy(c:Nat)(h:128<=c):xH c=true:=by simp[xH,BQ];omega
theorem Uf(s:ByteArray)(w:World)(hs:s.size<=maxLen):
 Calls prog 105 #[.string s,.string ⟨#[39]⟩] w λe w'=>e=.returned (tJ (s.extract 0 (Sc.run nq1 (Sc.fw s))) (Sc.run nq1 (Sc.fw s)))/\Below w.heap.size w w':=by
 unfold maxLen at hs;have HR:=eZ (λk h1 h2=>Sc.run_end nq1 (Sc.fw s) k h1 h2);obtain⟨R0,hR0⟩:=fq (Sc.run nq1 (Sc.fw s));rw[hR0]at HR⊢;clear hR0
 go_enter func105,ntmps105
 go_wp2_with fail
 obtain⟨w0,hw0⟩:∃w0,w0=w.alloc (.cells #[.string ⟨#[]⟩,.int .i64 0] 131):=⟨_,rfl⟩
 have hB0:Below w.heap.size w w0:=hw0▸fo w _;have hz0:w0.heap.size=w.heap.size+1:=by rw[hw0];exact size_alloc w _
 have H0:EI w0 w.heap.size 0 (.string ⟨#[]⟩):=hw0▸qh rfl;have H1:EI w0 w.heap.size 1 (.int .i64 0):=hw0▸qh rfl;rw[<-hw0];clear hw0
 go_loopg [] s.size (λgf wr=>∃(pos:Nat),wr.heap[w.heap.size+1]?=some (.stringIter s pos)/\Below w0.heap.size w0 wr/\Hid (∀j,j<pos->nq1 ((Sc.fw s).getD j 0)=true)/\pos<=s.size/\s.size<=pos+gf)
 case atStart=>exact⟨0,by rw[<-hz0];exact xM w0 s 0,(fI _ w0).alloc (fB _) _,eZ (λj h=>absurd h (qJ j)),ic _,by omega⟩
 case round=>
  obtain⟨pos,hit,hb,hall,hle,hf⟩:=hrel;by_cases hlt2:pos<s.size
  ·obtain⟨g',rfl⟩:∃g',gk=g'+1:=⟨gk-1,by omega⟩
   have hnx:∀ty,(Instr.next (.pointer (some ⟨w.heap.size+1,0,none⟩)) true ty).run prog wr=_:=λty=>BF wr (w.heap.size+1) s pos ty hit hlt2
   have hwd:=xS s pos hlt2;have hwn:=E6 s pos hlt2;have hov:=Sg.DT s pos hlt2;rw[pK s pos hlt2]at hwd hwn hov;have hgd:=Sc.jo s pos;have ae:=Qv s pos hlt2;have hva:=CX s pos;have hbd:=IA s pos;obtain⟨K,hK⟩:=fq ((Utf8.decode s pos).2);obtain⟨R,hR⟩:=fq ((Utf8.decode s pos).1);rw[hK]at hwd hwn hov hnx;rw[hR]at ae hva hbd hnx;have hit2:=vI wr (w.heap.size+1) s pos (pos+K) hit;have hb2:=qK hb (k:=w.heap.size+1) (by omega) s (pos+K);obtain⟨W,hWd⟩:=fq (wr.iterAt (w.heap.size+1) s (pos+K));rw[hWd]at hnx hit2 hb2;have hcall:=YW (R:Int) W (by omega) (by omega) hva;rw[ae]at hcall;have aa:nq1 (s.get! pos).toNat=true->∀j,j<pos+K->nq1 ((Sc.fw s).getD j 0)=true:=by
    intro hc j hj;rcases Hw j pos with h|h|h
    ·exact hall.out j h
    ·subst h;rw[hgd];exact hc
    rw[Sc.jo];exact Qx _ (hov j h hj)
   cases hc:nq1 (s.get! pos).toNat with
   |true=>
    rw[hc]at hcall;obtain⟨HC,HA⟩:=fT hcall (aa hc);clear hall aa hcall hc hgd hit hb ae hva hbd hov hK hR hWd;go_wp2_with fail
    refine HC.out.mono ?_;rintro e W1 ⟨rfl,hb3⟩;have hit3:=(hb3.block _ (xI.1 hit2).1).trans hit2;have hb4:=hb2.trans (hb3.mono hb2.size);go_wp2
    go_roundg g'
    case measure=>omega
    case rel=>exact⟨pos+K,hit3,hb4,HA,hwn,by omega⟩
   |false=>
    rw[hc]at hcall;have hres:=HR.out pos hall.out (.inr ⟨by rw[Sc.gJ];exact hlt2,by rw[hgd];exact hc⟩);have HC:=eZ hcall;subst hres;clear hall aa hcall hc hgd hit hb ae hva hbd hov hK hR hWd HR;go_wp2_with fail
    refine HC.out.mono ?_;rintro e W1 ⟨rfl,hb3⟩;have hb4:=hb2.trans (hb3.mono hb2.size);have q0:=(iq hb4 H0).1;have q1:=(iq hb4 H1).1;have z0:=(iq hb4 H0).2;have z1:=(iq hb4 H1).2;go_wp2_with fail
    refine pW (v:=tJ (s.extract 0 R0) R0) ?_ rfl ⟨rfl,(hB0.trans (hb4.mono (by omega))).zu _ _ (fB _)⟩;simp[tJ,results,results105,go_sem,q0,q1,nJ,gU]
  have hnx:∀ty,(Instr.next (.pointer (some ⟨w.heap.size+1,0,none⟩)) true ty).run prog wr=_:=λty=>xN wr (w.heap.size+1) s pos ty hit hlt2
  obtain rfl:pos=s.size:=by omega
  have hres:=HR.out s.size hall.out (.inl (Sc.gJ s).symm);subst hres;have q0:=(iq hb H0).1;have q1:=(iq hb H1).1;have z0:=(iq hb H0).2;have z1:=(iq hb H1).2;clear hall hit HR;go_wp2_with fail
  refine pW (v:=tJ s s.size) ?_ rfl ⟨by rw[Ko],(hB0.trans (hb.mono (by omega))).zu _ _ (fB _)⟩;simp[tJ,results,results105,go_sem,q0,q1,nJ,gU]
theorem Ug(s:ByteArray)(w:World)(hs:s.size<=maxLen):
 Calls prog 105 #[.string s,.string ⟨#[34,92]⟩] w λe w'=>e=.returned (tJ (s.extract 0 (Sc.run xH (Sc.fw s))) (Sc.run xH (Sc.fw s)))/\Below w.heap.size w w':=by
 unfold maxLen at hs;have HR:=eZ (λk h1 h2=>Sc.run_end xH (Sc.fw s) k h1 h2);obtain⟨R0,hR0⟩:=fq (Sc.run xH (Sc.fw s));rw[hR0]at HR⊢;clear hR0
 go_enter func105,ntmps105
 go_wp2_with fail
 obtain⟨w0,hw0⟩:∃w0,w0=w.alloc (.cells #[.string ⟨#[]⟩,.int .i64 0] 131):=⟨_,rfl⟩
 have hB0:Below w.heap.size w w0:=hw0▸fo w _;have hz0:w0.heap.size=w.heap.size+1:=by rw[hw0];exact size_alloc w _
 have H0:EI w0 w.heap.size 0 (.string ⟨#[]⟩):=hw0▸qh rfl;have H1:EI w0 w.heap.size 1 (.int .i64 0):=hw0▸qh rfl;rw[<-hw0];clear hw0
 go_loopg [] s.size (λgf wr=>∃(pos:Nat),wr.heap[w.heap.size+1]?=some (.stringIter s pos)/\Below w0.heap.size w0 wr/\Hid (∀j,j<pos->xH ((Sc.fw s).getD j 0)=true)/\pos<=s.size/\s.size<=pos+gf)
 case atStart=>exact⟨0,by rw[<-hz0];exact xM w0 s 0,(fI _ w0).alloc (fB _) _,eZ (λj h=>absurd h (qJ j)),ic _,by omega⟩
 case round=>
  obtain⟨pos,hit,hb,hall,hle,hf⟩:=hrel;by_cases hlt2:pos<s.size
  ·obtain⟨g',rfl⟩:∃g',gk=g'+1:=⟨gk-1,by omega⟩
   have hnx:∀ty,(Instr.next (.pointer (some ⟨w.heap.size+1,0,none⟩)) true ty).run prog wr=_:=λty=>BF wr (w.heap.size+1) s pos ty hit hlt2
   have hwd:=xS s pos hlt2;have hwn:=E6 s pos hlt2;have hov:=Sg.DT s pos hlt2;rw[pK s pos hlt2]at hwd hwn hov;have hgd:=Sc.jo s pos;have ae:=Qw s pos hlt2;have hva:=CX s pos;have hbd:=IA s pos;obtain⟨K,hK⟩:=fq ((Utf8.decode s pos).2);obtain⟨R,hR⟩:=fq ((Utf8.decode s pos).1);rw[hK]at hwd hwn hov hnx;rw[hR]at ae hva hbd hnx;have hit2:=vI wr (w.heap.size+1) s pos (pos+K) hit;have hb2:=qK hb (k:=w.heap.size+1) (by omega) s (pos+K);obtain⟨W,hWd⟩:=fq (wr.iterAt (w.heap.size+1) s (pos+K));rw[hWd]at hnx hit2 hb2;have hcall:=Y1 (R:Int) W (by omega) (by omega) hva;rw[ae]at hcall;have aa:xH (s.get! pos).toNat=true->∀j,j<pos+K->xH ((Sc.fw s).getD j 0)=true:=by
    intro hc j hj;rcases Hw j pos with h|h|h
    ·exact hall.out j h
    ·subst h;rw[hgd];exact hc
    rw[Sc.jo];exact Qy _ (hov j h hj)
   cases hc:xH (s.get! pos).toNat with
   |true=>
    rw[hc]at hcall;obtain⟨HC,HA⟩:=fT hcall (aa hc);clear hall aa hcall hc hgd hit hb ae hva hbd hov hK hR hWd;go_wp2_with fail
    refine HC.out.mono ?_;rintro e W1 ⟨rfl,hb3⟩;have hit3:=(hb3.block _ (xI.1 hit2).1).trans hit2;have hb4:=hb2.trans (hb3.mono hb2.size);go_wp2
    go_roundg g'
    case measure=>omega
    case rel=>exact⟨pos+K,hit3,hb4,HA,hwn,by omega⟩
   |false=>
    rw[hc]at hcall;have hres:=HR.out pos hall.out (.inr ⟨by rw[Sc.gJ];exact hlt2,by rw[hgd];exact hc⟩);have HC:=eZ hcall;subst hres;clear hall aa hcall hc hgd hit hb ae hva hbd hov hK hR hWd HR;go_wp2_with fail
    refine HC.out.mono ?_;rintro e W1 ⟨rfl,hb3⟩;have hb4:=hb2.trans (hb3.mono hb2.size);have q0:=(iq hb4 H0).1;have q1:=(iq hb4 H1).1;have z0:=(iq hb4 H0).2;have z1:=(iq hb4 H1).2;go_wp2_with fail
    refine pW (v:=tJ (s.extract 0 R0) R0) ?_ rfl ⟨rfl,(hB0.trans (hb4.mono (by omega))).zu _ _ (fB _)⟩;simp[tJ,results,results105,go_sem,q0,q1,nJ,gU]
  have hnx:∀ty,(Instr.next (.pointer (some ⟨w.heap.size+1,0,none⟩)) true ty).run prog wr=_:=λty=>xN wr (w.heap.size+1) s pos ty hit hlt2
  obtain rfl:pos=s.size:=by omega
  have hres:=HR.out s.size hall.out (.inl (Sc.gJ s).symm);subst hres;have q0:=(iq hb H0).1;have q1:=(iq hb H1).1;have z0:=(iq hb H0).2;have z1:=(iq hb H1).2;clear hall hit HR;go_wp2_with fail
  refine pW (v:=tJ s s.size) ?_ rfl ⟨by rw[Ko],(hB0.trans (hb.mono (by omega))).zu _ _ (fB _)⟩;simp[tJ,results,results105,go_sem,q0,q1,nJ,gU]
end
section
open Go.RowKit
open Sg
open Es
inductive Pc where
 |UH
 |bad
 |say (t:ByteArray) (n:Nat)
def Pc.val:Pc->Value
 | .UH=>.iface 126 (.agg #[])
 | .bad=>.iface 128 (.agg #[])
 | .say t n=>.iface 131 (tJ t n)
def Rc(s:ByteArray):Pc:=
 if([39,39]:List UInt8).isPrefixOf s.data.toList=true then .say ⟨#[39]⟩ 2
 else if(s.get! 0).toNat=39 then .UH
 else .say (s.extract 0 (Sc.run nq1 (Sc.fw s))) (Sc.run nq1 (Sc.fw s))
def Re(s:ByteArray):Pc:=
 if(s.get! 0).toNat=34 then .UH
 else if(s.get! 0).toNat=92 then(match esc s.data.toList with
  |some (v,k)=>.say (Utf8.encode v) k
  |none=>.bad)
 else .say (s.extract 0 (Sc.run xH (Sc.fw s))) (Sc.run xH (Sc.fw s))
theorem WQ(s p:ByteArray)(w:World):Calls prog 79 #[.string s,.string p] w λe w'=>e=.returned (.bool (p.data.toList.isPrefixOf s.data.toList))/\w'=w:=Any.strings_HasPrefix (L:=S8) s p w
theorem CY:prog.concrete 131=true:=by kernel_rfl
theorem Gf:prog.concrete 126=true:=by kernel_rfl
theorem Gg:prog.concrete 128=true:=by kernel_rfl
theorem Ye(s:ByteArray)(w:World)(hs:s.size<=maxLen)(h0:0<s.size):
 Calls prog 72 #[.string s] w λe w'=>e=.returned (Rc s).val/\Below w.heap.size w w':=by
 have HI:=eZ (Uf s w hs);have hp:=WQ s ⟨#[39,39]⟩ w;have c1:=CY;have c2:=Gf;have c3:=Gg;unfold maxLen at hs;have hg:(s[0]'h0)=s.get! 0:=Sc.lL s 0 h0;obtain⟨R0,hR0⟩:=fq (Sc.run nq1 (Sc.fw s));unfold Rc;rw[hR0]at HI⊢;rw[show(⟨#[39,39]⟩:ByteArray).data.toList=[39,39]from rfl]at hp;cases hpre:([39,39]:List UInt8).isPrefixOf s.data.toList with
 |true=>
  rw[hpre]at hp;have HP:=eZ hp;clear hp hpre hR0 HI
  go_enter func72,ntmps72
  go_wp2_with fail
  refine HP.out.mono ?_;rintro e w1 ⟨rfl,rfl⟩;go_wp2;go_ret;exact⟨rfl,fI _ _⟩
 |false=>
  rw[hpre]at hp;have HP:=eZ hp;rw[eX (by decide)];by_cases aa:(s.get! 0).toNat=39
  ·rw[eY aa];have g:(((s[0]'h0).toNat:Int)==39)=true:=by rw[hg,aa];rfl
   clear hp hpre hR0 HI hg aa
   go_enter func72,ntmps72
   go_wp2_with fail
   refine HP.out.mono ?_;rintro e w1 ⟨rfl,rfl⟩;go_wp2;go_ret;exact⟨rfl,fI _ _⟩
  rw[eX aa];have g:(((s[0]'h0).toNat:Int)==39)=false:=iW.2 (by rw[hg];omega);clear hp hpre hR0 hg aa
  go_enter func72,ntmps72
  go_wp2_with fail
  refine HP.out.mono ?_;rintro e w1 ⟨rfl,rfl⟩;go_wp2_with fail
  refine HI.out.mono ?_;rintro e w1 ⟨rfl,hb⟩;go_wp2;go_ret;exact⟨rfl,hb⟩
theorem Yf(s:ByteArray)(w:World)(hs:s.size<=maxLen)(h0:0<s.size):
 Calls prog 73 #[.string s] w λe w'=>e=.returned (Re s).val/\Below w.heap.size w w':=by
 have HI:=eZ (Ug s w hs);have he:=IV s w hs;have c1:=CY;have c2:=Gf;have c3:=Gg;unfold maxLen at hs;have hg:(s[0]'h0)=s.get! 0:=Sc.lL s 0 h0;obtain⟨R0,hR0⟩:=fq (Sc.run xH (Sc.fw s));unfold Re;rw[hR0]at HI⊢;by_cases aa:(s.get! 0).toNat=34
 ·rw[eY aa];have g:(((s[0]'h0).toNat:Int)==34)=true:=by rw[hg,aa];rfl
  clear he hR0 HI hg aa
  go_enter func73,ntmps73
  go_wp2;go_ret;exact⟨rfl,fI _ _⟩
 rw[eX aa];have g:(((s[0]'h0).toNat:Int)==34)=false:=iW.2 (by rw[hg];omega);by_cases ae:(s.get! 0).toNat=92
 ·rw[eY ae];have g2:(((s[0]'h0).toNat:Int)==92)=true:=by rw[hg,ae];rfl
  cases hE:esc s.data.toList with
  |none=>
   rw[hE]at he;have HE:=eZ (show Calls prog 106 #[.string s] w λe w'=>e=.returned (.tuple #[.string ⟨#[]⟩,.int .i64 0])/\Below w.heap.size w w' from he);clear he hR0 HI hg aa hE ae
   go_enter func73,ntmps73
   go_wp2_with fail
   refine HE.out.mono ?_;rintro e w1 ⟨rfl,hb⟩;go_wp2;go_ret;exact⟨rfl,hb⟩
  |some x=>
   obtain⟨v,k⟩:=x;have hk:=Qo.wK hE;have hk0:(0:Int)<(k:Int):=by omega
   rw[hE]at he;have HE:=eZ (show Calls prog 106 #[.string s] w λe w'=>e=.returned (.tuple #[.string (Utf8.encode v),.int .i64 k])/\Below w.heap.size w w' from he);dsimp only;generalize Utf8.encode v=V at*;clear he hR0 HI hg aa hE ae
   go_enter func73,ntmps73
   go_wp2_with fail
   refine HE.out.mono ?_;rintro e w1 ⟨rfl,hb⟩;go_wp2;go_ret;exact⟨rfl,hb⟩
 rw[eX ae];have g2:(((s[0]'h0).toNat:Int)==92)=false:=iW.2 (by rw[hg];omega);clear he hR0 hg aa ae
 go_enter func73,ntmps73
 go_wp2_with fail
 refine HI.out.mono ?_;rintro e w1 ⟨rfl,hb⟩;go_wp2;go_ret;exact⟨rfl,hb⟩
end
end Go.Proofs.YtmkkdjpebbdikaaGreatDoor

import Derived.Test.YtfbiffdmhcjhbaaGreatZa25
set_option linter.all false
set_option maxHeartbeats 16000000
set_option maxRecDepth 100000
set_option synthInstance.maxSize 4000
set_option synthInstance.maxHeartbeats 0
namespace Go.Proofs.YtfbiffdmhcjhbaaGreat
open Go.RowKit Tryz
namespace Ps
open Ar Fl
open Rw (R E)
structure BL(l:List Tk)(depth b:Nat)(B:Bs)(P1:PS)(ES:List E)(a i:Nat)(q:PS)(up:Int)(e':Nat):Prop where
 pl:places l depth b P1 (holder P1) ES=places l depth b q up (ES.drop i)
 op:sS l B e' q
 hu:up=holder q
 en:qD l b e' (ES.drop i)
 lo:a<=e'
 hi:e'<=b
 st:q.st.length<=depth
 sz:q.s.t.length<=P1.s.t.length+3*i
 dd:q.s.d=P1.s.d
 rd:q.read=P1.read
 NT:i=0->e'=a
 RV:∀z,0<i->ES[i-1]?=some z->e'=z.au
 top:0<i->∃t k,q.st=t::k/\t.has=false
theorem BL.start{l:List Tk}{depth b:Nat}{B:Bs}{P1:PS}{ES:List E}{a:Nat}(h:sS l B a P1)(hE:qD l b a ES)(hab:a<=b)(hst:P1.st.length<=depth):BL l depth b B P1 ES a 0 P1 (holder P1) a:=
 ⟨rfl,h,rfl,hE,fC _,hab,hst,Nat.le_add_right _ _,rfl,rfl,λ_=>rfl,λ_ h=>absurd h (H8 _),λh=>absurd h (H8 _)⟩
theorem drop_cons{ES:List E}{i:Nat}{en:E}(h:ES[i]?=some en):ES.drop i=en::ES.drop (i+1):=by
 have hi:=(fT.1 h).1;have he:=(fT.1 h).2;rw[sM hi,he]
theorem BL.bounds{l:List Tk}{depth b:Nat}{B:Bs}{P1:PS}{ES:List E}{a i:Nat}{q:PS}{up:Int}{e':Nat}(h:BL l depth b B P1 ES a i q up e'){en:E}(hx:ES[i]?=some en):e'<=en.from'/\en.from'<en.au/\en.au<=b:=by
 have:=h.en;rw[drop_cons hx]at this;exact⟨this.1,this.2.1,this.2.2.1⟩
theorem BL.step{l:List Tk}{depth b:Nat}{B:Bs}{P1:PS}{ES:List E}{a i:Nat}{q:PS}{up:Int}{e':Nat}(h:BL l depth b B P1 ES a i q up e')(hB:B.1<=a)(hb:b<=l.length){en:E}(hx:ES[i]?=some en)(h0:(place l depth q en).1=0):
 ∃t k,(place l depth q en).2.st=t::k/\BL l depth b B P1 ES a (i+1) (place l depth q en).2 t.cur en.au:=by
 have h1:=h.lo;have h2:=h.hi;have he:=h.en;have hp:=h.pl;rw[drop_cons hx]at he hp;obtain⟨g1,g2,g3,g4⟩:=he;have hd:=Fa l depth q en;have hl:=yV l depth q en;have hs:=BC l depth q en h.st;rcases wU (depth:=depth) h.op (by omega) g1 g2 (by omega)with⟨k1,k2,k3,t,k,k4,k5⟩|⟨k1,_⟩
 ·refine⟨t,k,k4,?_⟩;have hz:=h.sz;rw[places,eT k1]at hp;obtain⟨q',hq⟩:∃q',(place l depth q en).2=q':=⟨_,rfl⟩
  rw[hq]at k2 k3 k4 hd hl hs hp⊢;rw[k4]at hp;refine⟨hp,k2,?_,g4,by omega,g3,hs,by omega,hd.trans h.dd,k3.trans h.rd,λh=>absurd h (Nat.succ_ne_zero _),λz _ hz=>?_,λ_=>⟨t,k,k4,k5⟩⟩
  ·rw[lS,k4];show t.cur=if t.has=true then t.node else t.cur
   rw[eQ (by rw[k5];decide)]
  rw[lJ,hx]at hz;injection hz with hz
  rw[hz]
 exact absurd h0 k1
theorem BL.fail{l:List Tk}{depth b:Nat}{B:Bs}{P1:PS}{ES:List E}{a i:Nat}{q:PS}{up:Int}{e':Nat}(h:BL l depth b B P1 ES a i q up e')(hB:B.1<=a)(hb:b<=l.length){en:E}(hx:ES[i]?=some en)(h0:(place l depth q en).1≠0):
 (place l depth q en).2=q/\5<=(place l depth q en).1/\(place l depth q en).1<=10/\(place l depth q en).1≠9/\places l depth b P1 (holder P1) ES=(false,{q with s:=err l q.s up en.from' b (place l depth q en).1}):=by
 have h1:=h.lo;have h2:=h.hi;have he:=h.en;have hp:=h.pl;rw[drop_cons hx]at he hp;obtain⟨g1,g2,g3,g4⟩:=he;rcases wU (depth:=depth) h.op (by omega) g1 g2 (by omega)with⟨k1,_⟩|⟨k1,k2,k3,k4,k5⟩
 ·exact absurd k1 h0
 refine⟨k2,k3,k4,k5,?_⟩;rw[hp,places,eQ h0]
theorem BL.done{l:List Tk}{depth b:Nat}{B:Bs}{P1:PS}{ES:List E}{a:Nat}{q:PS}{up:Int}{e':Nat}(h:BL l depth b B P1 ES a ES.length q up e')(hne:ES≠[]):
 places l depth b P1 (holder P1) ES=(true,q)/\(∃z,ES.getLast?=some z/\e'=z.au)/\∃t k,q.st=t::k/\t.has=false:=by
 have hl:0<ES.length:=Hz.2 hne
 refine⟨?_,?_,h.top hl⟩
 ·rw[h.pl,List.drop_length];rfl
 cases hz:ES.getLast? with
 |none=>rw[LJ]at hz;exact absurd hz hne
 |some z=>
  refine⟨z,rfl,h.RV z hl ?_⟩;rw[Qn]at hz;exact hz
def Fj(l:List Tk)(rs:List R)(depth aa:Nat)(q:Bool×PS)(RS:Nat):PS:=
 if q.1=true then
  if lo l RS aa<back l aa (lo l RS aa)then
   match q.2.st with
   |t::k=>{(value l rs depth q.2 t.cur (lo l RS aa)).1 with st:={t with has:=(value l rs depth q.2 t.cur (lo l RS aa)).2}::k}
   |[]=>q.2
  else q.2
  else q.2
theorem Nz(l:List Tk)(rs:List R)(depth:Nat)(p:PS)(r:R)(h:(Rw.lC l r).1≠[]):
 body l rs depth p r=Fj l rs depth r.au (places l depth (back l r.au (lo l r.from' r.au)) (gu p (lo l r.from' r.au)) (holder (gu p (lo l r.from' r.au))) (Rw.lC l r).1) (Rw.lC l r).2:=by
 unfold body;dsimp only;rw[eQ h];rfl
theorem KX(l:List Tk)(rs:List R)(depth:Nat)(p:PS)(r:R)(h:(Rw.lC l r).1=[]):
 body l rs depth p r=bare l rs depth (gu p (lo l r.from' r.au)) r (lo l r.from' r.au) (back l r.au (lo l r.from' r.au)):=by
 unfold body;dsimp only;rw[eT h]
end Ps
section
open Go.RowKit
open Sg
open Sq
theorem RJ:Ty prog oG 106 112 32:=Ty.of (z:=.agg #[.bool false,.int .i64 0,.int .i64 0,.int .i64 0]) underlying106 (by kernel_rfl) (by kernel_rfl) rfl (λw=>by kernel_rfl)
theorem Ah(v:Value)(x:Rw.R)(w:World)(hk:x.kind≠5):
 Calls prog 71 #[v,QG x] w (sw 112 [] x.from' w):=by
 obtain⟨k,f,t,c⟩:=x;dsimp only at hk⊢;have g:((k:Int) !=5)=true:=by simp;omega
 clear hk
 go_enter func71,ntmps71
 go_wp2_with fail
 go_quiet (fail)
 go_wp2_with fail
 go_ret2;exact⟨_,rfl,jq oG _ _,gB (eZ w _) nq⟩
theorem Ai(v:Value)(l:List Tk)(F M T:Nat)(c:Int)(w:World)(h:Reads iZ w v l)(hs:l.length<=100000)(hf:∀x∈l,x.2.1<=1000000)(h1:0<M)(hT:F+M=T)(h3:T<=l.length):
 Calls prog 71 #[v,.agg #[.int .i64 5,.int .i64 F,.int .i64 T,.int .i64 c]] w (sw 112 (Rw.kT F ((l.drop F).take M)) (Rw.oJ F ((l.drop F).take M)) w):=by
 have h2:F+M<=l.length:=by omega
 have ah:=eu (λW (hb:Below w.heap.size w W) p (hp:p<=M)=>Q7 v l F M p W (h.below hb) (by omega) h2 hp);obtain⟨a,cap,rfl⟩:=h.shape;have hlen:((l.drop F).take M).length=M:=by rw[jQ,iq];omega
 have hg:=Ff l F M;obtain⟨ts,hts⟩:=eX ((l.drop F).take M);rw[hts]at hlen hg ah⊢;rw[hT]at ah;have HT:=eu hT;have h4:F<=T/\M<=T:=by omega
 have ai:=eu (λW (hb:Below w.heap.size w W) j x (hj:ts[j]?=some x)=>iG (h.below hb) (F+j) x (hg j x hj));have aC:=eu (λj x (hj:ts[j]?=some x)=>hf x (nQ (hg j x hj)));obtain⟨HLen,HL⟩:=fD hlen (Rw.M4 ts);have hld:=Rw.Ey ts;rw[hlen]at hld;obtain⟨A,hA⟩:=eX (Rw.ik ts);obtain⟨DS,aL⟩:=eX (Rw.mO F ts A);obtain⟨KQ,aM⟩:=eX (Rw.mP ts A);have az:=Rw.KB F ts;have hra:=Rw.KC F ts;rw[hA]at az hra HL hld;rw[aM,aL]at az;obtain⟨EB,aN⟩:=eX (Rw.kT F ts);obtain⟨aj,aO⟩:∃aj,Rw.oJ F ts=aj:=⟨_,rfl⟩
 rw[aN]at az hra;rw[aO]at hra;rw[aN,aO];have HG:=eu (λe w'=>show(∃u,e=.returned (.tuple #[u,.int .i64 aj])/\w'.ownsRow w.heap.size 112 4 u EB.length (oG.all EB)/\Below w.heap.size w w')->sw 112 EB aj w e w' from λh=>h);obtain⟨Q,hQ⟩:=eX (sw 112 EB aj w);rw[hQ]at HG⊢;obtain⟨aP,aX,aY,aZ⟩:=jk az hra aL aM;obtain⟨y,hy⟩:=iT ts 0 (by omega);have bf:=Rw.GX ts y hy;have hy1:=aC.out 0 y hy;obtain⟨HY,bF⟩:=fD hy bf;obtain⟨N,hN⟩:=eX (l.length);rw[hN]at hs h3 ah⊢;obtain⟨w1,hw1⟩:=eX (w.alloc (.cells #[.int .i64 5,.int .i64 F,.int .i64 T,.int .i64 c] 67));obtain⟨Br,hBr⟩:=eX (w.heap.size);have hb1:=eZ w (.cells #[.int .i64 5,.int .i64 F,.int .i64 T,.int .i64 c] 67);have c1:w1.cell? ⟨Br,1,none⟩=some (.int .i64 F):=by rw[<-hw1,<-hBr];exact at_new rfl
 have c2:w1.cell? ⟨Br,2,none⟩=some (.int .i64 T):=by rw[<-hw1,<-hBr];exact at_new rfl
 rw[hw1]at hb1;obtain⟨HB1,HW1,bg⟩:=gW hb1 hw1 hBr;have bn:=eu (λW (hb:Below w1.heap.size w1 W)=>fe hb c1);have aA:=eu (λW (hb:Below w1.heap.size w1 W)=>fe hb c2);clear hT h2 h hf hts hlen hg hA aL aM az hra aN aO hQ hy bf hN hw1 hBr hb1 c1 c2
 go_enter func71,ntmps71
 go_upto_region 3 with fail
 rw[HW1.out,bg.out];clear HW1 bg;have c1:=bn.out w1 (fu _ _);have c2:=aA.out w1 (fu _ _)
 go_upto_block 0 with fail
 go_cut [6] (λq wx=>q=.int .i64 (F+A:Nat)/\w1=wx)
 case first=>
  go_wp2_with fail
  go_loopw [6] (λiv wr=>∃p:Nat,iv=.int .i64 (F+p:Nat)/\p<=M/\Hid (∀j x,j<p->ts[j]?=some x->Sc.counts x.1=false)/\w1=wr) (λiv _=>T-(intOf iv).toNat)
  case atStart=>exact⟨0,by go_num,gG _,eu (λj x h=>absurd h (uY j)),rfl⟩
  case round=>
   obtain⟨p,rfl,hp,HA,rfl⟩:=hrel;by_cases hlt:p<M
   ·obtain⟨x,hx⟩:=iT ts p (by rw[HLen.out];exact hlt);obtain⟨b,off,rfl,d0,-,-⟩:=ai.out w1 HB1.out p x hx;have hpt:F+p<T:=by have:=HT.out;omega
    have hi:((F+p:Nat):Int)<(T:Int):=by omega
    have hi2:((F+p:Nat):Int)<(N:Int):=by omega
    have hc:=λW=>rF x.1 W
    cases hq:Sc.counts x.1 with
    |true=>
     rw[hq]at hc;have hres:=HL.out p HA.out (.inr ⟨x,hx,hq⟩);obtain⟨HC,aQ⟩:=fD hc hres;clear hc hq HA hx hres HL;go_wp2_with fail
     refine(HC.out _).mono ?_;rintro e w2 ⟨rfl,rfl⟩;go_wp2_with fail
     go_meet
     exact⟨by rw[aQ.out];go_num,rfl⟩
    |false=>
     rw[hq]at hc
     have HA2:=eu (λj y (hj:j<p+1)(hy:ts[j]?=some y)=>show Sc.counts y.1=false by
      rcases Qy.1 hj with h|h
      ·exact HA.out j y h hy
      subst h;rw[hx]at hy;injection hy with hy;subst hy;exact hq)
     have HC:=eu hc;clear hc hq HA hx HL;go_wp2_with fail
     refine(HC.out _).mono ?_;rintro e w2 ⟨rfl,rfl⟩;go_wp2_with fail
     go_roundw
     case rel=>exact⟨p+1,by go_num,by omega,HA2,trivial⟩
     case measure=>simp[intOf];omega
   obtain rfl:p=M:=by omega
   have hne:¬(((F+p:Nat):Int)<(T:Int)):=by have:=HT.out;omega
   have hres:=HL.out p HA.out (.inl HLen.out.symm);have aQ:=eu hres;clear HA HL hlt hres;go_wp2_with fail
   go_meet
   exact⟨by rw[aQ.out];go_num,rfl⟩
 case rest=>
 obtain⟨rfl,rfl⟩:=hcut;obtain⟨b,off,rfl,-,y1,-⟩:=ai.out w1 HB1.out 0 y HY.out;simp only[sO]at y1;have bL:(F:Int)<(N:Int):=by have:=HT.out;omega
 clear HL;have aR:=eu (λp x (hx:ts[p]?=some x)=>show Rw.x9 ts p=(x.2.1:Int)-(y.2.1:Int)by unfold Rw.x9;rw[Rw.sF _ _ _ hx,bF.out])
 go_upto_block 2 with fail
 clear c1 c2 y1
 go_cut [6,9] (λiv ev wx=>iv=.int .i64 (F+KQ:Nat)/\wx.ownsRow w1.heap.size 112 4 ev DS.length (oG.all DS)/\Below w1.heap.size w1 wx/\KQ<=M/\DS.length<=KQ)
 case first=>
  go_wp2_with fail
  go_loopw [6,9] (λiv ev wr=>∃(p:Nat)(es:List Rw.E),iv=.int .i64 (F+p:Nat)/\p<=M/\es.length<=p/\Hid (es++Rw.mO F ts p=DS)/\Hid (Rw.mP ts p=KQ)/\wr.ownsRow w1.heap.size 112 4 ev es.length (oG.all es)/\Below w1.heap.size w1 wr) (λiv _ _=>T-(intOf iv).toNat)
  case atStart=>exact⟨A,[],by go_num,hld,gG _,aY,aZ,jq oG _ _,fu _ _⟩
  case round=>
   obtain⟨p,es,rfl,hp,hel,HE,HK,hown,hb⟩:=hrel;obtain⟨HO,HB,ag⟩:=gW hown hb (eU HB1.out hb);have c2:=aA.out wr hb;by_cases hlt:p<M
   ·obtain⟨x,hx⟩:=iT ts p (by rw[HLen.out];exact hlt);obtain⟨b',off',he,d0,d1,-⟩:=ai.out wr ag.out p x hx;injection he with he
    injection he with e1 e2
    subst e1 e2;have hpt:F+p<T:=by have:=HT.out;omega
    have hi:((F+p:Nat):Int)<(T:Int):=by omega
    have hi2:((F+p:Nat):Int)<(N:Int):=by omega
    have hhd:=Rw.kY ts p x hx;have hx1:=aC.out p x hx;have ax:=aR.out p x hx;obtain⟨K,hK⟩:=eX (x.1);rw[hK]at d0 hhd;by_cases q:K=5
    ·have hst:=Rw.Ch F ts p (by rw[hhd];exact q);have hsk:=ah.out;have hbi:=Rw.jR ts (p+1) (by rw[HLen.out];omega);rw[HLen.out]at hbi;obtain⟨P2,hP2⟩:=eX (p+1+Rw.blanks (ts.drop (p+1)));have hs1:=λW (hb:Below w.heap.size w W)=>ah.out W hb (p+1) (by omega)
     rw[hP2]at hst hs1 hbi;rw[show((F+(p+1):Nat):Int)=(F:Int)+(p:Int)+1 from by omega]at hs1;have hp2:p+1<=P2:=by omega
     obtain⟨bq,ak⟩:=fD hst hs1;have aS:=eu (show oG.cells (Rw.nz F ts p)=[.bool true,.int .i64 ((x.2.1:Int)-(y.2.1:Int)),.int .i64 ((F:Int)+(p:Int)),.int .i64 ((F:Int)+(p:Int)+1)]by simp[oG,zF,Rw.nz,ax]);have g:((K:Int)==5)=true:=by simp;omega
     have av:=eu hb.size;clear hst hsk hs1 hP2 hx hhd q hK hown hb ax;go_wp2_with (at_builtin;go_must (refine jA RJ rfl (.tmp 52) (.tmp 64) rfl w1.heap.size _ es (Rw.nz F ts p) _ aS.out rfl HO.out rfl (by simp only[maxLen];omega) (by omega) av.out ?_;intro v7 w7 aa aD;have bG:=eu aa;have aT:=eu ((HB.out.alloc av.out _).grown aD (by have:=av.out;simp;omega) (λk hk=>(HO.out.lt k hk).1));have c2:=aA.out w7 aT.out;clear aa aD))
     refine(ak.out w7 (eU HB1.out aT.out)).mono ?_;rintro e w8 ⟨rfl,rfl⟩;have bH:(es++[Rw.nz F ts p]).length=es.length+1:=by simp
     go_wp2_with fail
     go_roundw
     case rel=>
      (repeat apply Exists.intro)
      refine⟨⟨P2,es++[Rw.nz F ts p],?_,hbi,by omega,eu (by rw[lT,<-HE.out,bq.out.1];rfl),eu (bq.out.2.symm.trans HK.out),bG.out,aT.out⟩,rfl⟩
      go_num
     case measure=>have:=HT.out;simp[intOf];omega
    have hst:=Rw.vz F ts p (by rw[hhd];exact q);have g:((K:Int)==5)=false:=by simp;omega
    have hk:p=KQ:=by rw[<-HK.out];exact hst.2.symm
    have he:es=DS:=by rw[<-HE.out,hst.1,kH]
    subst hk he;clear hst q hK hhd hx hown hb ax;go_wp2_with fail
    go_meet
    exact⟨rfl,HO.out,HB.out,hp,hel⟩
   have hst:=Rw.DU F ts p (by rw[HLen.out];omega);have hpt:¬(((F+p:Nat):Int)<(T:Int)):=by have:=HT.out;omega
   have hk:p=KQ:=by rw[<-HK.out];exact hst.2.symm
   have he:es=DS:=by rw[<-HE.out,hst.1,kH]
   subst hk he;clear hst hown hb;go_wp2_with fail
   go_meet
   exact⟨rfl,HO.out,HB.out,hp,hel⟩
 case rest=>
 obtain⟨rfl,hown,hb,bI,hdl⟩:=hcut;obtain⟨HO,HB,ag⟩:=gW hown hb (eU HB1.out hb);have c2:=aA.out wc hb;have hk0:=Rw.KE F ts KQ;have hk1:=Rw.KF F ts KQ;obtain⟨V,hV⟩:=eX (Rw.oH ts KQ);rw[hV]at hk0 hk1;obtain⟨bz,bA,HV⟩:=gW hk0 hk1 hV;clear hk0 hk1 hV hown hb aY aZ
 go_upto_block 4 with fail
 go_cut [10] (λkv wx=>∃q:Nat,kv=.int .i64 (F+q:Nat)/\q<=M/\Hid (Rw.oH ts q=V)/\Hid (∀x,ts[q]?=some x->Rw.isProp x.1=false)/\wc=wx)
 case first=>
  go_wp2_with fail
  go_loopw [10] (λkv wr=>∃q:Nat,kv=.int .i64 (F+q:Nat)/\q<=M/\Hid (Rw.oH ts q=V)/\wc=wr) (λkv _=>T-(intOf kv).toNat)
  case atStart=>exact⟨KQ,by go_num,bI,HV,rfl⟩
  case round=>
   obtain⟨q,rfl,hq,ae,rfl⟩:=hrel;by_cases hlt:q<M
   ·obtain⟨x,hx⟩:=iT ts q (by rw[HLen.out];exact hlt);obtain⟨b',off',he,d0,d1,-⟩:=ai.out wc ag.out q x hx;injection he with he
    injection he with e1 e2
    subst e1 e2;have ay:F+q<T:=by have:=HT.out;omega
    have hi:((F+q:Nat):Int)<(T:Int):=by omega
    have hi2:((F+q:Nat):Int)<(N:Int):=by omega
    have hbi:=Rw.jR ts (q+1) (by rw[HLen.out];omega);rw[HLen.out]at hbi;have hs1:=ah.out wc ag.out (q+1) (by omega);have hkp:=Rw.G4 ts q x hx;obtain⟨Q2,aB⟩:=eX (q+1+Rw.blanks (ts.drop (q+1)));rw[aB]at hs1 hbi hkp;rw[show((F+(q+1):Nat):Int)=(F:Int)+(q:Int)+1 from by omega]at hs1;have hq2:q+1<=Q2:=by omega
    have ak:=eu hs1;obtain⟨K,hK⟩:=eX (x.1);rw[hK]at d0 hkp;have af:=eu hkp;have aF:=eu (fun(h:Rw.isProp K=false) z (hz:ts[q]?=some z)=>show Rw.isProp z.1=false by rw[hx]at hz;injection hz with hz;subst hz;rw[hK];exact h);clear hs1 hkp aB hx hK d1;by_cases q1:K=12
    ·have g:((K:Int)==12)=true:=by simp;omega
     have aU:=eu (show Rw.oH ts Q2=V by rw[<-ae.out];exact(af.out (by rw[q1];rfl)).symm);clear q1 aF af ae;go_wp2_with fail
     refine ak.out.mono ?_;rintro e w8 ⟨rfl,rfl⟩;go_wp2_with fail
     go_roundw
     case rel=>
      (repeat apply Exists.intro)
      refine⟨⟨Q2,?_,hbi,aU,trivial⟩,rfl⟩
      go_num
     case measure=>have:=HT.out;simp[intOf];omega
    have g12:((K:Int)==12)=false:=by simp;omega
    by_cases q2:K=14
    ·have g:((K:Int)==14)=true:=by simp;omega
     have aU:=eu (show Rw.oH ts Q2=V by rw[<-ae.out];exact(af.out (by rw[q2];rfl)).symm);clear q1 q2 aF af ae;go_wp2_with fail
     refine ak.out.mono ?_;rintro e w8 ⟨rfl,rfl⟩;go_wp2_with fail
     go_roundw
     case rel=>
      (repeat apply Exists.intro)
      refine⟨⟨Q2,?_,hbi,aU,trivial⟩,rfl⟩
      go_num
     case measure=>have:=HT.out;simp[intOf];omega
    have g14:((K:Int)==14)=false:=by simp;omega
    have aV:=eu (aF.out (by simp[Rw.isProp];omega));clear q1 q2 aF af ak;go_wp2_with fail
    go_meet
    exact⟨q,by go_num,hq,ae,aV,rfl⟩
   have ay:¬(((F+q:Nat):Int)<(T:Int)):=by have:=HT.out;omega
   have aV:=eu (λz (hz:ts[q]?=some z)=>show Rw.isProp z.1=false by have:=(fT.1 hz).1;have:=HLen.out;omega);go_wp2_with fail
   go_meet
   exact⟨q,by go_num,hq,ae,aV,rfl⟩
 case rest=>
 obtain⟨q,rfl,hq,ae,bB,rfl⟩:=hcut;obtain⟨sb,hsb⟩:∃sb:Bool,sb=(decide (q<M)&&Rw.gF (Rw.iQ (ts.drop q))):=⟨_,rfl⟩
 have aG:=eu hsb;clear hsb;go_upto_region 15 with fail
 go_cut [110] (λz wx=>z=.bool sb/\wc=wx)
 case first=>
  by_cases hlt:q<M
  ·obtain⟨x,hx⟩:=iT ts q (by rw[HLen.out];exact hlt);obtain⟨b',off',he,d0,d1,-⟩:=ai.out wc ag.out q x hx;injection he with he
   injection he with e1 e2
   subst e1 e2;have ay:F+q<T:=by have:=HT.out;omega
   have hi:((F+q:Nat):Int)<(T:Int):=by omega
   have hi2:((F+q:Nat):Int)<(N:Int):=by omega
   have hsc:=Nt x.1 wc;have hsb:=aG.out;rw[Rw.kY ts q x hx]at hsb;rw[show Rw.gF x.1=sb by rw[hsb];simp[hlt]]at hsc;have HSc:=eu hsc;clear hx hsc hsb d1;go_wp2_with fail
   refine HSc.out.mono ?_;rintro e w8 ⟨rfl,rfl⟩;go_wp2_with fail
   go_meet
   exact⟨rfl,rfl⟩
  have ay:¬(((F+q:Nat):Int)<(T:Int)):=by have:=HT.out;omega
  have hsb:sb=false:=by rw[aG.out];simp[hlt]
  subst hsb;go_wp2_with fail
  go_meet
  exact⟨rfl,rfl⟩
 case rest=>
 obtain⟨rfl,rfl⟩:=hcut
 go_upto_if 110 with fail
 go_cut [10] (λkv wx=>∃r:Nat,kv=.int .i64 (F+r:Nat)/\r<=M/\Hid (Rw.yh ts r=V)/\wc=wx)
 case first=>
  have hsb:=aG.out;by_cases hlt:q<M
  ·obtain⟨x,hx⟩:=iT ts q (by rw[HLen.out];exact hlt);rw[Rw.kY ts q x hx]at hsb;have aH:=bB.out x hx;cases sb with
   |true=>
    have hsc:Rw.gF x.1=true:=by simp[hlt]at hsb;exact hsb
    have hbi:=Rw.jR ts (q+1) (by rw[HLen.out];omega);rw[HLen.out]at hbi;have hs1:=ah.out wc ag.out (q+1) (by omega);have hkp:=Rw.G5 ts q x hx aH hsc;rw[ae.out]at hkp;obtain⟨Q2,aB⟩:=eX (q+1+Rw.blanks (ts.drop (q+1)));rw[aB]at hs1 hbi hkp;rw[show((F+(q+1):Nat):Int)=(F:Int)+(q:Int)+1 from by omega]at hs1;have ay:F+q<T:=by have:=HT.out;omega
    obtain⟨ak,af⟩:=fD hs1 hkp;clear hs1 hkp aB hx aH hsc hsb;go_wp2_with fail
    refine ak.out.mono ?_;rintro e w8 ⟨rfl,rfl⟩;go_wp2_with fail
    go_meet
    exact⟨Q2,rfl,hbi,eu af.out.symm,rfl⟩
   |false=>
    have hsc:Rw.gF x.1=false:=by simpa [hlt]using hsb.symm
    have hkp:=Rw.DT ts q x hx aH hsc;rw[ae.out]at hkp;have af:=eu hkp;clear hkp hx aH hsc hsb;go_wp2_with fail
    go_meet
    exact⟨q,by go_num,hq,eu af.out.symm,rfl⟩
  have bJ:sb=false:=by rw[hsb];simp[hlt]
  subst bJ;have hkp:=ae.out;rw[Rw.Kz ts q (by rw[HLen.out];omega)]at hkp;have af:=eu (show Rw.yh ts q=V by rw[Rw.KA ts q (by rw[HLen.out];omega)];exact hkp);clear hkp hsb;go_wp2_with fail
  go_meet
  exact⟨q,by go_num,hq,af,rfl⟩
 case rest=>
 obtain⟨r,rfl,hr,bC,rfl⟩:=hcut;clear aG ae bB;obtain⟨cb,hcb⟩:∃cb:Bool,cb=(decide (r<M)&&(Rw.iQ (ts.drop r)==6)):=⟨_,rfl⟩
 have aI:=eu hcb;clear hcb;go_upto_region 17 with fail
 go_cut [128] (λz wx=>z=.bool cb/\wc=wx)
 case first=>
  by_cases hlt:r<M
  ·obtain⟨x,hx⟩:=iT ts r (by rw[HLen.out];exact hlt);obtain⟨b',off',he,d0,d1,-⟩:=ai.out wc ag.out r x hx;injection he with he
   injection he with e1 e2
   subst e1 e2;have ay:F+r<T:=by have:=HT.out;omega
   have hi:((F+r:Nat):Int)<(T:Int):=by omega
   have hi2:((F+r:Nat):Int)<(N:Int):=by omega
   have hcb:=aI.out;rw[Rw.kY ts r x hx]at hcb;obtain⟨K,hK⟩:=eX (x.1);rw[hK]at d0 hcb;have g:((K:Int)==6)=cb:=by
    rw[hcb];by_cases h6:K=6
    ·subst h6;simp[hlt]
    have e1:((K:Int)==6)=false:=by simp;omega
    have e2:(K==6)=false:=by simp;exact h6
    rw[e1,e2];simp
   clear hx hcb hK d1;go_wp2_with fail
   go_meet
   exact⟨rfl,rfl⟩
  have ay:¬(((F+r:Nat):Int)<(T:Int)):=by have:=HT.out;omega
  have hsb:cb=false:=by rw[aI.out];simp[hlt]
  subst hsb;go_wp2_with fail
  go_meet
  exact⟨rfl,rfl⟩
 case rest=>
 obtain⟨rfl,rfl⟩:=hcut
 go_upto_if 128 with fail
 go_cut [9] (λev wx=>wx.ownsRow w1.heap.size 112 4 ev EB.length (oG.all EB)/\Below w1.heap.size w1 wx)
 case first=>
  have hcb:=aI.out;have aJ:=bC.out;cases cb with
  |true=>
   obtain⟨hlt,h6⟩:r<M/\Rw.iQ (ts.drop r)=6:=by simpa using hcb.symm
   have hv:V=((r+1:Nat):Int):=by rw[<-aJ];unfold Rw.yh;rw[eT h6]
   obtain⟨q2,hq2,hkq,bK,hkn,hke⟩:=bA.out (by omega);obtain rfl:q2=r+1:=by omega
   rw[HLen.out]at hkn;obtain⟨x,hx⟩:=iT ts KQ (by rw[HLen.out];exact hkn);obtain⟨b',off',he,d0,d1,-⟩:=ai.out wc ag.out KQ x hx;injection he with he
   injection he with e1 e2
   subst e1 e2;have hx1:=aC.out KQ x hx;have ax:=aR.out KQ x hx;have hrt:F+r<T:=by have:=HT.out;omega
   have hi2:((F+KQ:Nat):Int)<(N:Int):=by have:=HT.out;omega
   have hE:DS++[⟨false,Rw.x9 ts KQ,F+KQ,F+(r+1)⟩]=EB:=by rw[aP.out,hke]
   have aS:=eu (show oG.cells ⟨false,Rw.x9 ts KQ,F+KQ,F+(r+1)⟩=[.bool false,.int .i64 ((x.2.1:Int)-(y.2.1:Int)),.int .i64 ((F:Int)+(KQ:Int)),.int .i64 ((F:Int)+(r:Int)+1)]by simp[oG,zF,ax];omega);obtain⟨HE2,av⟩:=fD hE HB.out.size;have hz:DS.length<=100000:=by omega
   clear hcb aJ hv hq2 hke h6 hx ax hE d0 hkq bK;go_wp2_with (at_builtin;go_must (refine jA RJ rfl (.tmp 129) (.tmp 141) rfl w1.heap.size _ DS ⟨false,Rw.x9 ts KQ,F+KQ,F+(r+1)⟩ _ aS.out rfl HO.out rfl (by simp only[maxLen];omega) (by omega) av.out ?_;intro v7 w7 aa aD))
   rw[HE2.out]at aa
   go_meet
   exact⟨aa,(HB.out.alloc av.out _).grown aD (by have:=av.out;simp;omega) (λk hk=>(HO.out.lt k hk).1)⟩
  |false=>
   have hv:V=-1:=by
    rw[<-aJ];unfold Rw.yh;rw[eQ];intro h6;rw[h6]at hcb;by_cases hlt:r<M
    ·simp[hlt]at hcb
    rw[nM (by rw[HLen.out];omega)]at h6;cases h6
   have hE:DS=EB:=by rw[aP.out,bz.out hv,kH]
   subst hE;clear hcb aJ hv;go_wp2_with fail
   go_meet
   exact⟨HO.out,HB.out⟩
 case rest=>
 obtain⟨hown,hb⟩:=hcut
 rename World=>w9
 have hR:=Reads.fJ (E:=oG) hown;obtain⟨a3,aK,hv3⟩:=hR.shape;subst hv3;obtain⟨aW,bD⟩:=fD (eU HB1.out hb) (iK hown HB1.out.size);have hra:=aX.out;clear ah ai aC bz bA HV bC aI aP aX HO HB ag aR bn aA;rcases Oo EB with hnil|⟨E0,z,hz⟩
 ·subst hnil;have hrb:aj=F+A:=hra;have HD:=eu (HG.out _ w9 ⟨.slice none 0 0,rfl,jq oG _ _,aW.out⟩);clear hown hb hR hra;subst hrb;go_wp2_with fail
  exact HD.out
 rw[Qh]at hz;have hlen:EB.length=E0.length+1:=by rw[hz];simp
 obtain⟨m,hm⟩:=eX (E0.length);rw[hm]at hlen;have bE:EB[m]?=some z:=by rw[hz,<-hm];simp
 have hsz:=hR.size_le;simp only[maxLen]at hsz;rw[hlen]at hsz;obtain⟨b4,o4,rfl,-,-,-,z3⟩:=Nl hR m z bE;have hrb:aj=z.au:=by rw[hra,hz,Rw.Ci]
 have HD:=eu (λn=>HG.out (.returned (.tuple #[.slice (some ⟨b4,o4,none⟩) EB.length aK,.int .i64 z.au])) (w9.drewN n) ⟨.slice (some ⟨b4,o4,none⟩) EB.length aK,by rw[hrb],fI bD.out (gB (fu _ _) n),gB aW.out n⟩);have hm1:(m:Int)<(m:Int)+1:=by omega
 rw[hlen]at HD⊢;clear hown hb hR hra hz bE hm hrb hlen HG bD aW;go_wp2_with fail
 go_quiet (fail)
 go_wp2_with fail
 exact HD.out nq
theorem BM(v:Value)(l:List Tk)(x:Rw.R)(w:World)(h:Reads iZ w v l)(hs:l.length<=100000)(hf:∀x∈l,x.2.1<=1000000)(h1:x.from'<x.au)(h2:x.au<=l.length):
 Calls prog 71 #[v,QG x] w (sw 112 (Rw.lC l x).1 (Rw.lC l x).2 w):=by
 by_cases hk:x.kind=5
 ·obtain⟨k,f,t,c⟩:=x;dsimp only at hk h1 h2;subst hk;have e:Rw.lC l ⟨5,f,t,c⟩=(Rw.kT f ((l.drop f).take (t-f)),Rw.oJ f ((l.drop f).take (t-f))):=by unfold Rw.lC;rw[eT rfl]
  rw[e];exact Ai v l f (t-f) t c w h hs hf (by omega) (by omega) h2
 have e:Rw.lC l x=([],x.from'):=by unfold Rw.lC;rw[eQ hk]
 rw[e];exact Ah v x w hk
end
section
open Go.RowKit
open Sq
open Ar
theorem Da(a:Option Addr)(n cap:Nat)(w:World):Calls prog 9 #[.agg #[.slice a n cap]] w λe w'=>e=.returned (.agg #[.slice a n cap])/\Below w.heap.size w w':=by
 have hb:=mQ (eZ w (.cells #[.slice a n cap] 31)) (.cells #[.slice a n cap] 36);have HB:=eu hb;clear hb
 go_enter func9,ntmps9
 go_wp2_with fail
 refine o8 (v:=.agg #[.slice a n cap]) ?_ rfl ⟨rfl,HB.out⟩;simp[results,results9,go_sem]
end
end Go.Proofs.YtfbiffdmhcjhbaaGreat

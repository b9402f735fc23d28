import Derived.Test.YtmkkdjpebbdikaaGreatDoorZn15
import Derived.Test.YtmkkdjpebbdikaaGreatDoorZn17
import Derived.BigRegion
set_option linter.all false
set_option maxHeartbeats 16000000
set_option maxRecDepth 100000
namespace Go.Proofs.YtmkkdjpebbdikaaGreatDoor
open Go.RowKit Go.Proofs.Tryz
section
open Go.RowKit
open Sq
open Ar
theorem EA(v:Value)(l:List Nd)(w:World)(h:iM w v l)(hG:Ar.eu l)(hs:l.length<=9000)(hk:∀x∈l,x.ks.length<=9000):
 Calls prog 177 #[.agg #[v],.slice none 0 0] w (zR l w):=
 FX .none v l none 0 w h hG hs hk trivial (λk hk=>absurd hk (qJ k))
theorem G6(ch:Ch)(hn:ch.n=1)(v:Value)(l:List Nd)(w:World)(cb:Nat)(h:iM w v l)(hG:Ar.eu l)(hs:l.length<=9000)(hk:∀x∈l,x.ks.length<=9000)(ho:ch.ok l)(hc:w.cell? ⟨cb,0,none⟩=some ch.cell):
 Calls prog 177 #[.agg #[v],.slice (some ⟨cb,0,none⟩) 1 1] w (zR (ch.res l) w):=by
 have:=FX ch v l (some ⟨cb,0,none⟩) 1 w h hG hs hk ho (λk hk=>by
  rw[hn]at hk;obtain rfl:k=0:=by omega
  exact⟨cb,rfl,hc⟩)
 rw[hn]at this;exact this
end
section
open Go.RowKit
open Sq
open Ar
theorem Ud{l:List Nd}{up kind f t:Int}(hm:iH l up kind f t=true):∃(i:Nat),up=(i:Int)/\(Ch.add i kind f t).ok l/\addN l up kind f t=((Ch.add i kind f t).res l,(l.length:Int)):=by
 obtain⟨h0,h1,p,hp⟩:=xP hm;obtain⟨i,rfl⟩:∃i:Nat,up=(i:Int):=⟨up.toNat,by omega⟩
 have hf:=(Dl hm hp).1;have hp2:=hp;rw[jk]at hp2;refine⟨i,rfl,⟨p,hp2,hf⟩,?_⟩;unfold addN;rw[eY hm,hp];simp only[Ch.res,hp2,EY,jk]
def zo(R:List Nd×Int)(w:World)(e:Ending)(w':World):Prop:=
 ∃u,e=.returned (.tuple #[.agg #[u],.int .i64 R.2])/\iM w' u R.1/\(∃L,L.map Ln.nd=R.1/\PT w' w.heap.size u L)/\Below w.heap.size w w'
theorem U6:∀(v:Value)(l:List Nd)(up kind f t:Int)(w:World),iM w v l->Ar.eu l->l.length<=4000->(∀x∈l,x.ks.length<=4000)->
 Calls prog 159 #[.agg #[v],.int .i64 up,.int .i64 kind,.int .i64 f,.int .i64 t] w (zo (addN l up kind f t) w):=by
 intro v l up kind f t w h hG hs hk;obtain⟨a,cap,rfl⟩:=h.shape;obtain⟨R,hR⟩:=fq (addN l up kind f t);have HX:=eZ (λW (hb:Below w.heap.size w W)=>h.below hb);have aj:=eZ (λW (hb:Below w.heap.size w W)=>EA _ l W (h.below hb) hG (by omega) (λx hx=>jU (hk x hx) (by omega)));have ay:=eZ (fun(k:Nat) W cb (ho:(Ch.add k kind f t).ok l)(hb:Below w.heap.size w W)(hc:W.cell? ⟨cb,0,none⟩=some (Ch.add k kind f t).cell)=>G6 (.add k kind f t) rfl _ l W cb (h.below hb) hG (by omega) (λx hx=>jU (hk x hx) (by omega)) ho hc);have ak:=eZ (λW (hb:Below w.heap.size w W)=>X8 _ l up kind f t W (h.below hb) hG (by omega) (λx hx=>jU (hk x hx) (by omega)));have aa:=λhm=>Ud (l:=l) (up:=up) (kind:=kind) (f:=f) (t:=t) hm
 have hno:iH l up kind f t=false->addN l up kind f t=(l,-1):=λe=>by unfold addN;rw[e];rfl
 obtain⟨M,hM⟩:=fq (iH l up kind f t);rw[hM]at ak aa hno;rw[hR]at aa hno⊢;have HQ:=eZ (λu z w'=>show(R.2=z/\iM w' u R.1/\(∃L,L.map Ln.nd=R.1/\PT w' w.heap.size u L)/\Below w.heap.size w w')->zo R w (.returned (.tuple #[.agg #[u],.int .i64 z])) w' from λh=>⟨u,by rw[h.1],h.2⟩);obtain⟨Q,hQ⟩:=fq (zo R w);rw[hQ]at HQ⊢;obtain⟨N,hN⟩:=fq (l.length);rw[hN]at HX aj ay ak aa hs⊢;obtain⟨HN,af,av⟩:=jF hN aa hno;obtain⟨w1,hw1⟩:=fq ((w.alloc (.cells #[.slice a N cap] 31)).alloc (.cells #[.slice none 0 0] 31));obtain⟨Bt,az⟩:=fq (w.heap.size);obtain⟨Br,hBr⟩:=fq (w.heap.size+1);have hb1:=gX (fo w (.cells #[.slice a N cap] 31)) (.cells #[.slice none 0 0] 31);have ct:w1.cell? ⟨Bt,0,none⟩=some (.slice a N cap):=by rw[<-hw1,<-az];exact gI (at_new rfl)
 have cr:EI w1 Br 0 (.slice none 0 0):=by
  rw[<-hw1,<-hBr];have h:=qh (W:=w.alloc (.cells #[.slice a N cap] 31)) (C:=#[.slice none 0 0]) (t:=31) (k:=0) rfl;rw[size_alloc]at h;exact h
 rw[hw1]at hb1;obtain⟨Ba,hBa⟩:=fq (w1.heap.size);obtain⟨w2,hw2⟩:=fq (w1.alloc (.cells #[.int .i64 up,.int .i64 t,.int .i64 kind,.int .i64 f] 188));have hb2:Below w1.heap.size w1 w2:=hw2▸fo w1 _;have aA:=fu hb2 ct;have aB:=iq hb2 cr;have a0:w2.cell? ⟨Ba,0,none⟩=some (.int .i64 up):=by rw[<-hw2,<-hBa];exact at_new rfl
 have a1:w2.cell? ⟨Ba,1,none⟩=some (.int .i64 t):=by rw[<-hw2,<-hBa];exact at_new rfl
 have a2:w2.cell? ⟨Ba,2,none⟩=some (.int .i64 kind):=by rw[<-hw2,<-hBa];exact at_new rfl
 have a3:w2.cell? ⟨Ba,3,none⟩=some (.int .i64 f):=by rw[<-hw2,<-hBa];exact at_new rfl
 have hn1:Br≠Bt:=by omega
 have hn2:Br≠Ba:=by have h9:Br<w1.heap.size:=lt_of_cell cr.1;omega
 obtain⟨HB2,aC⟩:=fT (fD hb1 hb2) aB;have aM:=eZ (ak.out w2 (fD hb1 hb2));obtain⟨HW1,aD,aF,HW2,aG⟩:=sP hw1 az hBr hw2 hBa;have hwr:w.heap.size<=Br:=by omega
 clear h hG hk hR hQ hN hM aa hno hw1 az hBr hb1 cr hBa hw2 hb2 aB ct ak
 go_enter func159,ntmps159
 go_upto_region 1 with fail
 rw[HW1.out,aF.out,aD.out];clear HW1 aF aD;go_upto_region 2 with fail
 rw[HW2.out,aG.out];clear HW2 aG;go_wp2_with fail
 refine aM.out.mono ?_;rintro e w3 ⟨rfl,hb3⟩;have aH:=fu hb3 aA;have aI:=fu hb3 a0;have aJ:=fu hb3 a1;have a23:=fu hb3 a2;have a33:=fu hb3 a3;obtain⟨ag,HB3⟩:=fT (iq hb3 aC.out) (fD HB2.out hb3);clear hb3 aA a0 a1 a2 a3;cases M with
 |false=>
  have hr:=av.out rfl;have aK:=eZ (aj.out w3 HB3.out);clear aj af;go_wp2_with fail
  refine aK.out.mono ?_;rintro e w4 ⟨u,rfl,hn,⟨Lp,ah,ae⟩,hb⟩;obtain⟨ua,uc,rfl⟩:=hn.shape;rw[HN.out]at hn ae⊢;have hc:=iq hb ag.out;have ai:=hc.1;have aN:=hc.2;have HD:=eZ (HQ.out (.slice ua N uc) (-1) _ ⟨by rw[hr],by rw[hr];exact hn.set ai (.slice ua N uc),⟨Lp,by rw[hr];exact ah,(ae.vN (lt_of_cell ag.out.1) _).base HB3.out.size⟩,(fD HB3.out hb).setCell (p:=⟨Br,0,none⟩) hwr _⟩);clear hn hb hc hr ah ae;go_wp2_with fail
  refine pW (v:=.tuple #[.agg #[.slice ua N uc],.int .i64 (-1)]) ?_ rfl HD.out;simp[results,results159,go_sem,ai,gU]
 |true=>
  obtain⟨i,rfl,hok,hr⟩:=af.out rfl;have hcall:=ay.out i (w3.drew.alloc (.cells #[.iface 188 (.agg #[.int .i64 i,.int .i64 t,.int .i64 kind,.int .i64 f])] 20)) w3.heap.size hok (gX HB3.out.drew _) (at_new (W:=w3.drew) rfl);have aO:=eZ hcall;have aL:=eZ (gX HB3.out.drew (.cells #[.iface 188 (.agg #[.int .i64 i,.int .i64 t,.int .i64 kind,.int .i64 f])] 20));have ax:=eZ (LF (o:=.cells #[.iface 188 (.agg #[.int .i64 i,.int .i64 t,.int .i64 kind,.int .i64 f])] 20) (PG ag.out));have HR:=eZ hr;have b0:=λo=>gI (o:=o) (fE aI)
  have b1:=λo=>gI (o:=o) (fE aJ)
  have b2:=λo=>gI (o:=o) (fE a23)
  have b3:=λo=>gI (o:=o) (fE a33)
  have bt:=λo=>gI (o:=o) (fE aH)
  have HB0:=eZ (And.intro bt (And.intro b0 (And.intro b1 (And.intro b2 b3))));clear hcall hok hr aj ay af av b0 b1 b2 b3 bt;go_wp2_with fail
  refine BJ (S:=λwx=>wx.cell? ⟨Bt,0,none⟩=some (.slice a N cap)/\wx.cell? ⟨Ba,0,none⟩=some (.int .i64 (i:Int))/\wx.cell? ⟨Ba,1,none⟩=some (.int .i64 t)/\wx.cell? ⟨Ba,2,none⟩=some (.int .i64 kind)/\wx.cell? ⟨Ba,3,none⟩=some (.int .i64 f)) (by kernel_rfl) (⟨aH,aI,aJ,a23,a33⟩) (λhH=>?_);refine gY 0 (.agg #[.slice a N cap]) rfl (by kernel_rfl) rfl fC (λW hW=>?_) hH ?_
  ·obtain⟨z1,z2,z3,z4,z5⟩:=hW;go_simp
  refine gY 1 (.agg #[.int .i64 (i:Int),.int .i64 t,.int .i64 kind,.int .i64 f]) rfl (by kernel_rfl) rfl fC (λW hW=>?_) hH ?_
  ·obtain⟨z1,z2,z3,z4,z5⟩:=hW;go_simp
  refine gY 2 (.iface 188 (.agg #[.int .i64 (i:Int),.int .i64 t,.int .i64 kind,.int .i64 f])) rfl (by kernel_rfl) rfl fC (λW hW=>by go_simp) hH ?_;refine gY 5 (.pointer (some ⟨Bt,0,none⟩)) rfl (by kernel_rfl) rfl fC (λW hW=>by go_simp) hH ?_;refine gY 6 (.slice a N cap) rfl (by kernel_rfl) rfl fC (λW hW=>?_) hH ?_
  ·obtain⟨z1,z2,z3,z4,z5⟩:=hW;go_simp
  refine gY 7 (.int .i64 (N:Int)) rfl (by kernel_rfl) rfl fC (λW hW=>by go_simp) hH ?_;refine vB 3 (by kernel_rfl) rfl λK hK=>?_
  go_simp;refine hK.out _ _ (⟨HB0.out.1 _,HB0.out.2.1 _,HB0.out.2.2.1 _,HB0.out.2.2.2.1 _,HB0.out.2.2.2.2 _⟩) (λhH2=>?_);clear hK K;try simp only[Act.put,fK,fP,fO]
  refine vB 4 (by kernel_rfl) rfl λK hK=>?_
  go_simp;refine aO.out.mono ?_;rintro e w4 ⟨u,rfl,hn,⟨Lp,ah,ae⟩,hb⟩;obtain⟨ua,uc,rfl⟩:=hn.shape;obtain⟨un,hun⟩:=fq (((Ch.add i kind f t).res l).length);rw[hun]at hn ae⊢;clear hun;have aP:=eZ hn;have hc:=iq hb ax.out;have ai:=hc.1;have aN:=hc.2;have d0:=fu hb (HB0.out.2.1 _);have d1:=fu hb (HB0.out.2.2.1 _);have d2:=fu hb (HB0.out.2.2.2.1 _);have d3:=fu hb (HB0.out.2.2.2.2 _);have dt:=fu hb (HB0.out.1 _);obtain⟨aQ,aR,aS⟩:=jF (fD aL.out hb) ae ah;clear hb hn hc ae ah;try go_wp2_with fail
  refine hK.out _ _ (⟨dt,d0,d1,d2,d3⟩) (λhH2=>?_);clear hK K;try simp only[Act.put,fK,fP,fO]
  refine vB 8 (by kernel_rfl) rfl λK hK=>?_
  go_simp;refine hK.out _ _ (⟨jL hn1 dt,jL hn2 d0,jL hn2 d1,jL hn2 d2,jL hn2 d3⟩) (λhH2=>?_);clear hK K;try simp only[Act.put,fK,fP,fO]
  refine gY 9 (.int .i64 (N:Int)) rfl (by kernel_rfl) rfl fC (λW hW=>by go_simp) hH2 ?_;refine yM (by kernel_rfl) ?_ _;have HD:=eZ (HQ.out (.slice ua un uc) (N:Int) (w4.setCell ⟨Br,0,none⟩ (.slice ua un uc)) ⟨by rw[HR.out],by rw[HR.out];exact aP.out.set ai (.slice ua un uc),⟨Lp,by rw[HR.out];exact aS.out,(aR.out.vN (lt_of_cell ax.out.1) _).base aL.out.size⟩,aQ.out.setCell (p:=⟨Br,0,none⟩) hwr _⟩);clear hH hH2;go_wp2_with fail
  refine pW (v:=.tuple #[.agg #[.slice ua un uc],.int .i64 (N:Int)]) ?_ rfl HD.out;simp[results,results159,go_sem,ai,gU]
theorem Yc:∀(v:Value)(l:List Nd)(up kind f t:Int)(w:World),iM w v l->Ar.eu l->l.length<=4000->(∀x∈l,x.ks.length<=4000)->
 Calls prog 159 #[.agg #[v],.int .i64 up,.int .i64 kind,.int .i64 f,.int .i64 t] w (Wm false (addN l up kind f t) w):=λv l up kind f t w h hG hs hk=>
 (U6 v l up kind f t w h hG hs hk).mono (λe w' ⟨u,h1,h2,_,h4⟩=>⟨u,h1,h2,λe=>absurd e (by decide),h4⟩)
end
section
open Go.RowKit
open Sq
open Ar
theorem Bi{α:Type}{E:mr α}{w:World}{B e g N cap:Nat}{L:List α}(h:w.ownsRow B e E.k (.slice (some ⟨g,0,none⟩) N cap) L.length (E.all L)){n:Nat}(hn:n<=L.length):
 w.ownsRow B e E.k (.slice (some ⟨g,0,none⟩) n cap) (L.take n).length (E.all (L.take n)):=by
 obtain⟨h1,h2⟩:=h;have hlt:(L.take n).length=n:=by rw[kD];omega
 rcases h2 with⟨h2,_⟩|⟨g',cap',cur,hv,hg,hh,hN,hcp,hcs,ht⟩
 ·cases h2
 obtain⟨e1,e2,e3⟩:=ll hv;injection e1 with e1
 injection e1 with e1
 subst e1 e3;refine⟨kX E _,.inr ⟨g,cap,cur,by rw[hlt],hg,hh,by rw[hlt];omega,hcp,hcs,?_⟩⟩;rw[hlt,<-O7 E L n,<-ht,List.take_take];congr 1;have:=Hy E.k hn;omega
section
variable {w w':World}{B:Nat}{v:Value}{L:List Ln}
theorem OT.Iy{kg kn kc:Nat}(h:OT w B v L)(i j:Nat)(p:Ln)(hp:L[i]?=some p)(hv:p.val=.slice (some ⟨kg,0,none⟩) kn kc)(z z':Int)(hz:p.nd.ks[j]?=some z):
 OT (w.setCell ⟨kg,j,none⟩ (.int .i64 z')) B v (L.set i {p with nd:={p.nd with ks:=p.nd.ks.set j z' }}):=by
 have hpk:=h.kids i p hp;rw[hv]at hpk;have hset:=rX (E:=encI) hpk j 0 z z' (.int .i64 z') hz rfl (by decide);have hj0:j*encI.k+0=j:=by show j*1+0=j;omega
 rw[hj0]at hset;have hall:gP.all (L.set i {p with nd:={p.nd with ks:=p.nd.ks.set j z' }})=gP.all L:=by
  have gen:∀(L:List Ln)(i:Nat),L[i]?=some p->gP.all (L.set i {p with nd:={p.nd with ks:=p.nd.ks.set j z' }})=gP.all L:=by
   intro L
   induction L with
   |nil=>intro i h;simp at h
   |cons q r ih=>
    intro i h;cases i with
    |zero=>
     obtain rfl:q=p:=by simpa using h
     rfl
    |succ i=>
     show gP.all (q::r.set i _)=_;rw[mr.all,mr.all,ih i (by simpa using h)]
  exact gen L i hp
 refine⟨?_,λa q hq=>?_,λa b q r hab hq hr g hg=>?_⟩
 ·rw[hall,lT];exact xO h.row (λe=>fH hpk h.row (by decide) kg rfl e) _
 ·rw[nW]at hq;split at hq
  ·split at hq
   ·injection hq with hq
    subst hq;show World.ownsRow _ _ _ _ p.val (p.nd.ks.set j z').length (encI.all (p.nd.ks.set j z'));rw[hv];exact hset
   cases hq
  rename_i hne;exact xO (h.kids a q hq) (λe=>h.apart a i q p (λe=>hne e.symm) hq hp kg e (by rw[hv];rfl)) _
 have key:∀(a:Nat)(q:Ln),(L.set i {p with nd:={p.nd with ks:=p.nd.ks.set j z' }})[a]?=some q->∃q',L[a]?=some q'/\q.val=q'.val:=by
  intro a q hq;rw[nW]at hq;split at hq
  ·rename_i e;split at hq
   ·injection hq with hq
    subst hq;exact⟨p,e▸hp,rfl⟩
   cases hq
  exact⟨q,hq,rfl⟩
 obtain⟨q',h1,h2⟩:=key a q hq;obtain⟨r',h3,h4⟩:=key b r hr;rw[h2]at hg;rw[h4];exact h.apart a b q' r' hab h1 h3 g hg
def qN(at':Int)(p:Ln):Ln:={p with nd:={p.nd with u:=p.nd.u+at',ks:=p.nd.ks.map (·+at')}}
def lK(at':Int)(i:Nat)(L:List Ln):List Ln:=L.mapIdx (λk p=>if k<i then qN at' p else p)
theorem kM(at':Int)(i:Nat)(L:List Ln):(lK at' i L).length=L.length:=by simp[lK]
theorem ql(at':Int)(i:Nat)(L:List Ln)(k:Nat)(p:Ln)(h:L[k]?=some p):(lK at' i L)[k]?=some (if k<i then qN at' p else p):=by
 unfold lK;rw[Rn,h];rfl
theorem CS(at':Int)(L:List Ln):lK at' 0 L=L:=by
 refine sN (λk=>?_);unfold lK;rw[Rn];cases h:L[k]? with
 |none=>rfl
 |some p=>simp
theorem CV(at':Int)(i:Nat)(L:List Ln)(p:Ln)(h:L[i]?=some p):(lK at' i L).set i (qN at' p)=lK at' (i+1) L:=by
 have hi:=(gD.1 h).1;refine sN (λk=>?_);by_cases e:k=i
 ·subst e;rw[wu (by rw[kM];exact hi),ql _ _ _ _ _ h,eY (by omega)]
 rw[wo (λh=>e h.symm)];cases hk:L[k]? with
 |none=>
  rw[rC (by rw[kM];exact wm.1 hk),rC (by rw[kM];exact wm.1 hk)]
 |some q=>
  rw[ql _ _ _ _ _ hk,ql _ _ _ _ _ hk];by_cases h2:k<i
  ·rw[eY h2,eY (by omega)]
  rw[eX h2,eX (by omega)]
def mY(at':Int)(j:Nat)(p:Ln):Ln:={p with nd:={p.nd with u:=p.nd.u+at',ks:=(p.nd.ks.take j).map (·+at')++p.nd.ks.drop j}}
theorem mid_zero(at':Int)(p:Ln):mY at' 0 p={p with nd:={p.nd with u:=p.nd.u+at' }}:=by unfold mY;simp
theorem Ki(at':Int)(p:Ln):mY at' p.nd.ks.length p=qN at' p:=by unfold mY qN;simp
theorem Gd(at':Int)(j:Nat)(p:Ln)(z:Int)(h:p.nd.ks[j]?=some z):{mY at' j p with nd:={(mY at' j p).nd with ks:=(mY at' j p).nd.ks.set j (z+at')}}=mY at' (j+1) p:=by
 have hj:=(gD.1 h).1;have e:(((p.nd.ks.take j).map (·+at')++p.nd.ks.drop j).set j (z+at'))=(p.nd.ks.take (j+1)).map (·+at')++p.nd.ks.drop (j+1):=by
  have hl:((p.nd.ks.take j).map (·+at')).length=j:=by rw[jD,kD];omega
  rw[Ht _ _ (by omega),hl,uC,vZ hj,fP,Hu,h];simp
 unfold mY;dsimp only;rw[e]
theorem zq(at':Int)(j:Nat)(p:Ln)(z:Int)(h:p.nd.ks[j]?=some z):(mY at' j p).nd.ks[j]?=some z:=by
 have hj:=(gD.1 h).1;have hl:((p.nd.ks.take j).map (·+at')).length=j:=by rw[jD,kD];omega
 unfold mY;dsimp only;rw[oM (by omega),hl,uC,sJ,qI,h]
theorem Kj(at':Int)(j:Nat)(p:Ln):(mY at' j p).nd.ks.length=p.nd.ks.length:=by
 unfold mY;dsimp only;rw[iJ,jD,kD,iT];omega
theorem Bj(up:Int)(B:Nat)(L:List Ln)(p:Ln)(h:L[0]?=some p):((lK (B:Int) L.length L).set 0 {qN (B:Int) p with nd:={(qN (B:Int) p).nd with u:=up}}).map Ln.nd=Fl.shift up B (L.map Ln.nd):=by
 have h0:=(gD.1 h).1;refine sN (λk=>?_);rw[lS];by_cases e:k=0
 ·subst e;rw[wu (by rw[kM];exact h0)];have hx:(L.map Ln.nd)[0]?=some p.nd:=by rw[lS,h];rfl
  rw[Fl.lW _ _ _ _ _ hx,eY rfl];rfl
 rw[wo (λh=>e h.symm)];cases hk:L[k]? with
 |none=>
  have h1:=wm.1 hk;rw[rC (by rw[kM];exact h1),rC (by rw[Fl.jC,jD];exact h1)];rfl
 |some q=>
  have hlt:=(gD.1 hk).1;have hx:(L.map Ln.nd)[k]?=some q.nd:=by rw[lS,hk];rfl
  rw[ql _ _ _ _ _ hk,eY hlt,Fl.lW _ _ _ _ _ hx,eX e];rfl
theorem PT.low(h:PT w B v L)(hk:∀g,B<=g->w'.heap[g]?=w.heap[g]?):PT w' B v L:=by
 refine⟨fU h.row (λg hg=>hk g (h.row.lt g hg).1),λp hp=>?_⟩;obtain⟨h1,h2⟩:=h.kids p hp;refine⟨wY h1 (λad had o x hx _ _=>?_),λad had=>⟨(h2 ad had).1,?_⟩⟩
 ·rw[Nc (a:=⟨ad.block,o,none⟩) (hk _ (h2 ad had).1)];exact hx
 obtain⟨cs,fr,h3⟩:=(h2 ad had).2;exact⟨cs,fr,(hk _ (h2 ad had).1).trans h3⟩
theorem OT.box(h:OT w B v L){g:Nat}{C:Array Value}{t:TypeId}{fr:Nat×Nat}(hh:w.heap[g]?=some (.cells C t fr))(ht:3≠t)(ht2:38≠t)(o:Nat)(u:Value):OT (w.setCell ⟨g,o,none⟩ u) B v L:=by
 have st:∀k,k≠g->(w.setCell ⟨g,o,none⟩ u).heap[k]?=w.heap[k]?:=λk hk=>jf _ _ _ _ hk
 exact⟨fU h.row (λk hk=>st k (λe=>fF h.row hh ht2 (e▸hk))),λi p hp=>fU (h.kids i p hp) (λk hk=>st k (λe=>fF (h.kids i p hp) hh ht (e▸hk))),h.apart⟩
theorem Jj{w9:World}{Bp:Nat}{U:Value}{Lp L':List Ln}{M:Nat}{v9:Value}(hP:PT w Bp U Lp)(hO:OT w B v L')(hrow:w9.ownsRow Bp 38 6 v9 (Lp.take M++L').length (gP.all (Lp.take M++L')))(hg:w.grownBy w9 U.ownBlock):iM w9 v9 ((Lp.take M++L').map Ln.nd):=by
 refine⟨_,rfl,Reads.fJ (E:=gP) hrow,λp hp=>?_⟩;rw[mU]at hp;rcases hp with hp|hp
 ·exact((hP.kids p (KN hp)).keep (uy hP.row hg)).reads
 obtain⟨i,hi⟩:=lh hp;exact Reads.fJ (E:=encI) ((hO.kids i p hi).kept hg (mG (fH hP.row (hO.kids i p hi) (by decide))))
end
structure PL(w wr:World)(NR:Nat->Prop)(B Bp Br g gu M N cap uc:Nat)(LL Lp:List Ln):Prop where
 ot:OT wr B (.slice (some ⟨g,0,none⟩) N cap) LL
 pt:PT wr Bp (.slice (some ⟨gu,0,none⟩) (M+1) uc) Lp
 box:wr.heap[Br]?=some (.cells #[.slice (some ⟨gu,0,none⟩) (M+1) uc] 31 (0,0))
 lu:Below B w wr
 keep:∀k,k<w.heap.size->¬NR k->wr.heap[k]?=w.heap[k]?
section
variable {w wr:World}{NR:Nat->Prop}{B Bp Br g gu M N cap uc:Nat}{LL Lp:List Ln}
theorem PL.Ni(h:PL w wr NR B Bp Br g gu M N cap uc LL Lp)(i:Nat)(p:Ln)(hp:LL[i]?=some p)(u:Int)(hg:g<Bp)(hn:NR g):PL w (wr.setCell ⟨g,i*6+3,none⟩ (.int .i64 u)) NR B Bp Br g gu M N cap uc (LL.set i {p with nd:={p.nd with u:=u}}) Lp:=by
 have hne:Br≠g:=λe=>fF h.ot.row h.box (by decide) (by rw[e];rfl)
 exact⟨h.ot.set i 3 p {p.nd with u:=u} _ hp rfl rfl (by decide),h.pt.low (λk hk=>jf _ _ _ _ (λe=>by have e:k=g:=e;omega)),(jf _ _ _ _ hne).trans h.box,h.lu.setCell (p:=⟨g,i*6+3,none⟩) (h.ot.row.lt g rfl).1 _,λk hk hr=>(jf _ _ _ _ (λe=>hr (by have e:k=g:=e;rw[e];exact hn))).trans (h.keep k hk hr)⟩
theorem PL.VN(h:PL w wr NR B Bp Br g gu M N cap uc LL Lp)(i j kg kn kc:Nat)(p:Ln)(hp:LL[i]?=some p)(hv:p.val=.slice (some ⟨kg,0,none⟩) kn kc)(z z':Int)(hz:p.nd.ks[j]?=some z)(hg:kg<Bp)(hn:NR kg):PL w (wr.setCell ⟨kg,j,none⟩ (.int .i64 z')) NR B Bp Br g gu M N cap uc (LL.set i {p with nd:={p.nd with ks:=p.nd.ks.set j z' }}) Lp:=by
 have hpk:=h.ot.kids i p hp;have hne:Br≠kg:=λe=>fF hpk h.box (by decide) (by rw[hv,e];rfl)
 exact⟨h.ot.Iy i j p hp hv z z' hz,h.pt.low (λk hk=>jf _ _ _ _ (λe=>by have e:k=kg:=e;omega)),(jf _ _ _ _ hne).trans h.box,h.lu.setCell (p:=⟨kg,j,none⟩) (hpk.lt kg (by rw[hv];rfl)).1 _,λk hk hr=>(jf _ _ _ _ (λe=>hr (by have e:k=kg:=e;rw[e];exact hn))).trans (h.keep k hk hr)⟩
theorem PL.cell(h:PL w wr NR B Bp Br g gu M N cap uc LL Lp)(i:Nat)(p:Ln)(hp:LL[i]?=some p)(k:Nat)(u:Value)(hu:(lN p)[k]?=some u):wr.cell? ⟨g,i*6+k,none⟩=some u:=by
 have aa:k<6:=(gD.1 hu).1
 have:=h.ot.row.cells (g:=g) rfl _ _ ((iO gP LL i p hp k aa).trans hu);rw[gQ,kU]at this;exact this
theorem PL.free(h:PL w wr NR B Bp Br g gu M N cap uc LL Lp)(h0:0<LL.length)(o:Nat):wr.frozen? ⟨g,o,none⟩=false:=by
 obtain⟨g',c',hv,_,hf,_⟩:=jM h.ot.row h0;have e:=(ll hv).1;injection e with e
 injection e with e
 rw[e];exact hf o
theorem PL.kid(h:PL w wr NR B Bp Br g gu M N cap uc LL Lp)(i:Nat)(p:Ln)(hp:LL[i]?=some p)(j:Nat)(z:Int)(hz:p.nd.ks[j]?=some z):
 ∃kg kc,p.val=.slice (some ⟨kg,0,none⟩) p.nd.ks.length kc/\wr.cell? ⟨kg,j,none⟩=some (.int .i64 z)/\wr.frozen? ⟨kg,j,none⟩=false:=by
 have hpk:=h.ot.kids i p hp;have hj:=(gD.1 hz).1;obtain⟨kg,kc,hv,_,hf,_⟩:=jM (E:=encI) hpk (by omega);refine⟨kg,kc,hv,?_,hf j⟩;have:=hpk.cells (g:=kg) (by rw[hv];rfl) _ _ ((iO encI p.nd.ks j z hz 0 (by decide)).trans rfl);rw[gQ,kU]at this;have e:j*encI.k+0=j:=by show j*1+0=j;omega
 rw[e]at this;exact this
end
theorem rZ{w:World}{B B' e s n:Nat}{v:Value}{xs:List Value}(h:w.ownsRow B e s v n xs)(hB:B'<=B):w.ownsRow B' e s v n xs:=by
 obtain⟨h1,h2⟩:=h;refine⟨h1,?_⟩;rcases h2 with h2|⟨g,cap,cur,hv,hg,hr⟩
 ·exact .inl h2
 exact .inr ⟨g,cap,cur,hv,jU hB hg,hr⟩
structure VT(w:World)(B:Nat)(v:Value)(P L:List Ln):Prop where
 row:w.ownsRow B 38 6 v (P++L).length (gP.all (P++L))
 kids:∀(i:Nat)(p:Ln),L[i]?=some p->w.ownsRow B 3 1 p.val p.nd.ks.length (encI.all p.nd.ks)
 apart:∀(i j:Nat)(p q:Ln),i≠j->L[i]?=some p->L[j]?=some q->∀g,p.val.ownBlock=some g->q.val.ownBlock≠some g
section
variable {w w':World}{B:Nat}{v:Value}{P L:List Ln}
theorem VT.same(h:VT w B v P L)(hk:∀g,(v.ownBlock=some g\/∃p∈L,p.val.ownBlock=some g)->w'.heap[g]?=w.heap[g]?):VT w' B v P L:=
 ⟨fU h.row (λg hg=>hk g (.inl hg)),λi p hp=>fU (h.kids i p hp) (λg hg=>hk g (.inr ⟨p,iK hp,hg⟩)),h.apart⟩
theorem VT.lt(h:VT w B v P L){g:Nat}(hg:v.ownBlock=some g\/∃p∈L,p.val.ownBlock=some g):B<=g/\g<w.heap.size:=by
 rcases hg with hg|⟨p,hp,hg⟩
 ·exact h.row.lt g hg
 obtain⟨i,hi⟩:=lh hp;exact(h.kids i p hi).lt g hg
theorem VT.below(h:VT w B v P L)(hb:Below w.heap.size w w'):VT w' B v P L:=h.same (λg hg=>hb.block g (h.lt hg).2)
theorem VT.off(h:VT w B v P L){g:Nat}{C:Array Value}{t:TypeId}{fr:Nat×Nat}(hh:w.heap[g]?=some (.cells C t fr))(ht:3≠t)(ht2:38≠t):¬(v.ownBlock=some g\/∃p∈L,p.val.ownBlock=some g):=λe=>by
 rcases e with e|⟨p,hp,e⟩
 ·exact fF h.row hh ht2 e
 obtain⟨i,hi⟩:=lh hp;exact fF (h.kids i p hi) hh ht e
theorem VT.box(h:VT w B v P L){g:Nat}{C:Array Value}{t:TypeId}{fr:Nat×Nat}(hh:w.heap[g]?=some (.cells C t fr))(ht:3≠t)(ht2:38≠t)(o:Nat)(u:Value):VT (w.setCell ⟨g,o,none⟩ u) B v P L:=
 h.same (λk hk=>jf _ _ _ _ (λe=>h.off hh ht ht2 ((show k=g from e)▸hk)))
theorem VT.join{w9:World}{Bp:Nat}{U:Value}{Lp L':List Ln}{M:Nat}{v9:Value}(hP:PT w Bp U Lp)(hO:OT w B v L')(hB:B<=Bp)(hrow:w9.ownsRow Bp 38 6 v9 (Lp.take M++L').length (gP.all (Lp.take M++L')))(hg:w.grownBy w9 U.ownBlock):VT w9 B v9 (Lp.take M) L' :=
 ⟨rZ hrow hB,λi p hi=>(hO.kids i p hi).kept hg (mG (fH hP.row (hO.kids i p hi) (by decide))),hO.apart⟩
end
def uH(w:World)(B:Nat)(u:Value)(T:List Nd)(k:Int):Prop:=0<=k->∃P L,(P.length:Int)=k/\(P++L).map Ln.nd=T/\VT w B u P L
end
section
open Go.RowKit
open Sq
open Ar
def Eg(B:Nat)(NR:Nat->Prop)(R:List Nd×Int)(w:World)(e:Ending)(w':World):Prop:=
 ∃u,e=.returned (.tuple #[.agg #[u],.int .i64 R.2])/\iM w' u R.1/\Below B w w'/\∀k,k<w.heap.size->¬NR k->w'.heap[k]?=w.heap[k]?
def Aq(B:Nat)(NR:Nat->Prop)(R:List Nd×Int)(w:World)(e:Ending)(w':World):Prop:=
 ∃u,e=.returned (.tuple #[.agg #[u],.int .i64 R.2])/\iM w' u R.1/\Below B w w'/\(∀k,k<w.heap.size->¬NR k->w'.heap[k]?=w.heap[k]?)/\uH w' B u R.1 R.2
theorem Mf(v:Value)(T0:List Nd)(up:Int)(a:Option Addr)(cap:Nat)(w:World)(hN:iM w v T0)(hG:Ar.eu T0)(hs:T0.length<=4000)(hk:∀x∈T0,x.ks.length<=4000):
 Calls prog 132 #[.agg #[v],.int .i64 up,.slice a 0 cap] w (Eg w.heap.size (λ_=>False) (T0,-1) w):=by
 obtain⟨ta,tc,rfl⟩:=hN.shape;have hno:addN T0 (-1) 0 0 0=(T0,-1):=by
  unfold addN iH;rfl
 have HA:=eZ (λW (hb:Below w.heap.size w W)=>by have:=Yc _ T0 (-1) 0 0 0 W (hN.below hb) hG hs hk;rw[hno]at this;exact this);obtain⟨N,aa⟩:=fq (T0.length);rw[aa]at HA⊢;have ai:=eZ aa;obtain⟨w1,hw1⟩:=fq ((w.alloc (.cells #[.slice ta N tc] 31)).alloc (.cells #[.slice none 0 0] 31));obtain⟨Bt,ae⟩:=fq (w.heap.size);obtain⟨Br,hBr⟩:=fq (w.heap.size+1);have hb1:=gX (fo w (.cells #[.slice ta N tc] 31)) (.cells #[.slice none 0 0] 31);have ct:w1.cell? ⟨Bt,0,none⟩=some (.slice ta N tc):=by rw[<-hw1,<-ae];exact gI (at_new rfl)
 have cr:EI w1 Br 0 (.slice none 0 0):=by
  rw[<-hw1,<-hBr];have h:=qh (W:=w.alloc (.cells #[.slice ta N tc] 31)) (C:=#[.slice none 0 0]) (t:=31) (k:=0) rfl;rw[size_alloc]at h;exact h
 rw[hw1]at hb1;obtain⟨HB1,aj,HA1,HW1⟩:=oN hb1 cr (HA.out w1 hb1) hw1;have hlo:w.heap.size<=Br:=by omega
 obtain⟨af,ag⟩:=fT hBr ae;have HQ:=eZ (λu w'=>show(iM w' u T0/\Below w.heap.size w w')->Eg w.heap.size (λ_=>False) (T0,-1) w (.returned (.tuple #[.agg #[u],.int .i64 (-1)])) w' from λh=>⟨u,rfl,h.1,h.2,λk hk _=>h.2.block k hk⟩);obtain⟨Q,hQ⟩:=fq (Eg w.heap.size (λ_=>False) (T0,-1) w);rw[hQ]at HQ⊢;clear hN hG hs hk hno HA hw1 hBr ae hb1 cr aa hQ
 go_enter func132,ntmps132
 go_upto_region 1 with fail
 rw[HW1.out,af.out,ag.out];clear HW1 af ag;go_wp2_with fail
 refine HA1.out.mono ?_;rintro e w2 ⟨u,rfl,hn2,-,hb2⟩;obtain⟨ua,uc,rfl⟩:=hn2.shape;rw[ai.out]at hn2⊢;have hcr:=iq hb2 aj.out;have ah:=hcr.1;have ak:=hcr.2;have HD:=eZ (HQ.out (.slice ua N uc) _ ⟨hn2.set ah (.slice ua N uc),(fD HB1.out hb2).setCell (p:=⟨Br,0,none⟩) hlo _⟩);clear hn2 hb2 hcr HA1;go_wp2_with fail
 refine pW (v:=.tuple #[.agg #[.slice ua N uc],.int .i64 (-1)]) ?_ rfl HD.out;simp[results,results132,go_sem,ah,gU]
theorem Mg(v nv:Value)(T0:List Nd)(up0:Nat)(L:List Ln)(p0:Ln)(B:Nat)(w:World)(hN:iM w v T0)(hG:Ar.eu T0)(hs:T0.length<=4000)(hk:∀x∈T0,x.ks.length<=4000)
 (hO:OT w B nv L) (hBw:B<=w.heap.size) (di:L.length<=400000) (bG:∀p∈L,p.nd.ks.length<=400000/\-1<=p.nd.u/\p.nd.u<=400000/\∀z∈p.nd.ks,-4000<=z/\z<=400000)
 (hp0:L[0]?=some p0) (hm:iH T0 up0 p0.nd.k p0.nd.f p0.nd.t=true):
 Calls prog 132 #[.agg #[v],.int .i64 up0,nv] w (Aq B (λk=>nv.ownBlock=some k\/∃p∈L,p.val.ownBlock=some k) (Fl.pJ T0 up0 (L.map Ln.nd)) w):=by
 have hL0:=(gD.1 hp0).1;obtain⟨ta,tc,rfl⟩:=hN.shape;obtain⟨g,cap,rfl,hBg,hfz,hc1,hc2⟩:=jM hO.row hL0;obtain⟨NR,aJ⟩:∃NR:Nat->Prop,(λk=>(Value.slice (some ⟨g,0,none⟩) L.length cap).ownBlock=some k\/∃p∈L,p.val.ownBlock=some k)=NR:=⟨_,rfl⟩
 have bH:NR g:=by rw[<-aJ];exact .inl rfl
 have dm:=eZ (show∀p∈L,∀k,p.val.ownBlock=some k->NR k from λp hp k hk=>by rw[<-aJ];exact .inr ⟨p,hp,hk⟩);rw[aJ];clear aJ;obtain⟨r,hr⟩:=fq (addN T0 up0 p0.nd.k p0.nd.f p0.nd.t);have hr2:r.2=(T0.length:Int):=by
  obtain⟨h0,h1,y,hy⟩:=xP hm;rw[<-hr];unfold addN;rw[eY hm,hy]
 have hrl:r.1.length=T0.length+1:=by
  obtain⟨h0,h1,y,hy⟩:=xP hm;rw[<-hr];unfold addN;rw[eY hm,hy];dsimp only;rw[pP _ _ (wS hG up0 p0.nd.k p0.nd.f p0.nd.t y h0 hy (Dl hm hy).1)];simp
 have hres:Fl.pJ T0 up0 (L.map Ln.nd)=(r.1.take T0.length++Fl.shift up0 T0.length (L.map Ln.nd),(T0.length:Int)):=by
  cases L with
  |nil=>simp at hL0
  |cons q Lr=>
   obtain rfl:q=p0:=by simpa using hp0
   show(if iH T0 up0 q.nd.k q.nd.f q.nd.t=true then _ else _)=_;rw[eY hm,hr];rfl
 rw[hres];have HA:=eZ (λW (hb:Below w.heap.size w W)=>by have:=U6 _ T0 up0 p0.nd.k p0.nd.f p0.nd.t W (hN.below hb) hG hs hk;rw[hr]at this;unfold zo at this;rw[hr2]at this;exact this);obtain⟨M,bI⟩:=fq (T0.length);rw[bI]at HA hrl hs⊢;obtain⟨N,aU⟩:=fq (L.length);obtain⟨w1,hw1⟩:=fq ((w.alloc (.cells #[.slice ta M tc] 31)).alloc (.cells #[.slice none 0 0] 31));obtain⟨Bt,aV⟩:=fq (w.heap.size);obtain⟨Br,hBr⟩:=fq (w.heap.size+1);have hb1:=gX (fo w (.cells #[.slice ta M tc] 31)) (.cells #[.slice none 0 0] 31);have ct:w1.cell? ⟨Bt,0,none⟩=some (.slice ta M tc):=by rw[<-hw1,<-aV];exact gI (at_new rfl)
 have kr:w1.heap[Br]?=some (.cells #[.slice none 0 0] 31 (0,0)):=by
  rw[<-hw1,<-hBr,<-size_alloc w (.cells #[.slice ta M tc] 31)];exact j5 _ _
 rw[hw1]at hb1;have af:=hO.below hb1;obtain⟨aW,aX,hv0⟩:=(Reads.fJ (E:=encI) (af.kids 0 p0 hp0)).shape;obtain⟨aY,aP⟩:=fq (p0.nd.ks.length);rw[aP]at hv0;have ce:∀(W:World)(LL:List Ln)(hW:OT W B (.slice (some ⟨g,0,none⟩) L.length cap) LL)(i:Nat)(p:Ln)(hp:LL[i]?=some p)(k:Nat)(u:Value),(lN p)[k]?=some u->W.cell? ⟨g,i*6+k,none⟩=some u:=λW LL hW i p hp k u hu=>by
  have dn:k<6:=by have:=(gD.1 hu).1;exact this
  have:=hW.row.cells (g:=g) rfl _ _ ((iO gP LL i p hp k dn).trans hu);rw[gQ,kU]at this;exact this
 have e0:w1.cell? ⟨g,0,none⟩=some (.int .i64 p0.nd.k):=by have:=ce w1 L af 0 p0 hp0 0 _ rfl;simpa using this
 have e1:w1.cell? ⟨g,1,none⟩=some (.int .i64 p0.nd.f):=by have:=ce w1 L af 0 p0 hp0 1 _ rfl;simpa using this
 have e2:w1.cell? ⟨g,2,none⟩=some (.int .i64 p0.nd.t):=by have:=ce w1 L af 0 p0 hp0 2 _ rfl;simpa using this
 have e3:w1.cell? ⟨g,3,none⟩=some (.int .i64 p0.nd.u):=by have:=ce w1 L af 0 p0 hp0 3 _ rfl;simpa using this
 have e4:w1.cell? ⟨g,4,none⟩=some (.slice aW aY aX):=by have:=ce w1 L af 0 p0 hp0 4 _ rfl;rw[hv0]at this;simpa using this
 have e5:w1.cell? ⟨g,5,none⟩=some (.bool p0.nd.y):=by have:=ce w1 L af 0 p0 hp0 5 _ rfl;simpa using this
 obtain⟨w2,hw2⟩:=fq (w1.alloc (.cells #[.int .i64 p0.nd.k,.int .i64 p0.nd.f,.int .i64 p0.nd.t,.int .i64 p0.nd.u,.slice aW aY aX,.bool p0.nd.y] 38));obtain⟨Bv,aZ⟩:=fq (w1.heap.size);have hb2:Below w1.heap.size w1 w2:=hw2▸fo w1 _;have kv:w2.heap[Bv]?=some (.cells #[.int .i64 p0.nd.k,.int .i64 p0.nd.f,.int .i64 p0.nd.t,.int .i64 p0.nd.u,.slice aW aY aX,.bool p0.nd.y] 38 (0,0)):=by rw[<-hw2,<-aZ];exact j5 _ _
 have n0:w2.cell? ⟨Bv,0,none⟩=some (.int .i64 p0.nd.k):=gG kv 0;have n1:w2.cell? ⟨Bv,1,none⟩=some (.int .i64 p0.nd.f):=gG kv 1;have n2:w2.cell? ⟨Bv,2,none⟩=some (.int .i64 p0.nd.t):=gG kv 2;have dw:=fu hb2 ct;have bJ:=(hb2.block Br (il kr)).trans kr;have hO2:=af.below hb2;have az:=fD hb1 hb2;obtain⟨HA2,HW1,HW2,bK,bL,dx⟩:=kJ (HA.out w2 az) hw1 hw2 hBr aV aZ;obtain⟨aK,aA,ae,bf,dA,bM⟩:=kJ hO2 bJ az hBw bG hp0;obtain⟨HR2,dB,ah,dR⟩:=oN hr2 hrl aU hBg;have aB:B<=Br:=by omega
 have dN:g≠Br:=λe=>fF af.row kr (by decide) (by rw[<-e];rfl)
 have hgw:g<w.heap.size:=(hO.row.lt g rfl).2
 have dO:w.heap.size<=Br:=by omega
 have dC:0<N:=by omega
 have hNs:N<=400000:=by omega
 have HQ:=eZ (λu w'=>show(iM w' u (r.1.take M++Fl.shift up0 M (L.map Ln.nd))/\Below B w w'/\(∀k,k<w.heap.size->¬NR k->w'.heap[k]?=w.heap[k]?)/\uH w' B u (r.1.take M++Fl.shift up0 M (L.map Ln.nd)) (M:Int))->Aq B NR (r.1.take M++Fl.shift up0 M (L.map Ln.nd),(M:Int)) w (.returned (.tuple #[.agg #[u],.int .i64 M])) w' from λh=>⟨u,rfl,h⟩);obtain⟨Q,hQ⟩:=fq (Aq B NR (r.1.take M++Fl.shift up0 M (L.map Ln.nd),(M:Int)) w);rw[hQ]at HQ⊢;have dD:=eZ ce;rw[aU]at aK dD⊢;clear hN hG hk hO hBw di bG hp0 hm hL0 hBg hfz hc1 hc2 hr hr2 hrl hres HA bI aU hw1 hb1 kr af hw2 hb2 kv bJ hO2 az hQ ce hv0 aP hBr aZ aV
 go_enter func132,ntmps132
 go_upto_region 1 with fail
 rw[HW1.out,bK.out,bL.out];clear HW1 bK bL;have gN:((N:Int)==0)=false:=by simp;omega
 have dS:(0:Int)<(N:Int):=by omega
 go_upto_region 4 with fail
 rw[HW2.out,dx.out];clear HW2 e0 e1 e2 e3 e4 e5 ct;go_wp2_with fail
 refine HA2.out.mono ?_;rintro e w3 ⟨u,rfl,dE,⟨Lp,bg,bn⟩,hb3⟩;have aC:Lp.length=M+1:=by have:=congrArg List.length bg;rw[jD]at this;exact this.trans dB.out
 obtain⟨gu,uc,hu,dF,hfu,aQ,bN⟩:=jM bn.row (by omega);rw[aC]at hu aQ;subst hu;have ax:=(hb3.block Br (il aA.out)).trans aA.out;have dG:w3.cell? ⟨Br,0,none⟩=some (.slice none 0 0):=iF ax;have dH:w3.frozen? ⟨Br,0,none⟩=false:=nH ax 0;obtain⟨w4,hw4⟩:=fq (w3.setCell ⟨Br,0,none⟩ (.slice (some ⟨gu,0,none⟩) (M+1) uc));obtain⟨Bp,bq⟩:=fq (w2.heap.size)
 have bO:=eZ (show PL w w4 NR B Bp Br g gu M N cap uc L Lp from by
  rw[<-hw4,<-bq];refine⟨(aK.out.below hb3).box ax (by decide) (by decide) 0 _,bn.box ax (by decide) (by decide) 0 _,qb ax _,?_,λk hk _=>?_⟩
  case refine_2=>rw[jf _ _ _ _ (λe=>by have e:k=Br:=e;omega),hb3.block k (wC hk ae.out.size),ae.out.block k hk]
  exact(((ae.out.mono bf.out).trans (hb3.mono (jU bf.out ae.out.size))).setCell (p:=⟨Br,0,none⟩) aB _))
 have aR:g<Bp:=by have:=ae.out.size;omega
 have bP:w.heap.size<=Bp:=by have:=ae.out.size;omega
 have aS:=eZ (jU bf.out bP)
 have bQ:=eZ (fun(p:Ln)(hp:p∈L)(kg:Nat)(hk:p.val.ownBlock=some kg)=>show kg<Bp from by
  obtain⟨i,hi⟩:=lh hp;have:=((aK.out.kids i p hi).lt kg hk).2
  omega)
 obtain⟨bR,bS,bT⟩:=jF hw4 bg aC;have dP:=eZ (show Bp<=w4.heap.size from by rw[<-hw4,<-bq];simpa using hb3.size);have gM:((M:Int)==-1)=false:=by simp
 clear dE bg bn hb3 aC dF hfu aQ bN ax hw4 bq HA2 aK aA ae dw n0 n1 n2;go_upto_region 5 with fail
 rw[bR.out];clear bR dG dH;go_wp2_with fail
 go_loopw [38] (λiv wr=>∃i:Nat,iv=.int .i64 i/\i<=N/\Hid (PL w wr NR B Bp Br g gu M N cap uc (lK (M:Int) i L) Lp)) (λiv _=>N-(intOf iv).toNat)
 case atStart=>exact⟨0,rfl,ic _,by rw[CS];exact bO⟩
 case round=>
  obtain⟨i,rfl,hi,HP⟩:=hrel;by_cases hlt:i<N
  ·obtain⟨p,hp⟩:=jB L i (by rw[ah.out];exact hlt);have hpt:=ql (M:Int) i L i p hp;rw[eX (sO _)]at hpt;have hpm:=iK hp;obtain⟨hkn,hu1,hu2,hzb⟩:=dA.out p hpm;have c3:=HP.out.cell i p hpt 3 _ rfl;have f3:=HP.out.free (by rw[kM,ah.out];omega) (i*6+3);have hP2:=HP.out.Ni i p hpt (p.nd.u+(M:Int)) aR bH;obtain⟨w5,aL⟩:=fq (wr.setCell ⟨g,i*6+3,none⟩ (.int .i64 (p.nd.u+(M:Int))));rw[aL]at hP2;have hil:i<(lK (M:Int) i L).length:=by rw[kM,ah.out];exact hlt
   have hmz:({p with nd:={p.nd with u:=p.nd.u+(M:Int)}}:Ln)=mY (M:Int) 0 p:=(mid_zero _ _).symm;rw[hmz]at hP2;obtain⟨ka,kc,aM⟩:=(Reads.fJ (E:=encI) (HP.out.ot.kids i p hpt)).shape;obtain⟨kn,aD⟩:=fq (p.nd.ks.length);rw[aD]at aM hkn;have c4:w5.cell? ⟨g,i*6+4,none⟩=some (.slice ka kn kc):=by
    have:=hP2.cell i (mY (M:Int) 0 p) (wu hil) 4 _ rfl;rw[<-aM];exact this
   have gi:(i:Int)<(N:Int):=by omega
   obtain⟨U,hU⟩:=fq (p.nd.u);rw[hU]at c3 hu1 hu2 aL;have gw:wrap64 (U+(M:Int))=U+(M:Int):=uF _ (by omega);obtain⟨aa,bU,HP,dU,aN,bz⟩:=kJ hP2 aL hp hpt aM aD;obtain⟨dI,bV⟩:=fT hzb hpm;clear hP2 aL hp hpt aM aD hzb hpm hmz hU;go_upto_region 11 with fail
   rw[bU.out];clear bU c3 f3;go_wp2_with fail
   rename World=>wq
   go_loopw [56] (λjv ws=>∃j:Nat,jv=.int .i64 j/\j<=kn/\Hid (PL w ws NR B Bp Br g gu M N cap uc ((lK (M:Int) i L).set i (mY (M:Int) j p)) Lp)) (λjv _=>kn-(intOf jv).toNat)
   case atStart=>exact⟨0,rfl,ic _,aa⟩
   case round=>
    obtain⟨j,rfl,hj,ay⟩:=hrel;have aF:i<(lK (M:Int) i L).length:=by rw[kM,ah.out];exact hlt
    have hget:((lK (M:Int) i L).set i (mY (M:Int) j p))[i]?=some (mY (M:Int) j p):=wu aF;by_cases hjl:j<kn
    ·obtain⟨z,hz⟩:=jB p.nd.ks j (by rw[bz.out];exact hjl);obtain⟨kg,bW,hv',ck,fk⟩:=ay.out.kid i (mY (M:Int) j p) hget j z (zq _ _ _ _ hz);have hv2:p.val=.slice (some ⟨kg,0,none⟩) (mY (M:Int) j p).nd.ks.length bW:=hv';rw[Kj,bz.out,aN.out]at hv2;obtain⟨e1,-,-⟩:=ll hv2;subst e1;have hz2:=dI.out z (iK hz);have bX:=ay.out.cell i _ hget 4 _ rfl;have dV:wr.cell? ⟨g,i*6+4,none⟩=some (.slice (some ⟨kg,0,none⟩) kn kc):=by rw[<-aN.out];exact bX
     have bY:kg<Bp:=bQ.out p bV.out kg (by rw[aN.out];rfl)
     have hP3:=ay.out.VN i j kg _ bW (mY (M:Int) j p) hget hv' z (z+(M:Int)) (zq _ _ _ _ hz) bY (dm.out p bV.out kg (by rw[aN.out];rfl));rw[List.set_set,Gd _ _ _ _ hz]at hP3;have dJ:=eZ hP3;have gj:(j:Int)<(kn:Int):=by omega
     have dW:wrap64 (z+(M:Int))=z+(M:Int):=uF _ (by omega);clear hv' hv2 bX hP3 hz hget aF ay;go_wp2_with fail
     go_roundw
     case rel=>exact⟨j+1,by go_num,by omega,dJ⟩
     case measure=>simp[intOf];omega
    obtain rfl:j=kn:=by omega
    have hall:=Ki (M:Int) p;rw[bz.out]at hall;have bA:=ay.out;rw[hall,CV _ _ _ _ HP.out]at bA;have dK:=eZ bA;have gj:¬(j:Int)<(j:Int):=by omega
    clear hall bA hget aF ay hjl;go_wp2_with fail
    go_roundw
    case rel=>exact⟨i+1,by go_num,by omega,dK⟩
    case measure=>simp[intOf];omega
  obtain rfl:i=N:=by omega
  have gi:¬(i:Int)<(i:Int):=by omega
  have hpt:=ql (M:Int) i L 0 p0 bM.out;rw[eY dC]at hpt;have c3:=HP.out.cell 0 _ hpt 3 _ rfl;have f3:=HP.out.free (by rw[kM,ah.out];omega) (0*6+3);have hP2:=HP.out.Ni 0 _ hpt (up0:Int) aR bH;have hsh:=Bj (up0:Int) M L p0 bM.out;rw[ah.out]at hsh;obtain⟨L',hL'⟩:∃L',(lK (M:Int) i L).set 0 {qN (M:Int) p0 with nd:={(qN (M:Int) p0).nd with u:=(up0:Int)}}=L':=⟨_,rfl⟩
  rw[hL']at hP2 hsh;have ak:L'.length=i:=by rw[<-hL',lT,kM,ah.out]
  obtain⟨w6,aO⟩:=fq (wr.setCell ⟨g,0*6+3,none⟩ (.int .i64 (up0:Int)));rw[aO]at hP2;simp only[KO,kU]at c3 f3 aO;have dX:=iF hP2.box;have dY:w6.frozen? ⟨Br,0,none⟩=false:=nH hP2.box 0;have ag:=hP2.pt.row;have bB:=bT.out;have aG:=rY ag;have hsl:∀W:World,(Instr.slice 29 (.slice (some ⟨gu,0,none⟩) (M+1) uc) none (some (.int .i64 (M:Int))) none).run prog W=.ok (.slice (some ⟨gu,0,none⟩) M uc) W:=λW=>by
   have hc:=aG.2.2;simp only[maxLen]at hc;rw[run_slice_h W _ (some ⟨gu,0,none⟩) (M+1) uc (by rw[Hl.he];exact Hl.ht) .i64 M (by omega) (by omega),Hl.he,Hl.size];simp[Result.andThen,sliced,gQ]
  have hpre:=Bi (E:=gP) (n:=M) ag (by omega);have hlt2:(Lp.take M).length=M:=by rw[kD];omega
  have aT:=eZ hpre;have hrd:=Reads.fJ (E:=gP) hP2.ot.row;obtain⟨bZ,aa,cr,cz⟩:=oN hrd hP2 hsh aO;have dQ:=eZ ak;have dL:=eZ (show(Lp.take M).length+L'.length<=maxLen by rw[hlt2,ak];simp only[maxLen];omega);have dM:=eZ (show((Lp.take M).length+L'.length)*64<=140737488355328 by rw[hlt2,ak];omega);have cB:=eZ (show Bp<=w6.heap.size from nX (Nat.lt_of_le_of_lt (ag.lt gu rfl).1 (ag.lt gu rfl).2));have bC:=eZ hlt2;clear hP2 hsh hL' ak aO ag bB aG hpre hlt2 hrd hpt HP bO;go_upto_region 18 with fail
  rw[cz.out];clear cz c3 f3;go_upto_region 19 with(at_builtin;go_must (refine lG Hl rfl (.tmp 79) (.tmp 80) rfl Bp _ (Lp.take M) rfl aT.out _ L' rfl bZ.out dL.out dM.out cB.out ?_;intro v9 w9 ai bD cK;obtain⟨a9,c9,cO⟩:=(Reads.fJ (E:=gP) ai).shape;obtain⟨n9,cZ⟩:∃n9,(Lp.take M++L').length=n9:=⟨_,rfl⟩;rw[cZ]at cO;clear cZ;subst cO;have aj:=eZ ai;have aH:=eZ bD;have av:w9.heap[Br]?=some (.cells #[.slice (some ⟨gu,0,none⟩) (M+1) uc] 31 (0,0)):=(bD.block Br (il aa.out.box) (λe=>fF aa.out.pt.row aa.out.box (by decide) e.symm)).trans aa.out.box;have aI:=eZ av;have bE:=iF av;have dZ:w9.frozen? ⟨Br,0,none⟩=false:=nH av 0;clear ai bD cK av))
  have bF:=Jj (M:=M) aa.out.pt aa.out.ot aj.out aH.out;rw[wy,Rq,bS.out,cr.out]at bF;have htj:VT w9 B (.slice a9 n9 c9) (Lp.take M) L':=VT.join (M:=M) aa.out.pt aa.out.ot aS.out aj.out aH.out;have df:(Lp.take M++L').map Ln.nd=r.1.take M++Fl.shift up0 M (L.map Ln.nd):=by rw[wy,Rq,bS.out,cr.out]
  have dh:=aa.out.lu.grown aH.out (jU aa.out.lu.size (fB _)|>λh=>by have:=aa.out.ot.row.lt g rfl;omega) (λq hq=>by have e:gu=q:=jl hq;have:=(aa.out.pt.row.lt gu rfl).1;have:=(aa.out.ot.row.lt g rfl).1;omega);have c10:(w9.setCell ⟨Br,0,none⟩ (.slice a9 n9 c9)).cell? ⟨Br,0,none⟩=some (.slice a9 n9 c9):=gU _ _ _ (by rw[bE];rfl)
  have HD:=eZ (HQ.out (.slice a9 n9 c9) _ ⟨(bF.set bE (.slice a9 n9 c9)).set c10 (.slice a9 n9 c9),(dh.setCell (p:=⟨Br,0,none⟩) aB _).setCell (p:=⟨Br,0,none⟩) aB _,λk hk hr=>by
   have hkb:k≠Br:=by omega
   rw[jf _ _ _ _ hkb,jf _ _ _ _ hkb,aH.out.block k (wC hk aa.out.lu.size) (λe=>by have e:gu=k:=jl e.symm;have:=(aa.out.pt.row.lt gu rfl).1;omega)]
   exact aa.out.keep k hk hr,λ_=>⟨_,_,by rw[bC.out],df,(htj.box (g:=Br) aI.out (by decide) (by decide) 0 _).box (g:=Br) (qb aI.out _) (by decide) (by decide) 0 _⟩⟩)
  clear bF dh htj df aI aS aa aj aH aT bZ;go_wp2_with fail
  refine pW (v:=.tuple #[.agg #[.slice a9 n9 c9],.int .i64 (M:Int)]) ?_ rfl HD.out;simp[results,results132,go_sem,bE,gU]
end
namespace Rw
theorem G7:∀(l:List Tk),blanks (l.drop (blanks l))=0:=by
 intro l
 induction l with
 |nil=>rfl
 |cons x r ih=>
  rw[blanks];by_cases h:x.1=3
  ·rw[eY h,wh];exact ih
  rw[eX h,lQ,blanks,eX h]
theorem Jk(ts:List Tk)(p:Nat):blanks (ts.drop (p+blanks (ts.drop p)))=0:=by
 have:=G7 (ts.drop p);rw[mQ]at this;exact this
theorem Jl(ts:List Tk):blanks (ts.drop (gZ ts))=0:=by
 induction ts with
 |nil=>rfl
 |cons x r ih=>
  rw[gZ];by_cases h:Sc.counts x.1=true
  ·rw[eY h,lQ,blanks,eX];intro e;rw[e]at h;cases h
  rw[eX h,wh];exact ih
def oW(F:Nat)(ts:List Tk)(p:Nat):List E:=(lH (ts.drop p).length (ts.drop p)).map (λi=>vz F ts (p+i))
def oZ(ts:List Tk)(p:Nat):Nat:=p+kG (ts.drop p).length (ts.drop p)
theorem G8(F:Nat)(ts:List Tk)(p:Nat)(h:jO (ts.drop p)=5):oW F ts p=vz F ts p::oW F ts (p+1+blanks (ts.drop (p+1)))/\oZ ts p=oZ ts (p+1+blanks (ts.drop (p+1))):=by
 have hd:=Ls (ts.drop p) h;rw[mQ,mQ]at hd;obtain⟨n,hn⟩:=fq (blanks (ts.drop (p+1)));rw[hn]at hd⊢;have e1:p+(n+1)=p+1+n:=by omega
 rw[e1]at hd;constructor
 ·unfold oW;rw[hd.1,wB,MY,qI];congr 1;apply Rp;intro i _;show vz F ts (p+(i+(n+1)))=vz F ts (p+1+n+i);congr 1;omega
 unfold oZ;rw[hd.2];omega
theorem yR(F:Nat)(ts:List Tk)(p:Nat)(h:jO (ts.drop p)≠5):oW F ts p=[]/\oZ ts p=p:=by
 have hd:=Lt (ts.drop p) h;unfold oW oZ;rw[hd.1,hd.2];exact⟨rfl,rfl⟩
theorem Jm(F:Nat)(ts:List Tk)(p:Nat)(h:ts.length<=p):oW F ts p=[]/\oZ ts p=p:=by
 refine yR F ts p ?_;rw[mI h];decide
theorem Kk(ts:List Tk)(p:Nat)(h:p<ts.length):uE ts p=EH ts p:=by
 unfold uE EH;rw[eX (by omega)]
def zT(A:Nat)(es:List E):Nat:=match es.getLast? with
 |some e=>e.bu
 |none=>A
theorem yS(A:Nat)(es:List E)(x:E):zT A (es++[x])=x.bu:=by
 unfold zT;rw[List.getLast?_concat]
def Nj(F:Nat)(ts:List Tk)(k:Nat):List E:=match nY (ts.drop k)with
 |some n=>[⟨false,EH ts k,F+k,F+k+n⟩]
 |none=>[]
theorem Qn(F:Nat)(ts:List Tk):l9 F ts=oW F ts (gZ ts)++Nj F ts (oZ ts (gZ ts)):=by rw[nT];rfl
theorem Qp(F:Nat)(ts:List Tk):pX F ts=zT (F+gZ ts) (l9 F ts):=rfl
theorem Qq(F:Nat)(ts:List Tk)(k:Nat)(h:sK ts k=-1):Nj F ts k=[]:=by
 unfold sK at h;unfold Nj;cases hk:nY (ts.drop k)with
 |none=>rfl
 |some n=>rw[hk]at h;dsimp only at h;omega
theorem Qr(F:Nat)(ts:List Tk)(k:Nat)(h:sK ts k≠-1):∃q:Nat,sK ts k=(q:Int)/\k<q/\q<=ts.length/\k<ts.length/\Nj F ts k=[⟨false,EH ts k,F+k,F+q⟩]:=by
 unfold sK at h;unfold sK Nj;cases hk:nY (ts.drop k)with
 |none=>rw[hk]at h;exact absurd rfl h
 |some n=>
  have hi:=pF (ts.drop k) n hk;rw[iT]at hi;have hlt:k<ts.length:=by
   rcases kS k ts.length with h|h
   ·exact h
   exact absurd (mI h) hi.2.2
  refine⟨k+n,rfl,by omega,by omega,hlt,?_⟩;dsimp only;rw[RB]
end Rw
section
open Go.RowKit
open Sg
open Sq
theorem Yd(x:Rw.R)(n:Nat)(w:World)(h1:x.from'<=x.bu)(h2:x.bu<=n):
 Calls prog 97 #[KT x,.int .i64 n] w λe w'=>e=.returned (.bool true)/\Below w.heap.size w w':=by
 obtain⟨k,f,t,c⟩:=x;dsimp only at h1 h2⊢;have g1:(0:Int)<=(f:Int):=by omega
 have g2:(f:Int)<=(t:Int):=by omega
 have g3:(t:Int)<=(n:Int):=by omega
 go_enter func97,ntmps97
 go_wp2;go_ret;exact⟨rfl,fo _ _⟩
end
section
open Go.RowKit
open Sg
open Sq
theorem EC(bv v:Value)(l:List Tk)(x:Rw.R)(w:World)(hk:x.kind≠5):
 Calls prog 64 #[bv,v,KT x] w (Ip 97 [] x.from' w):=by
 obtain⟨k,f,t,c⟩:=x;dsimp only at hk⊢;have g:((k:Int) !=5)=true:=by simp;omega
 clear hk
 go_enter func64,ntmps64
 go_wp2_with fail
 go_region
 go_wp2_with fail
 refine pW (v:=.tuple #[.slice none 0 0,.int .i64 f]) ?_ rfl ⟨_,rfl,kY qc _ _,?_⟩
 ·simp[results,results64,go_sem]
 exact(gX (gX (fo w _) _) _).drew
theorem ED(bv v:Value)(l:List Tk)(F T:Nat)(c:Int)(w:World)(h:Reads iU w v l)(hs:l.length<=100000)(hf:∀x∈l,x.2.1<=1000000)(h1:F<=T)(h2:T<=l.length):
 Calls prog 64 #[bv,v,.agg #[.int .i64 5,.int .i64 F,.int .i64 T,.int .i64 c]] w (Ip 97 (Rw.l9 F ((l.drop F).take (T-F))) (Rw.pX F ((l.drop F).take (T-F))) w):=by
 obtain⟨a,cap,rfl⟩:=h.shape;obtain⟨u,hu,ay⟩:=Dq (P:=prog) Q9 h h1 h2;have hfs:∀x∈(l.drop F).take (T-F),x.2.1<=1000000:=λx hx=>hf x (XB (KN hx))
 have hlen:((l.drop F).take (T-F)).length=T-F:=by rw[kD,iT];omega
 obtain⟨ts,hts⟩:=fq ((l.drop F).take (T-F));rw[hts]at ay hfs hlen⊢;obtain⟨M,hM⟩:=fq (T-F);rw[hM]at hlen;have cr:M<=100000:=by omega
 have hfn:F<=100000:=by omega
 obtain⟨au,cu,rfl⟩:=ay.shape;rw[hlen]at hu;have az:=eZ (show Reads iU w (.slice au M cu) ts by rw[<-hlen];exact ay);obtain⟨aW,HLen⟩:=fT hfs hlen;have aH:=eZ (λW=>Yd ⟨5,F,T,c⟩ l.length W h1 h2);obtain⟨N,hN⟩:=fq (l.length);rw[hN]at hs h2 aH hu⊢;clear h hf hts ay hfs hlen hN
 go_enter func64,ntmps64
 go_wp2_with fail
 refine(aH.out _).mono ?_;rintro e w4 ⟨rfl,hb4⟩;obtain⟨w3,hw3⟩:=fq (((w.alloc (.cells #[.int .i64 5,.int .i64 F,.int .i64 T,.int .i64 c] 61)).alloc (.cells #[.slice none 0 0] 93)).alloc (.cells #[.int .i64 0] 3));rw[hw3]at hb4;have c1:w3.cell? ⟨w.heap.size,1,none⟩=some (.int .i64 F):=by rw[<-hw3];exact gI (gI (at_new rfl))
 have c2:w3.cell? ⟨w.heap.size,2,none⟩=some (.int .i64 T):=by rw[<-hw3];exact gI (gI (at_new rfl))
 have e3:w3.heap[w.heap.size+1]?=some (.cells #[.slice none 0 0] 93 (0,0)):=by
  rw[<-hw3];have h:=j5 (w.alloc (.cells #[.int .i64 5,.int .i64 F,.int .i64 T,.int .i64 c] 61)) (.cells #[.slice none 0 0] 93);simp only[size_alloc]at h;exact(Df _ _ _ (by simp)).trans h
 have s3:w3.heap[w.heap.size+2]?=some (.cells #[.int .i64 0] 3 (0,0)):=by
  rw[<-hw3];have h:=j5 ((w.alloc (.cells #[.int .i64 5,.int .i64 F,.int .i64 T,.int .i64 c] 61)).alloc (.cells #[.slice none 0 0] 93)) (.cells #[.int .i64 0] 3);simp only[size_alloc]at h;exact h
 have hb3:Below w.heap.size w w3:=by rw[<-hw3];exact gX (gX (fo w _) _) _
 have hlt3:=il s3;have C1:=fu hb4 c1;have C2:=fu hb4 c2;have E4:=(hb4.block _ (il e3)).trans e3;have S4:=(hb4.block _ hlt3).trans s3;obtain⟨aI,aJ,aA,aX⟩:=oN (fD hb3 hb4) E4 S4 C1;clear hb3 hb4 c1 c2 e3 s3 hw3 E4 S4 hlt3;have aY:=aI.out.size;have hs4:w.heap.size+2<w4.heap.size:=il aA.out
 obtain⟨w5,ah⟩:=fq (w4.alloc (.cells #[.slice au M cu] 28));obtain⟨Bw,hBw⟩:=fq (w4.heap.size);have ai:w5.heap[Bw]?=some (.cells #[.slice au M cu] 28 (0,0)):=by rw[<-ah,<-hBw];exact j5 _ _
 have hb5:Below w4.heap.size w4 w5:=ah▸fo w4 _;obtain⟨aZ,bf⟩:=fT ah hBw;have bg:w5.heap.size=Bw+1:=by rw[<-ah,<-hBw];simp
 have aK:=eZ (fD aI.out hb5);have hfi:=Iq _ ts w5 (az.out.below aK.out) (by rw[HLen.out];omega);have aL:=eZ hfi;have hld:=Rw.DV ts;rw[HLen.out]at hld;obtain⟨A,hA⟩:=fq (Rw.gZ ts);have HA:=eZ hA;rw[hA]at hld aL;have E5:=(hb5.block _ (il aJ.out)).trans aJ.out;have S5:=(hb5.block _ (il aA.out)).trans aA.out;have C5:=fu hb5 aX.out;obtain⟨aM,aN,bn⟩:=jF E5 S5 C5;have bL:=iF ai;have aO:=eZ ai;rw[hBw]at hs4;have aP:=eZ (show w.heap.size+2<Bw/\w5.heap.size=Bw+1 from⟨hs4,bg⟩);clear aY hs4 ah hBw ai hb5 bg hfi hA E5 S5 C5;go_upto_region 4 with fail
 rw[aZ.out,bf.out];clear C1 C2 aZ bf aI aJ aA aX;go_wp2_with fail
 refine aL.out.mono ?_;rintro e w6 ⟨rfl,hb6⟩;obtain⟨Ba,hBa⟩:=fq (w6.heap.size);obtain⟨w7,hw7⟩:=fq (w6.alloc (.cells #[.int .i64 A] 3));have aG:Below w6.heap.size w6 w7:=hw7▸fo w6 _;have af:=fD hb6 aG;have bq:w7.heap[Ba]?=some (.cells #[.int .i64 A] 3 (0,0)):=by rw[<-hw7,<-hBa];exact j5 _ _
 have hbw:Bw<Ba:=by have:=hb6.size;have:=aP.out.2;omega
 have ag:EM w7 w.heap.size (w.heap.size+1) (w.heap.size+2) Bw Ba F (.slice none 0 0) [] 0 (.slice au M cu) A:=
  ⟨fu af bn.out,(af.block _ (il aM.out)).trans aM.out,(af.block _ (il aN.out)).trans aN.out,(af.block _ (il aO.out)).trans aO.out,bq,kY qc _ _,by have:=aP.out.1;omega⟩
 have bz:=eZ (ag.XK ((F:Int)+(A:Int)));have bA:=eZ ((fD aK.out af).setCell (p:=⟨w.heap.size+2,0,none⟩) (by show w.heap.size<=w.heap.size+2;omega) (.int .i64 ((F:Int)+(A:Int))));have C7:=ag.r1;have A7:=iF ag.at';have S7:=iF ag.s;have Z7:=wD ag.s;obtain⟨bB,bC⟩:=fT hw7 hBa;clear hb6 hw7 aG af bq ag aL bL aM aN bn aO hbw hBa;go_upto_region 5 with fail
 rw[bB.out,bC.out];clear bB bC aK aP;go_upto_region 6 with fail
 obtain⟨w8,hw8⟩:=fq (w7.setCell ⟨w.heap.size+2,0,none⟩ (.int .i64 ((F:Int)+(A:Int))));obtain⟨Br,hBr⟩:=fq (w.heap.size);obtain⟨Be,aQ⟩:=fq (Br+1);obtain⟨Bs,aR⟩:=fq (Be+1);have aj:=bz.out;have ak:=bA.out;rw[show w.heap.size+2=w.heap.size+1+1 from rfl]at aj ak hw8;rw[hw8]at aj ak;rw[hBr,aQ,aR]at aj;rw[hBr]at ak;rw[hw8,hBr,aQ,aR];have aS:=eZ (λW (hb:Below Br w W)=>az.out.below (hBr▸hb));have bM:=eZ (λW (hb:Below Br w W) j x (hj:ts[j]?=some x)=>iZ (a:=au) (cap:=cu) (l:=ts) (by rw[HLen.out];exact az.out.below (hBr▸hb)) j x hj);have bD:=eZ hBr;obtain⟨DS,aT⟩:=fq (Rw.oW F ts A);obtain⟨KQ,aU⟩:=fq (Rw.oZ ts A);have hlb:=Rw.Jl ts;have av:=Rw.Qn F ts;have hra:=Rw.Qp F ts;rw[HA.out]at hlb av hra;rw[aU,aT]at av;obtain⟨EB,aB⟩:=fq (Rw.l9 F ts);obtain⟨aa,aC⟩:∃aa,Rw.pX F ts=aa:=⟨_,rfl⟩
 rw[aB]at av hra;rw[aC]at hra;rw[aB,aC];obtain⟨bN,bO,bE,bF,bP,bG⟩:=kJ aB aC av hra hlb aT;obtain⟨bH,bI,bJ⟩:=jF aU aj ak;clear hw8 C7 A7 S7 Z7 bz bA aQ aR hBr az aj ak aT aU hlb av hra aB aC HA aH hu h1 h2 hM
 go_upto_block 0 with fail
 go_cut [] (λwx=>∃(ev:Value)(rest:Nat),EM wx Br Be Bs Bw Ba F ev DS rest (.slice au M cu) KQ/\KQ<=M/\DS.length<=KQ/\Hid (rest=Rw.zT (F+A) DS)/\Hid (Rw.blanks (ts.drop KQ)=0)/\Below Br w wx)
 case first=>
  go_wp2_with fail
  go_loopw [] (λwr=>∃(p:Nat)(es:List Rw.E)(ev:Value)(rest:Nat),EM wr Br Be Bs Bw Ba F ev es rest (.slice au M cu) p/\p<=M/\es.length<=p/\Hid (rest=Rw.zT (F+A) es)/\Hid (es++Rw.oW F ts p=DS)/\Hid (Rw.oZ ts p=KQ)/\Hid (Rw.blanks (ts.drop p)=0)/\Below Br w wr) (λwr=>M-(intOf ((wr.cell? ⟨Ba,0,none⟩).getD undef)).toNat)
  case atStart=>exact⟨A,[],.slice none 0 0,F+A,by rw[show((F+A:Nat):Int)=(F:Int)+(A:Int)from by omega];exact bI.out,hld,ic _,eZ rfl,bG,bH,bP,bJ.out⟩
  case round=>
   obtain⟨p,es,ev,rest,hm,hp,hel,HR,HE,HK,aD,hb⟩:=hrel;obtain⟨HM,HB⟩:=fT hm hb;have ca:=iF hm.at';have cw:=iF hm.row;by_cases hpm:p<M
   ·obtain⟨x,hx⟩:=jB ts p (by rw[HLen.out];exact hpm);obtain⟨b,off,rfl,c0,-,-⟩:=bM.out wr hb p x hx;have hi:(p:Int)<(M:Int):=by omega
    have hhd:=Rw.pQ ts p x hx;obtain⟨K,hK⟩:=fq (x.1);rw[hK]at c0 hhd;by_cases q:K=5
    ·have hst:=Rw.G8 F ts p (by rw[hhd];exact q);have hci:=Rw.Kk ts p (by rw[HLen.out];exact hpm);have hen:=Oj true (p+1) Br Be Bs Bw Ba F p ev _ es rest ts wr hm (λW hW=>aS.out W (hb.trans hW)) (by rw[HLen.out];omega) aW.out (by rw[HLen.out];omega) (by rw[HLen.out];omega) (by omega) (by omega);rw[show((p+1:Nat):Int)=(p:Int)+1 from by omega]at hen;have hbi:=Rw.j6 ts (p+1) (by rw[HLen.out];omega);rw[HLen.out]at hbi;have hpb:=Rw.Jk ts (p+1);obtain⟨P2,hP2⟩:=fq (p+1+Rw.blanks (ts.drop (p+1)));rw[hP2]at hst hen hbi hpb;have hp2:p+1<=P2:=by omega
     obtain⟨bK,bQ,aV,bR⟩:=oN hst hci hen hpb;have g:((K:Int)==5)=true:=by simp;omega
     clear hst hci hen hpb hP2 hm hb hx hhd q hK;go_wp2_with fail
     refine aV.out.mono ?_;rintro e w2 ⟨rfl,⟨aF,hM2⟩,hb2⟩;obtain⟨ax,HB2⟩:=fT hM2 (HB.out.trans hb2);have bS:=iF hM2.at';clear hM2 hb2;go_wp2
     go_roundw
     case rel=>
      refine⟨P2,es++[⟨true,Rw.uE ts p,F+p,F+(p+1)⟩],aF,F+(p+1),ax.out,hbi,by simp;omega,eZ (by rw[Rw.yS]),eZ ?_,eZ (bK.out.2.symm.trans HK.out),bR,HB2.out⟩;rw[nQ,<-HE.out,bK.out.1,bQ.out];rfl
     case measure=>simp[intOf,ca,bS];omega
    have hst:=Rw.yR F ts p (by rw[hhd];exact q);have g:((K:Int)==5)=false:=by simp;omega
    have hk:p=KQ:=by rw[<-HK.out];exact hst.2.symm
    have he:es=DS:=by rw[<-HE.out,hst.1,mP]
    subst hk he;clear hst q hK hhd hx hm hb;go_wp2_with fail
    go_meet
    exact⟨ev,rest,HM.out,hp,hel,HR,aD,HB.out⟩
   have hst:=Rw.Jm F ts p (by rw[HLen.out];omega);have hi:¬((p:Int)<(M:Int)):=by omega
   have hk:p=KQ:=by rw[<-HK.out];exact hst.2.symm
   have he:es=DS:=by rw[<-HE.out,hst.1,mP]
   subst hk he;clear hst hm hb;go_wp2_with fail
   go_meet
   exact⟨ev,rest,HM.out,hp,hel,HR,aD,HB.out⟩
 case rest=>
 obtain⟨ev,rest,hm,bT,hdl,HR,aD,hb⟩:=hcut;have hbk:=Tv _ ts KQ wc (aS.out wc hb) (by rw[HLen.out];omega) (by rw[HLen.out];exact bT);have hkk:MQ ts KQ=Rw.sK ts KQ:=by unfold MQ;rw[aD.out,qI]
 rw[hkk]at hbk;have hk0:=Rw.Qq F ts KQ;have hk1:=Rw.Qr F ts KQ;obtain⟨V,hV⟩:=fq (Rw.sK ts KQ);rw[hV]at hbk hk0 hk1;obtain⟨bU,bV,bW,HM,HB⟩:=sP hk0 hk1 hbk hm hb;have ca:=iF hm.at';have cw:=iF hm.row;clear hbk hkk hV hm hb bH bG bI bJ hk0 hk1
 go_upto_if 57 with fail
 refine bW.out.mono ?_;rintro e w2 ⟨rfl,rfl⟩
 go_upto_if 57 with fail
 go_cut [] (λwx=>∃(ev:Value)(p:Nat),EM wx Br Be Bs Bw Ba F ev EB aa (.slice au M cu) p/\Below Br w wx)
 case first=>
  by_cases hv:V=-1
  ·have hke:=bU.out hv;have hE:DS=EB:=by rw[bE.out,hke,mP]
   have hRr:rest=aa:=by rw[HR.out,bF.out,hE]
   subst hv;have ax:=eZ (show EM wc Br Be Bs Bw Ba F ev EB aa (.slice au M cu) KQ by rw[<-hE,<-hRr];exact HM.out);clear hke hE hRr;go_wp2_with fail
   go_meet
   exact⟨ev,KQ,ax.out,HB.out⟩
  obtain⟨q,hq,hkq,bX,hkn,hke⟩:=bV.out hv;rw[HLen.out]at bX hkn;have hci:=Rw.Kk ts KQ (by rw[HLen.out];exact hkn);have hE:DS++[⟨false,Rw.uE ts KQ,F+KQ,F+q⟩]=EB:=by rw[bE.out,hke,hci]
  have hRr:F+q=aa:=by rw[bF.out,<-hE,Rw.yS]
  have hen:=Oj false q Br Be Bs Bw Ba F KQ ev _ DS rest ts wc HM.out (λW hW=>aS.out W (HB.out.trans hW)) (by rw[HLen.out];omega) aW.out (by rw[HLen.out];omega) (by rw[HLen.out];omega) (by omega) (by omega);obtain⟨aV,HE2,HR2⟩:=jF hen hE hRr;have g:((q:Int) !=-1)=true:=by simp
  subst hq;clear hen hE hRr hci hke hv;go_wp2_with fail
  refine aV.out.mono ?_;rintro e w2 ⟨rfl,⟨aF,hM2⟩,hb2⟩;rw[HE2.out,HR2.out]at hM2;obtain⟨ax,HB2⟩:=fT hM2 (HB.out.trans hb2);clear hM2 hb2;go_wp2
  go_meet
  exact⟨aF,_,ax.out,HB2.out⟩
 case rest=>
 obtain⟨aF,p2,hm2,hb2⟩:=hcut;obtain⟨a3,ae,hv3⟩:=(Reads.fJ (E:=qc) hm2.own).shape;subst hv3;have ce:=iF hm2.e;have fe:=wD hm2.e;have cs:=iF hm2.s;have fs:=wD hm2.s;have bZ:=hm2.ord;have HO:=eZ (H8 (H8 hm2.own (a:=⟨Be,0,none⟩) (by show Be<_;omega) (.slice a3 EB.length ae)) (a:=⟨Bs,0,none⟩) (by show Bs<_;omega) (.int .i64 aa));have HB2:=eZ ((hb2.setCell (p:=⟨Be,0,none⟩) (by show Br<=Be;omega) (.slice a3 EB.length ae)).setCell (p:=⟨Bs,0,none⟩) (by show Br<=Bs;omega) (.int .i64 aa));have hes:Be≠Bs:=by omega
 have bY:=eZ (show w.heap.size<=Ba+1 by have:=bD.out;omega);clear hm2 hb2 ca cw;go_wp2_with fail
 go_region
 go_wp2_with fail
 refine pW (v:=.tuple #[.slice a3 EB.length ae,.int .i64 aa]) ?_ rfl ⟨.slice a3 EB.length ae,by rw[bO.out],by rw[bN.out];exact(lq HO.out bY.out).drew,by rw[bD.out];exact HB2.out.drew⟩;simp[results,results64,go_sem,ce,cs,gU]
theorem Qs(bv v:Value)(l:List Tk)(x:Rw.R)(w:World)(h:Reads iU w v l)(hs:l.length<=100000)(hf:∀x∈l,x.2.1<=1000000)(h1:x.from'<=x.bu)(h2:x.bu<=l.length):
 Calls prog 64 #[bv,v,KT x] w (Ip 97 (Rw.iP l x).1 (Rw.iP l x).2 w):=by
 by_cases hk:x.kind=5
 ·obtain⟨k,f,t,c⟩:=x;dsimp only at hk h1 h2;subst hk;have e:Rw.iP l ⟨5,f,t,c⟩=(Rw.l9 f ((l.drop f).take (t-f)),Rw.pX f ((l.drop f).take (t-f))):=by unfold Rw.iP;rw[eY rfl]
  rw[e];exact ED bv v l f t c w h hs hf h1 h2
 have e:Rw.iP l x=([],x.from'):=by unfold Rw.iP;rw[eX hk]
 rw[e];exact EC bv v l x w hk
end
end Go.Proofs.YtmkkdjpebbdikaaGreatDoor

import Derived.Test.YtmkkdjpebbdikaaGreatDoorZn18
import Derived.Test.YtmkkdjpebbdikaaGreatDoorZn19
import Derived.Test.YtmkkdjpebbdikaaGreatDoorZn20
set_option linter.all false
set_option maxHeartbeats 16000000
set_option maxRecDepth 100000
namespace Go.Proofs.YtmkkdjpebbdikaaGreatDoor
open Go.RowKit Go.Proofs.Tryz
section
open Go.RowKit
open Sq
open Ar
theorem fV.boxed{w0 w1 w2:World}{rb bx:Nat}{c:Ctx}{q:Pr.QS}{lv:Value}{R R':Nat->Prop}{C:Array Value}{T:TypeId}{fr:Nat×Nat}(hS:fV w0 w1 rb c q lv R)(hF:FP w1 w2 rb R R')(hb:w1.heap[bx]?=some (.cells C T fr))
 (h0:58≠T) (h1:3≠T) (h2:38≠T) (h3:40≠T) (h4:91≠T):w2.heap[bx]?=some (.cells C T fr):=by
 refine(hF.block bx (il hb) (λe=>?_) (hS.off hb h1 h2 h3 h4)).trans hb;obtain⟨nv,dv,L,hM,_⟩:=hS;rw[e,hM.box]at hb;injection hb with hb
 injection hb with _ h5
 exact h0 h5
theorem WL(w0 w:World)(rb:Nat)(c:Ctx)(q:Pr.QS)(lv:Value)(R:Nat->Prop)(r:Rw.R)(hS:fV w0 w rb c q lv R)(hq:Pr.nZ q)(hr1:r.from'<=r.bu)(hr2:r.bu<=c.l.length)(hn:q.s.t.length<=800000000000)(hd:q.s.d.length<=800000000000)(hls:q.st.length<=900000):
 Calls prog 41 #[RP rb,KT r] w (qM w0 w rb c R (.tuple #[]) (Pr.jY c.l q r)):=by
 obtain⟨kd,F,T,fG⟩:=r;dsimp only at hr1 hr2;obtain⟨Q,hQ⟩:=fq (qM w0 w rb c R (.tuple #[]) (Pr.jY c.l q ⟨kd,F,T,fG⟩));rw[hQ];unfold Pr.jY at hQ;dsimp only at hQ;obtain⟨wb,hwb⟩:=fq (w.alloc (.cells #[.int .i64 (kd:Int),.int .i64 (F:Int),.int .i64 (T:Int),.int .i64 fG] 61));obtain⟨bx,hbx⟩:=fq (w.heap.size);have hbw:Below w.heap.size w wb:=hwb▸fo w _;have kb:wb.heap[bx]?=some (.cells #[.int .i64 (kd:Int),.int .i64 (F:Int),.int .i64 (T:Int),.int .i64 fG] 61 (0,0)):=by rw[<-hwb,<-hbx];exact j5 _ _
 have hSb:=hS.below hbw;obtain⟨k1,k2,k3⟩:=hSb.tok;have HC:=eZ (xe rb c.tv c.l F T wb k1 k2 hr1 hr2 k3);have hge:=Ps.kQ c.l F T;obtain⟨x,hx⟩:=fq (Ps.lo c.l F T);rw[hx]at HC hge hQ;have x1:wb.cell? ⟨bx,1,none⟩=some (.int .i64 (F:Int)):=gG kb 1;have x2:wb.cell? ⟨bx,2,none⟩=some (.int .i64 (T:Int)):=gG kb 2;obtain⟨aa,ae⟩:=fT hwb hbx;have af:FP w wb rb R R:=FP.below hbw;by_cases hlt:x<T
 ·rw[eY hlt]at hQ;have hO:=Ap w0 wb rb c q lv R x hSb hq.pos (by omega) (by omega);obtain⟨o1,o2,o3,o4,v,tl,o5⟩:=Pr.lZ hq x;have ag:tl.length<=1000000:=by
   have:=Pr.G4 q x;rw[o5]at this;simp at this;omega
  obtain⟨q2,hq2⟩:=fq (Pr.fM q x);rw[hq2]at hO o1 o2 o3 o4 o5 hQ;have hfree:Pr.mq q2.st=Pr.free v:=by rw[o5];rfl
  rw[hfree]at hQ;have hfl:=o1.free;rw[hfree]at hfl;obtain⟨HO,aj,ak,av,ax,ay⟩:=kJ hO kb hSb af o5 hfl;have az:=eZ (show q2.s.t.length<=900000000000 by omega);have aA:=eZ (show q2.s.d.length<=1000000000000 by rw[o4];omega);have aB:=eZ (show x<=T by omega);obtain⟨aC,aD,aF⟩:=jF hr2 ag hQ;have gx:(x:Int)<(T:Int):=by omega
  clear hwb hbx hbw kb hSb hS k1 k2 k3 hx hge af hQ hq hO o1 o2 o3 o4 o5 hq2 hfree hfl ag hlt hr1 hr2 hn hd hls
  go_enter func41,ntmps41
  go_upto_region 1 with fail
  rw[aa.out,ae.out];clear aa ae;go_wp2_with fail
  refine HC.out.mono ?_;rintro e w1 ⟨rfl,rfl⟩;go_wp2_with fail
  refine HO.out.mono ?_;rintro e w2 ⟨rfl,ah,R2,hS2,hF2⟩;have aG:=ak.out.boxed hF2 aj.out (by decide) (by decide) (by decide) (by decide) (by decide);have x2:w2.cell? ⟨bx,2,none⟩=some (.int .i64 (T:Int)):=gG aG 2;obtain⟨gl,cap,hlv,hfz,hcl,c8,-⟩:=hS2.top ax.out;have aJ:=eZ (vO w2.drew rb gl tl.length cap (fE c8) aD.out);have aK:=eZ (λW (hW:Below w2.heap.size w2 W)=>Nv W gl (tl.length*5) v (λj u hu=>fu hW (hcl j u hu)));have aL:=eZ (λW (hW:Below w2.heap.size w2 W)=>xW w0 W rb c q2 ah R2 (Pr.free v) 8 x T (hS2.below hW) ay.out aB.out aC.out az.out aA.out)
  have HQ:=eZ (λw7 R7 (ai:Nat)(h1:fV w0 w7 rb c {q2 with s:=Pr.fault c.l q2.s (Pr.free v) 8 x T} ah R7)(h2:FP (w2.drewN ai) w7 rb R2 R7)=>show Q (.returned (.tuple #[])) w7 by
   rw[<-aF.out]
   exact⟨rfl,ah,R7,h1,av.out.trans (hF2.trans ((FP.below (ji (fI _ w2) ai)).trans h2))⟩)
  clear hS2 hF2 aG hlv hfz hcl c8 HO HC ak aj av aF ay aB aC az aA aD ax;go_upto_region 4 with fail
  refine gK (λwx=>wx.cell? ⟨bx,2,none⟩=some (.int .i64 (T:Int))) 7 (by kernel_rfl) ?_;have hH:(λwx:World=>wx.cell? ⟨bx,2,none⟩=some (.int .i64 (T:Int))) w2.drew:=fE x2;refine ik 0 (.pointer (some ⟨rb,0,none⟩)) rfl (by kernel_rfl) rfl fC (λW hW=>by go_simp) hH ?_;refine iD 1 (.pointer (some ⟨rb,0,none⟩)) rfl (by kernel_rfl) rfl fC (λW=>by go_simp) (λ_=>hH) ?_;refine ik 4 (.int .i64 (x:Int)) rfl (by kernel_rfl) rfl fC (λW hW=>by go_simp) hH ?_;refine iD 5 (.pointer (some ⟨bx,2,none⟩)) rfl (by kernel_rfl) rfl fC (λW=>by go_simp) (λ_=>hH) ?_;refine ik 6 (.int .i64 (T:Int)) rfl (by kernel_rfl) rfl fC (λW hW=>by go_simp) hH ?_;refine mO 2 (by kernel_rfl) rfl λK hK=>?_
  go_simp;refine aJ.out.mono ?_;rintro e w5 ⟨rfl,ai,rfl⟩;refine hK.out _ _ (λ_=>hH) (λhH2=>?_);clear hK K;replace hH:=hH2 (by kernel_rfl);clear hH2;try simp only[Act.put,fK,fP,fO]
  refine mO 3 (by kernel_rfl) rfl λK hK=>?_
  go_simp;refine(aK.out _ (ji (fI _ _) _)).mono ?_;rintro e w6 ⟨rfl,rfl⟩;refine hK.out _ _ (λ_=>hH) (λhH2=>?_);clear hK K;replace hH:=hH2 (by kernel_rfl);clear hH2;try simp only[Act.put,fK,fP,fO]
  refine mO 7 (by kernel_rfl) rfl λK hK=>?_
  go_simp;refine(aL.out _ (ji (fI _ _) _)).mono ?_;rintro e w7 ⟨rfl,R7,aH,aI⟩;have HD:=eZ (HQ.out w7 R7 _ aH aI);clear aH aI;refine hK.out _ _ (kC (by kernel_rfl)) (λ_=>?_);clear hK K;try simp only[Act.put,fK,fP,fO]
  refine gH (by kernel_rfl) ?_ _;try go_end0
  exact HD.out
 rw[eX hlt]at hQ;have HD:=eZ (show Q (.returned (.tuple #[])) wb by rw[<-hQ];exact⟨rfl,lv,R,hSb,af⟩);have gx:¬(x:Int)<(T:Int):=by omega
 clear hwb hbx hbw kb hSb hS k1 k2 k3 hx hge af hQ hq hlt hr1 hr2 hn hd hls
 go_enter func41,ntmps41
 go_upto_region 1 with fail
 rw[aa.out,ae.out];clear aa ae;go_wp2_with fail
 refine HC.out.mono ?_;rintro e w1 ⟨rfl,rfl⟩;go_wp2_with fail
 try go_end0
 exact HD.out
end
section
open Go.RowKit
open Sq
open Ar
theorem Qt(rb:Nat)(v:Value)(l:List Tk)(a b:Nat)(w:World)(hc:w.cell? ⟨rb,1,none⟩=some v)(h:Reads iU w v l)(hs:l.length<=100000)(hab:a<=b)(hb:b<=l.length):
 Calls prog 133 #[RP rb,.int .i64 a,.int .i64 b] w λe w'=>e=.returned (.int .i64 (uG l a (b-a):Nat))/\Below w.heap.size w w':=by
 obtain⟨ad,cap,rfl⟩:=h.shape;obtain⟨u,hu,aa⟩:=Dq (P:=prog) Q9 h hab hb;have hlen:((l.drop a).take (b-a)).length=b-a:=by rw[kD,iT];omega
 have hget:∀k x,((l.drop a).take (b-a))[k]?=some x->k<b-a/\Fl.raw l (a+k)=x.1:=by
  intro k x hx;have hk:=(gD.1 hx).1;rw[hlen]at hk;rw[rD hk,sJ]at hx;exact⟨hk,Fl.rM hx⟩
 obtain⟨ts,hts⟩:=fq ((l.drop a).take (b-a));rw[hts]at aa hlen hget;obtain⟨ua,uc,rfl⟩:=aa.shape;have HT:=eZ (λW (hW:Below w.heap.size w W) j x (hj:ts[j]?=some x)=>iZ (aa.below hW) j x hj);have HG:=eZ hget;obtain⟨M,hM⟩:=fq (b-a);rw[hM]at hlen HG⊢;have HY:=eZ (λk (hk:k<M) h=>xg (l:=l) (a:=a) hk h);have HN:=eZ (λh=>zk (l:=l) (a:=a) (n:=M) h);obtain⟨T,hT⟩:=fq (uG l a M);rw[hT]at HY HN⊢;rw[hlen]at hu;have HL:=eZ hlen;have hMs:M<=100000:=by omega
 obtain⟨N,hN⟩:=fq (l.length);rw[hN]at hc hb hs hu;clear h aa hget hlen hT hts hN hM
 go_enter func133,ntmps133
 go_wp2_with fail
 go_loopw [17] (λiv wr=>∃k:Nat,iv=.int .i64 k/\k<=M/\Hid (∀j,j<k->Fl.raw l (a+j)≠13)/\Below w.heap.size w wr) (λiv _=>M-(intOf iv).toNat)
 case atStart=>exact⟨0,rfl,ic _,eZ (λj h=>absurd h (qJ j)),fI _ _⟩
 case round=>
  obtain⟨k,rfl,hk,HA,hB⟩:=hrel;have HB:=eZ hB;by_cases hlt:k<M
  ·obtain⟨x,hx⟩:=jB ts k (by rw[HL.out];exact hlt);obtain⟨xb,off,rfl,c0,c1,c2⟩:=HT.out wr hB k x hx;have hr:=(HG.out k x hx).2;have hi:(k:Int)<(M:Int):=by omega
   obtain⟨K,hK⟩:=fq (x.1);rw[hK]at c0 hr;by_cases q:K=13
   ·have hT:=HY.out k hlt (by rw[hr];exact q);have g:((K:Int)==13)=true:=by simp;omega
    clear hr hx hK HT HG HY HN HL HA hB q;subst hT;go_wp2_with fail
    go_ret;exact⟨rfl,fD HB.out (fo _ _)⟩
   have HA2:=eZ (show∀j,j<k+1->Fl.raw l (a+j)≠13 from λj hj=>by
    by_cases e:j=k
    ·rw[e,hr];exact q
    exact HA.out j (by omega))
   have g:((K:Int)==13)=false:=by simp;omega
   clear hr hx hK HT HG HY HN HL HA hB q;go_wp2_with fail
   go_roundw
   case rel=>exact⟨k+1,by go_num,by omega,HA2,fD HB.out (fo _ _)⟩
   case measure=>simp[intOf];omega
  obtain rfl:k=M:=by omega
  have hT:=HN.out HA.out;have hne:¬((k:Int)<(k:Int)):=by omega
  clear HT HG HY HN HL HA hB hlt;subst hT;go_wp2_with fail
  go_ret;exact⟨rfl,HB.out⟩
theorem fV.key{w0 w:World}{rb:Nat}{c:Ctx}{q:Pr.QS}{lv:Value}{R:Nat->Prop}{i:Nat}(hS:fV w0 w rb c q lv R)(hi:i<q.s.t.length):
 ∃g cap,w.cell? ⟨rb,4,none⟩=some (.slice (some ⟨g,0,none⟩) q.s.t.length cap)/\(∀o,w.frozen? ⟨g,o,none⟩=false)/\(∃b,w.cell? ⟨g,i*6+5,none⟩=some (.bool b))/\
  ∃R',fV w0 (w.setCell ⟨g,i*6+5,none⟩ (.bool true)) rb c {q with s:=⟨Fl.keyed q.s.t i,q.s.d⟩} lv R'/\FP w (w.setCell ⟨g,i*6+5,none⟩ (.bool true)) rb R R':=by
 obtain⟨nv,dv,L,hM,hL,hTr,rfl⟩:=hS;have hLn:L.length=q.s.t.length:=by rw[<-hL,jD]
 obtain⟨p,hp⟩:=jB L i (by omega);have hpx:q.s.t[i]?=some p.nd:=by rw[<-hL,lS,hp];rfl
 obtain⟨g,cap,rfl,hB,hfz,hc1,hc2⟩:=jM hM.nodes.row (by omega);obtain⟨hM2,hF⟩:=hM.setNode i 5 p {p.nd with y:=true} (.bool true) hp rfl rfl (by decide);have h5:w.cell? ⟨g,i*6+5,none⟩=some (.bool p.nd.y):=by
  have:=hM.nodes.row.cells (g:=g) rfl _ _ ((iO gP L i p hp 5 (by decide)).trans rfl);rw[gQ,kU]at this;exact this
 have hkd:(L.set i {p with nd:={p.nd with y:=true}}).map Ln.nd=Fl.keyed q.s.t i:=by
  unfold Fl.keyed;rw[jk,hpx,EO,hL]
 refine⟨g,cap,by rw[<-hLn];exact Dk hM.box,hfz,⟨_,h5⟩,_,⟨_,dv,_,hM2,hkd,?_,rfl⟩,hF⟩;have hlen:(Fl.keyed q.s.t i).length=q.s.t.length:=by rw[<-hkd,jD,lT,hLn]
 refine⟨λj x hj hx=>?_,λx hx=>?_⟩
 ·unfold Fl.keyed at hx;rw[jk,hpx]at hx;dsimp only at hx;rw[nW]at hx;split at hx
  ·rename_i e;subst e;injection hx with hx
   subst hx;exact hTr.up i p.nd hj hpx
  exact hTr.up j x hj hx
 show x.ks.length<=(Fl.keyed q.s.t i).length;rw[hlen];have hx:x∈Fl.keyed q.s.t i:=hx;unfold Fl.keyed at hx;rw[jk,hpx]at hx;rcases Vs hx with hx|hx
 ·exact hTr.kb x hx
 rw[hx];exact hTr.kb p.nd (iK hpx)
theorem fV.Kl{w0 w:World}{rb:Nat}{c:Ctx}{q:Pr.QS}{lv:Value}{R:Nat->Prop}{h:Pr.Lv}{tl:List Pr.Lv}{gl n cap m:Nat}(hS:fV w0 w rb c q lv R)(hlv:Value.slice (some ⟨gl,0,none⟩) n cap=lv)(hm:tl.length=m)(hst:q.st=h::tl)(j:Nat)(u:Value)(h':Pr.Lv)(hc:nz h'=(nz h).set j u)(hj:j<5):
 fV w0 (w.setCell ⟨gl,m*5+j,none⟩ u) rb c {q with st:=h'::tl} lv R/\FP w (w.setCell ⟨gl,m*5+j,none⟩ u) rb R R:=by
 subst hlv hm;exact hS.DI hst j u h' hc hj
theorem Km(w0 w:World)(rb:Nat)(c:Ctx)(q:Pr.QS)(lv:Value)(R:Nat->Prop)(h:Pr.Lv)(tl:List Pr.Lv)(e:Rw.E)(hS:fV w0 w rb c q lv R)(hst:q.st=h::tl)(hnd:h.node<q.s.t.length)(h1:e.from'<e.bu)(h2:e.bu<=c.l.length)(hcn:Fl.cnt (Fl.raw c.l e.from')=true)(hn:q.s.t.length<=800000000000)(htl:tl.length<=1000000):
 Calls prog 102 #[RP rb,Di e] w (ng w0 w rb c lv R (.tuple #[]) (Pr.again c.l q e h tl)):=by
 obtain⟨ed,aH,F,T⟩:=e;dsimp only at h1 h2 hcn;obtain⟨wb,hwb⟩:=fq (w.alloc (.cells #[.bool ed,.int .i64 aH,.int .i64 (F:Int),.int .i64 (T:Int)] 97));obtain⟨be,hbe⟩:=fq (w.heap.size);have hbw:Below w.heap.size w wb:=hwb▸fo w _;have kb:wb.heap[be]?=some (.cells #[.bool ed,.int .i64 aH,.int .i64 (F:Int),.int .i64 (T:Int)] 97 (0,0)):=by rw[<-hwb,<-hbe];exact j5 _ _
 have bT:FP w wb rb R R:=FP.below hbw;obtain⟨gl,cap,rfl,hfz,hcl,c8,-⟩:=hS.top hst;have hIn:=vO wb rb gl tl.length cap (fu hbw c8) htl;obtain⟨m,hm⟩:=fq (tl.length);have ax:=eZ hm;have dw:=c.l.length;have hkt:=hS.ctx.size;obtain⟨h',hh'⟩:∃h',({h with full:=false}:Pr.Lv)=h':=⟨_,rfl⟩
 have aI:=λW (hW:Below w.heap.size w W)=>fV.DI (hS.below hW) hst 4 (.bool false) h' (by rw[<-hh'];rfl) (by decide)
 obtain⟨q1,hq1⟩:∃q1:Pr.QS,{q with st:=h'::tl}=q1:=⟨_,rfl⟩
 rw[hq1]at aI;have bA:q1.st=h'::tl:=by rw[<-hq1]
 have hs1:q1.s=q.s:=by rw[<-hq1]
 have aJ:h'.node=h.node:=by rw[<-hh']
 have hA:=fun(k:Nat) W R' (hW:fV w0 W rb c q1 (.slice (some ⟨gl,0,none⟩) (tl.length+1) cap) R')=>Nh w0 W rb c q1 _ R' h.node k F T hW (by rw[hs1];exact hnd) (by rw[hs1];omega)
 obtain⟨N,hN⟩:=fq (q.s.t.length);rw[hs1,hN]at hA;rw[hN]at hn hnd;obtain⟨ND,aK⟩:=fq (h.node);rw[aK]at hA hnd;have aC:∀W,Below w.heap.size w W->∀j u,(nz h)[j]?=some u->W.cell? ⟨gl,m*5+j,none⟩=some u:=λW hW j u hu=>by rw[<-hm];exact fu hW (hcl j u hu)
 have hgl:=(hS.rows (by have:=hS.top hst;obtain⟨dH,cap',hv,-,-,-,hr⟩:=this;have e:=(ll hv).1;injection e with e;injection e with e;rw[e];exact hr:R gl)).2.1;obtain⟨lv,hlv⟩:=fq ((Value.slice (some ⟨gl,0,none⟩) (tl.length+1) cap));obtain⟨QQ,bf⟩:∃Q,ng w0 w rb c lv R (.tuple #[]) (Pr.again c.l q ⟨ed,aH,F,T⟩ h tl)=Q:=⟨_,rfl⟩
 rw[hlv,bf];have bU:∀k,k=(if ed=true then 4 else 6)->(ed=true\/T-F<2)->∀W R',fV w0 W rb c {q1 with s:=⟨Pr.add q.s.t ND k F T,q.s.d⟩,st:={h' with cur:=N}::tl} lv R'->FP w W rb R R'->QQ (.returned (.tuple #[])) W:=λk hk hor W R' hS' hF'=>by
  rw[<-bf];refine⟨rfl,R',?_,hF'⟩;rw[<-hq1,<-hh',<-aK]at hS';unfold Pr.again Pr.enter;dsimp only;rw[hN];by_cases he:ed=true
  ·rw[eY he]at hk;rw[hk]at hS';rw[eY he];exact hS'
  rw[eX he]at hk;rw[hk]at hS';rw[eX he,eY (hor.elim (λx=>absurd x he) id)];exact hS'
 have bV:ed=false->¬T-F<2->∀W R',fV w0 W rb c {q1 with s:=⟨Pr.add (Fl.keyed (Pr.add q.s.t ND 6 F T) N) N (uG c.l F (T-1-F)) F (Fl.back c.l (T-1) (F+1)),q.s.d⟩,st:={h' with cur:=N}::tl} lv R'->FP w W rb R R'->QQ (.returned (.tuple #[])) W:=λhe hlt W R' hS' hF'=>by
  rw[<-bf];refine⟨rfl,R',?_,hF'⟩;rw[<-hq1,<-hh',<-aK]at hS';unfold Pr.again Pr.enter;dsimp only;rw[hN,eX (by rw[he];decide),eX hlt];unfold uG at hS';have e8:(((if(List.range (T-1-F)).any (λx=>Fl.raw c.l (F+x)==13)=true then 8 else 7:Nat)):Int)=(if(List.range (T-1-F)).any (λx=>Fl.raw c.l (F+x)==13)=true then 8 else 7:Int):=by split<;>rfl
  rw[e8]at hS';exact hS'
 obtain⟨dx,dA,bJ⟩:=hS.tok;have bW:∀W,Below w0.heap.size w0 W->W.cell? ⟨rb,1,none⟩=some c.tv->F<=T-1->Calls prog 133 #[RP rb,.int .i64 F,.int .i64 (T-1:Nat)] W λe w'=>e=.returned (.int .i64 (uG c.l F (T-1-F):Nat))/\Below W.heap.size W w':=λW h0 h1' h2'=>Qt rb c.tv c.l F (T-1) W h1' (hS.ctx.toks.below h0) bJ h2' (by omega)
 have bX:∀W,Below w0.heap.size w0 W->W.cell? ⟨rb,1,none⟩=some c.tv->¬T-F<2->Calls prog 96 #[RP rb,.int .i64 (T-1:Nat)] W λe w'=>e=.returned (.int .i64 (Fl.back c.l (T-1) (F+1):Nat))/\W=w':=λW h0 h1' h2'=>F5 rb c.tv c.l (T-1) (F+1) W h1' (hS.ctx.toks.below h0) (by omega) bJ (by omega) (by omega) ⟨F+1,fB _,by omega,by rw[jH];exact hcn⟩
 rw[hlv]at hA aI;have bB:∀W,Below w.heap.size w W->∀o,W.frozen? ⟨gl,o,none⟩=false:=λW hW o=>by rw[hW.frozen (p:=⟨gl,o,none⟩) hgl];exact hfz o
 obtain⟨bY,aL⟩:=fT hwb hbe;rw[hm]at hIn;obtain⟨bZ,cr,cz,HS⟩:=oN hIn kb hbw hS;rw[hm]at aI;obtain⟨cB,HA,cK,cO,aM,ay⟩:=kJ aI hA aC bT bA hlv;obtain⟨bK,cZ,aF,af,ag,ah⟩:=kJ (aJ.trans aK) bB bU bV bW bX;obtain⟨HN,dI⟩:=fT hN hs1;have hT1:T<=32768:=by omega
 have dG:=eZ htl;clear hwb hbe hbw kb bT hfz hcl c8 hIn hm aI bA hA aC bf aJ aK hq1 hh' hcn hS hst hs1 hN htl bU bV dx dA bJ bW bX hlv bB hgl dw hkt h2
 go_enter func102,ntmps102
 go_upto_region 1 with fail
 rw[bY.out,aL.out];clear bY aL;go_wp2_with fail
 refine bZ.out.mono ?_;rintro e w1 ⟨rfl,n1,rfl⟩;have hb1:Below w.heap.size w (wb.drewN n1):=ji cz.out n1;have bL:(wb.drewN n1).heap[be]?=_:=cr.out;obtain⟨w1,hw1⟩:=fq (wb.drewN n1);rw[hw1]at hb1 bL⊢;obtain⟨hS2,hF2⟩:=cB.out w1 hb1;have c4:=cK.out w1 hb1 4 _ rfl;have f4:=cZ.out w1 hb1 (m*5+4);have az:=(HS.out.below hb1).boxed hF2 bL (by decide) (by decide) (by decide) (by decide) (by decide);obtain⟨w2,hw2⟩:=fq (w1.setCell ⟨gl,m*5+4,none⟩ (.bool false));rw[hw2]at hS2 hF2 az;have b0:=(gG az 0).trans rfl;have b2:w2.cell? ⟨be,2,none⟩=some (.int .i64 (F:Int)):=(gG az 2).trans rfl;have b3:w2.cell? ⟨be,3,none⟩=some (.int .i64 (T:Int)):=(gG az 3).trans rfl;have b0:w2.cell? ⟨be,0,none⟩=some (.bool ed):=(gG az 0).trans rfl;obtain⟨dB,cap2,hlv2,-,bC,-,-⟩:=hS2.top aM.out;have e2:gl=dB:=by rw[<-ay.out]at hlv2;have e:=(ll hlv2).1;injection e with e;injection e with e
 subst e2;have n1':=bC 1 _ rfl;rw[ax.out,bK.out]at n1';have n1:w2.cell? ⟨gl,m*5+1,none⟩=some (.int .i64 (ND:Int)):=n1';obtain⟨bD,HS2⟩:=fT az hS2;have bM:=eZ (cO.out.trans ((FP.below (by rw[<-hw1];exact ji (fI _ wb) _)).trans hF2));have HW2:=eZ hw2;clear hw1 hb1 bL hS2 hF2 az hw2 hlv2 bC n1' bZ cr cz HS cB cK cO cZ;go_upto_region 3 with fail
 rw[HW2.out];clear HW2 c4 f4;have aA:=eZ (λk W (hW:Below w2.heap.size w2 W)=>HA.out k W R (HS2.out.below hW));clear HA;cases ed with
 |true=>
  have aF:=eZ (aF.out 4 rfl (.inl rfl));clear af ag ah;have aA:=eZ (aA.out 4);go_upto_region 4 with fail
  refine gK (λwx=>wx.cell? ⟨gl,m*5+1,none⟩=some (.int .i64 (ND:Int))/\wx.cell? ⟨be,2,none⟩=some (.int .i64 (F:Int))/\wx.cell? ⟨be,3,none⟩=some (.int .i64 (T:Int))) 10 (by kernel_rfl) ?_;have hH:(λwx:World=>wx.cell? ⟨gl,m*5+1,none⟩=some (.int .i64 (ND:Int))/\wx.cell? ⟨be,2,none⟩=some (.int .i64 (F:Int))/\wx.cell? ⟨be,3,none⟩=some (.int .i64 (T:Int))) w2.drew:=⟨fE n1,fE b2,fE b3⟩
  refine iD 0 (.pointer (some ⟨gl,m*5,none⟩)) rfl (by kernel_rfl) rfl fC (λW=>by go_simp) (λ_=>hH) ?_;refine ik 1 (.pointer (some ⟨rb,0,none⟩)) rfl (by kernel_rfl) rfl fC (λW hW=>by go_simp) hH ?_;refine iD 2 (.pointer (some ⟨gl,m*5,none⟩)) rfl (by kernel_rfl) rfl fC (λW=>by go_simp) (λ_=>hH) ?_;refine iD 3 (.pointer (some ⟨gl,m*5,none⟩)) rfl (by kernel_rfl) rfl fC (λW=>by go_simp) (λ_=>hH) ?_;refine iD 4 (.pointer (some ⟨gl,m*5+1,none⟩)) rfl (by kernel_rfl) rfl fC (λW=>by go_simp) (λ_=>hH) ?_;refine ik 5 (.int .i64 (ND:Int)) rfl (by kernel_rfl) rfl fC (λW hW=>?_) hH ?_
  ·obtain⟨z0,z1,z2⟩:=hW;go_simp
  refine iD 6 (.pointer (some ⟨be,2,none⟩)) rfl (by kernel_rfl) rfl fC (λW=>by go_simp) (λ_=>hH) ?_;refine ik 7 (.int .i64 (F:Int)) rfl (by kernel_rfl) rfl fC (λW hW=>?_) hH ?_
  ·obtain⟨z0,z1,z2⟩:=hW;go_simp
  refine iD 8 (.pointer (some ⟨be,3,none⟩)) rfl (by kernel_rfl) rfl fC (λW=>by go_simp) (λ_=>hH) ?_;refine ik 9 (.int .i64 (T:Int)) rfl (by kernel_rfl) rfl fC (λW hW=>?_) hH ?_
  ·obtain⟨z0,z1,z2⟩:=hW;go_simp
  refine mO 10 (by kernel_rfl) rfl λK hK=>?_
  go_simp;refine(aA.out _ (fI _ w2).drew).mono ?_;rintro e w3 ⟨rfl,R3,aB,aN⟩;obtain⟨dC,df,hlv3,ai,aj,bN,-⟩:=aB.top aM.out;have e3:=hlv3;rw[<-ay.out]at e3;have e3:=(ll e3).1;injection e3 with e3
  injection e3 with e3
  subst e3;have n33:w3.cell? ⟨gl,m*5+3,none⟩=some (.int .i64 (h'.cur:Int)):=by have:=aj 3 _ rfl;rw[ax.out]at this;exact this
  have f33:=ai (m*5+3);obtain⟨bg,aO⟩:=fT aB aN;clear aB aN hlv3 ai aj bN;refine hK.out _ _ (kC (by kernel_rfl)) (λ_=>?_);clear hK K;try simp only[Act.put,fK,fP,fO]
  refine iD 11 (.pointer (some ⟨gl,m*5,none⟩)) rfl (by kernel_rfl) rfl fC (λW=>by go_simp) (kC (by kernel_rfl)) ?_;refine iD 12 (.pointer (some ⟨gl,m*5+3,none⟩)) rfl (by kernel_rfl) rfl fC (λW=>by go_simp) (kC (by kernel_rfl)) ?_;refine mO 13 (by kernel_rfl) rfl λK hK=>?_
  go_simp;refine hK.out _ _ (kC (by kernel_rfl)) (λ_=>?_);clear hK K;try simp only[Act.put,fK,fP,fO]
  refine gH (by kernel_rfl) ?_ _
  have HD:=eZ (show QQ (.returned (.tuple #[])) (w3.setCell ⟨gl,m*5+3,none⟩ (.int .i64 (N:Int)))from by
   have h4:=bg.out.Kl ay.out ax.out (h:=h') aM.out 3 (.int .i64 (N:Int)) {h' with cur:=N} rfl (by decide)
   exact aF.out _ _ h4.1 (bM.out.trans ((FP.below (fI _ w2).drew).trans (aO.out.trans h4.2))))
  go_wp2_with fail
  try go_end0
  exact HD.out
 |false=>
  have aA:=eZ (aA.out 6);go_upto_region 5 with fail
  refine gK (λwx=>wx.cell? ⟨gl,m*5+1,none⟩=some (.int .i64 (ND:Int))/\wx.cell? ⟨be,2,none⟩=some (.int .i64 (F:Int))/\wx.cell? ⟨be,3,none⟩=some (.int .i64 (T:Int))) 10 (by kernel_rfl) ?_;have hH:(λwx:World=>wx.cell? ⟨gl,m*5+1,none⟩=some (.int .i64 (ND:Int))/\wx.cell? ⟨be,2,none⟩=some (.int .i64 (F:Int))/\wx.cell? ⟨be,3,none⟩=some (.int .i64 (T:Int))) w2.drew:=⟨fE n1,fE b2,fE b3⟩
  refine iD 0 (.pointer (some ⟨gl,m*5,none⟩)) rfl (by kernel_rfl) rfl fC (λW=>by go_simp) (λ_=>hH) ?_;refine ik 1 (.pointer (some ⟨rb,0,none⟩)) rfl (by kernel_rfl) rfl fC (λW hW=>by go_simp) hH ?_;refine iD 2 (.pointer (some ⟨gl,m*5,none⟩)) rfl (by kernel_rfl) rfl fC (λW=>by go_simp) (λ_=>hH) ?_;refine iD 3 (.pointer (some ⟨gl,m*5,none⟩)) rfl (by kernel_rfl) rfl fC (λW=>by go_simp) (λ_=>hH) ?_;refine iD 4 (.pointer (some ⟨gl,m*5+1,none⟩)) rfl (by kernel_rfl) rfl fC (λW=>by go_simp) (λ_=>hH) ?_;refine ik 5 (.int .i64 (ND:Int)) rfl (by kernel_rfl) rfl fC (λW hW=>?_) hH ?_
  ·obtain⟨z0,z1,z2⟩:=hW;go_simp
  refine iD 6 (.pointer (some ⟨be,2,none⟩)) rfl (by kernel_rfl) rfl fC (λW=>by go_simp) (λ_=>hH) ?_;refine ik 7 (.int .i64 (F:Int)) rfl (by kernel_rfl) rfl fC (λW hW=>?_) hH ?_
  ·obtain⟨z0,z1,z2⟩:=hW;go_simp
  refine iD 8 (.pointer (some ⟨be,3,none⟩)) rfl (by kernel_rfl) rfl fC (λW=>by go_simp) (λ_=>hH) ?_;refine ik 9 (.int .i64 (T:Int)) rfl (by kernel_rfl) rfl fC (λW hW=>?_) hH ?_
  ·obtain⟨z0,z1,z2⟩:=hW;go_simp
  refine mO 10 (by kernel_rfl) rfl λK hK=>?_
  go_simp;refine(aA.out _ (fI _ w2).drew).mono ?_;rintro e w3 ⟨rfl,R3,aB,aN⟩;obtain⟨dC,df,hlv3,ai,aj,bN,-⟩:=aB.top aM.out;have e3:=hlv3;rw[<-ay.out]at e3;have e3:=(ll e3).1;injection e3 with e3
  injection e3 with e3
  subst e3;have n33:w3.cell? ⟨gl,m*5+3,none⟩=some (.int .i64 (h'.cur:Int)):=by have:=aj 3 _ rfl;rw[ax.out]at this;exact this
  have f33:=ai (m*5+3);obtain⟨bg,aO⟩:=fT aB aN;clear aB aN hlv3 ai aj bN;refine hK.out _ _ (kC (by kernel_rfl)) (λ_=>?_);clear hK K;try simp only[Act.put,fK,fP,fO]
  refine iD 11 (.pointer (some ⟨gl,m*5,none⟩)) rfl (by kernel_rfl) rfl fC (λW=>by go_simp) (kC (by kernel_rfl)) ?_;refine iD 12 (.pointer (some ⟨gl,m*5+3,none⟩)) rfl (by kernel_rfl) rfl fC (λW=>by go_simp) (kC (by kernel_rfl)) ?_;refine mO 13 (by kernel_rfl) rfl λK hK=>?_
  go_simp;refine hK.out _ _ (kC (by kernel_rfl)) (λ_=>?_);clear hK K;try simp only[Act.put,fK,fP,fO]
  refine gH (by kernel_rfl) ?_ _;obtain⟨aP,aQ⟩:=bg.out.Kl ay.out ax.out (h:=h') aM.out 3 (.int .i64 (N:Int)) {h' with cur:=N} rfl (by decide);have bO:FP w _ rb R R3:=bM.out.trans ((FP.below (fI _ w2).drew).trans (aO.out.trans aQ));have aR:=HS2.out.boxed ((FP.below (fI _ w2).drew).trans (aO.out.trans aQ)) bD.out (by decide) (by decide) (by decide) (by decide) (by decide);obtain⟨w4,hw4⟩:=fq (w3.setCell ⟨gl,m*5+3,none⟩ (.int .i64 (N:Int)));rw[hw4]at aP bO aR;obtain⟨q4,hq4⟩:∃q4:Pr.QS,{q1 with s:=⟨Pr.add q.s.t ND 6 F T,q.s.d⟩,st:={h' with cur:=N}::tl}=q4:=⟨_,rfl⟩
  have aP:fV w0 w4 rb c q4 lv R3:=by rw[<-hq4];exact aP
  have ak:q4.s.t=Pr.add q.s.t ND 6 F T:=by rw[<-hq4]
  have aS:q4.s.d=q.s.d:=by rw[<-hq4]
  have aD:q4.st={h' with cur:=N}::tl:=by rw[<-hq4]
  have av:q4.s.t.length=N+1:=by rw[ak,Pr.kZ,HN.out]
  have b2:w4.cell? ⟨be,2,none⟩=some (.int .i64 (F:Int)):=(gG aR 2).trans rfl;have b3:w4.cell? ⟨be,3,none⟩=some (.int .i64 (T:Int)):=(gG aR 3).trans rfl;obtain⟨C,hC⟩:=fq (T-1);have gw:(T:Int)-1=(C:Int):=by omega
  rw[hC]at af ag ah;obtain⟨dh,bP,bE,aT⟩:=oN hw4 bO aR aP;clear bg aO bM bD HS2 aA hw4 bO aR aP aQ;go_upto_region 6 with fail
  rw[dh.out];clear dh;go_upto_region 7 with fail
  clear gw;by_cases hlt:T-F<2
  ·have HD:=eZ (show QQ (.returned (.tuple #[])) w4 from aF.out 6 rfl (.inr hlt) w4 R3 (by rw[hq4];exact aT.out) bP.out);have g0:C=F:=by omega
   have g1:¬(F:Int)<(F:Int):=by omega
   clear aF af ag ah hq4 ak aS aD av hlt hC;rw[g0];go_wp2_with fail
   try go_end0
   exact HD.out
  have af:=eZ (af.out rfl hlt);have g1:(F:Int)<(C:Int):=by omega
  obtain⟨g5,cap5,aU,f5,⟨y5,bn⟩,R5,ae,bq⟩:=(aT.out.below (fI _ w4).drew).key (i:=N) (by rw[av];omega);rw[av]at aU;have aU:w4.cell? ⟨rb,4,none⟩=some (.slice (some ⟨g5,0,none⟩) (N+1) cap5):=aU;have bn:w4.cell? ⟨g5,N*6+5,none⟩=some (.bool y5):=bn;have f55:w4.frozen? ⟨g5,N*6+5,none⟩=false:=f5 _;obtain⟨dD,cap4,aV,-,bF,-,-⟩:=aT.out.top aD;have e4:gl=dD:=by rw[<-ay.out]at aV;have e:=(ll aV).1;injection e with e;injection e with e
  subst e4;have n35:w4.cell? ⟨gl,m*5+3,none⟩=some (.int .i64 (N:Int)):=by have:=bF 3 _ rfl;rw[ax.out]at this;exact this
  have gi:(N:Int)<(N:Int)+1:=by omega
  have dJ:(N:Int)<((N+1:Nat):Int):=by omega
  obtain⟨q6,aG⟩:∃q6:Pr.QS,{q4 with s:=⟨Fl.keyed q4.s.t N,q4.s.d⟩}=q6:=⟨_,rfl⟩
  rw[aG]at ae;have bG:q6.st={h' with cur:=N}::tl:=by rw[<-aG];exact aD
  have aW:q6.s.t=Fl.keyed (Pr.add q.s.t ND 6 F T) N:=by rw[<-aG,<-ak]
  have aX:q6.s.t.length=N+1:=by rw[aW,Fl.gL,<-ak,av]
  have bQ:=(aT.out.below (fI _ w4).drew).boxed bq (show w4.drew.heap[be]?=_ from bE.out) (by decide) (by decide) (by decide) (by decide) (by decide);obtain⟨w6,bR⟩:=fq (w4.drew.setCell ⟨g5,N*6+5,none⟩ (.bool true));rw[bR]at ae bq bQ;have bS:w6.cell? ⟨be,2,none⟩=some (.int .i64 (F:Int)):=(gG bQ 2).trans rfl;obtain⟨dE,cap6,aY,-,bH,-,-⟩:=ae.top bG;have e6:gl=dE:=by rw[<-ay.out]at aY;have e:=(ll aY).1;injection e with e;injection e with e
  subst e6;have n36:w6.cell? ⟨gl,m*5+3,none⟩=some (.int .i64 (N:Int)):=by have:=bH 3 _ rfl;rw[ax.out]at this;exact this
  have bI:q6.s.d=q.s.d:=by rw[<-aG];exact aS
  have di:=eZ (λW (hW:Below w6.heap.size w6 W)=>ag.out W (ae.lu.trans (hW.mono ae.lu.size)) (fu hW ae.tok.1) (by omega));have aL:=eZ (λW (hW:Below w6.heap.size w6 W)=>ah.out W (ae.lu.trans (hW.mono ae.lu.size)) (fu hW ae.tok.1) hlt);obtain⟨kk,hkk⟩:=fq (uG c.l F (C-F));obtain⟨bb,hbb⟩:=fq (Fl.back c.l C (F+1));rw[hkk]at di af;rw[hbb]at aL af;have dF:=eZ (λW (hW:Below w6.heap.size w6 W)=>Nh w0 W rb c q6 lv R5 N kk F bb (ae.below hW) (by rw[aX];omega) (by rw[aX];omega))
  have HQ:=eZ (λw9 R9 W (hb:Below w6.heap.size w6 W)(aZ:fV w0 w9 rb c {q6 with s:=⟨Pr.add q6.s.t N kk F bb,q6.s.d⟩} lv R9)(bz:FP W w9 rb R5 R9)=>show QQ (.returned (.tuple #[])) w9 from af.out w9 R9 (by
   rw[aW,bI,<-aG,<-hq4]at aZ
   exact aZ) (bP.out.trans ((FP.below (fI _ w4).drew).trans (bq.trans ((FP.below hb).trans bz)))))
  have dm:=eZ (show(w4.setCell ⟨g5,N*6+5,none⟩ (.bool true)).drew=w6 from bR);clear aF af ag ah hq4 ak aS aD av hlt hC ae bq bQ bR aG bG aW aX bI aV bF aY bH hkk hbb f5 aT bP bE;go_upto_region 8 with fail
  refine gK (λwx=>wx.cell? ⟨rb,4,none⟩=some (.slice (some ⟨g5,0,none⟩) (N+1) cap5)/\wx.cell? ⟨gl,m*5+3,none⟩=some (.int .i64 (N:Int))) 11 (by kernel_rfl) ?_;have hH:(λwx:World=>wx.cell? ⟨rb,4,none⟩=some (.slice (some ⟨g5,0,none⟩) (N+1) cap5)/\wx.cell? ⟨gl,m*5+3,none⟩=some (.int .i64 (N:Int))) w4.drew:=⟨fE aU,fE n35⟩
  refine ik 0 (.pointer (some ⟨rb,0,none⟩)) rfl (by kernel_rfl) rfl fC (λW hW=>by go_simp) hH ?_;refine ik 1 (.pointer (some ⟨rb,0,none⟩)) rfl (by kernel_rfl) rfl fC (λW hW=>by go_simp) hH ?_;refine ik 2 (.pointer (some ⟨rb,4,none⟩)) rfl (by kernel_rfl) rfl fC (λW hW=>by go_simp) hH ?_;refine ik 3 (.pointer (some ⟨rb,4,none⟩)) rfl (by kernel_rfl) rfl fC (λW hW=>by go_simp) hH ?_;refine ik 4 (.slice (some ⟨g5,0,none⟩) (N+1) cap5) rfl (by kernel_rfl) rfl fC (λW hW=>?_) hH ?_
  ·obtain⟨z0,z1⟩:=hW;go_simp
  refine ik 5 (.pointer (some ⟨gl,m*5,none⟩)) rfl (by kernel_rfl) rfl fC (λW hW=>by go_simp) hH ?_;refine ik 6 (.pointer (some ⟨gl,m*5,none⟩)) rfl (by kernel_rfl) rfl fC (λW hW=>by go_simp) hH ?_;refine ik 7 (.pointer (some ⟨gl,m*5+3,none⟩)) rfl (by kernel_rfl) rfl fC (λW hW=>by go_simp) hH ?_;refine ik 8 (.int .i64 (N:Int)) rfl (by kernel_rfl) rfl fC (λW hW=>?_) hH ?_
  ·obtain⟨z0,z1⟩:=hW;go_simp
  refine iD 9 (.pointer (some ⟨g5,N*6,none⟩)) rfl (by kernel_rfl) rfl fC (λW=>by go_simp) (λ_=>hH) ?_;refine ik 10 (.pointer (some ⟨g5,N*6+5,none⟩)) rfl (by kernel_rfl) rfl fC (λW hW=>by go_simp) hH ?_;refine mO 11 (by kernel_rfl) rfl λK hK=>?_
  have dK:=fE bn;have dL:w4.drew.frozen? ⟨g5,N*6+5,none⟩=false:=f55;go_simp;refine hK.out _ _ (kC (by kernel_rfl)) (λ_=>?_);clear hK K;try simp only[Act.put,fK,fP,fO]
  refine gH (by kernel_rfl) ?_ _;go_upto_region 9 with fail
  rw[dm.out];clear dm aU bn f55 n35;refine gK (λwx=>wx.cell? ⟨gl,m*5+3,none⟩=some (.int .i64 (N:Int))/\wx.cell? ⟨be,2,none⟩=some (.int .i64 (F:Int))) 15 (by kernel_rfl) ?_;have hH:(λwx:World=>wx.cell? ⟨gl,m*5+3,none⟩=some (.int .i64 (N:Int))/\wx.cell? ⟨be,2,none⟩=some (.int .i64 (F:Int))) w6.drew:=⟨fE n36,fE bS⟩
  refine ik 0 (.pointer (some ⟨rb,0,none⟩)) rfl (by kernel_rfl) rfl fC (λW hW=>by go_simp) hH ?_;refine iD 1 (.pointer (some ⟨gl,m*5,none⟩)) rfl (by kernel_rfl) rfl fC (λW=>by go_simp) (λ_=>hH) ?_;refine iD 2 (.pointer (some ⟨gl,m*5,none⟩)) rfl (by kernel_rfl) rfl fC (λW=>by go_simp) (λ_=>hH) ?_;refine iD 3 (.pointer (some ⟨gl,m*5+3,none⟩)) rfl (by kernel_rfl) rfl fC (λW=>by go_simp) (λ_=>hH) ?_;refine ik 4 (.int .i64 (N:Int)) rfl (by kernel_rfl) rfl fC (λW hW=>?_) hH ?_
  ·obtain⟨z0,z1⟩:=hW;go_simp
  refine iD 5 (.pointer (some ⟨rb,0,none⟩)) rfl (by kernel_rfl) rfl fC (λW=>by go_simp) (λ_=>hH) ?_;refine iD 6 (.pointer (some ⟨be,2,none⟩)) rfl (by kernel_rfl) rfl fC (λW=>by go_simp) (λ_=>hH) ?_;refine Xn 9 7 (.int .i64 (F:Int)) rfl (by kernel_rfl) rfl fC (λW hW=>?_) hH ?_
  ·obtain⟨z0,z1⟩:=hW;go_simp
  refine iD 8 (.int .i64 (C:Int)) rfl (by kernel_rfl) rfl fC (λW=>by go_simp) (λ_=>hH) ?_;refine iD 10 (.pointer (some ⟨be,2,none⟩)) rfl (by kernel_rfl) rfl fC (λW=>by go_simp) (λ_=>hH) ?_;refine ik 11 (.int .i64 (F:Int)) rfl (by kernel_rfl) rfl fC (λW hW=>?_) hH ?_
  ·obtain⟨z0,z1⟩:=hW;go_simp
  refine iD 12 (.pointer (some ⟨rb,0,none⟩)) rfl (by kernel_rfl) rfl fC (λW=>by go_simp) (λ_=>hH) ?_;refine iD 13 (.int .i64 (C:Int)) rfl (by kernel_rfl) rfl fC (λW=>by go_simp) (λ_=>hH) ?_;refine mO 9 (by kernel_rfl) rfl λK hK=>?_
  go_simp;refine(di.out _ (fI _ w6).drew).mono ?_;rintro e w7 ⟨rfl,dn⟩;have aa:=fD (fI _ w6).drew dn;clear dn;refine hK.out _ _ (λ_=>⟨fu aa n36,fu aa bS⟩) (λhH2=>?_);clear hK K;replace hH:=hH2 (by kernel_rfl);clear hH2;try simp only[Act.put,fK,fP,fO]
  refine mO 14 (by kernel_rfl) rfl λK hK=>?_
  go_simp;refine(aL.out _ aa).mono ?_;rintro e w8 ⟨rfl,rfl⟩;refine hK.out _ _ (λ_=>⟨fu aa n36,fu aa bS⟩) (λhH2=>?_);clear hK K;replace hH:=hH2 (by kernel_rfl);clear hH2;try simp only[Act.put,fK,fP,fO]
  refine mO 15 (by kernel_rfl) rfl λK hK=>?_
  go_simp;refine(dF.out _ aa).mono ?_;rintro e w9 ⟨rfl,R9,aZ,bz⟩;have HD:=eZ (HQ.out w9 R9 _ aa aZ bz);clear aZ bz aa;refine hK.out _ _ (kC (by kernel_rfl)) (λ_=>?_);clear hK K;try simp only[Act.put,fK,fP,fO]
  refine gH (by kernel_rfl) ?_ _;try go_end0
  exact HD.out
end
section
open Go.RowKit
open Sq
open Ar
theorem fV.Q8{w0 w:World}{rb:Nat}{c:Ctx}{q:Pr.QS}{lv:Value}{R:Nat->Prop}(hS:fV w0 w rb c q lv R):w.ownsRow w0.heap.size 91 5 lv q.st.reverse.length (pg.all q.st.reverse)/\w.cell? ⟨rb,8,none⟩=some lv/\(∀o,w.frozen? ⟨rb,o,none⟩=false)/\w0.heap.size<=w.heap.size:=by
 obtain⟨nv,dv,L,hM,hL,hTr,rfl⟩:=hS;exact⟨hM.levels,Yy hM.box,hM.free,hM.size⟩
theorem fV.Ue{w0 w wq w6:World}{rb:Nat}{c:Ctx}{q:Pr.QS}{lv v6:Value}{R:Nat->Prop}{be:Nat}{CB:Array Value}{T:TypeId}{fr:Nat×Nat}(hS:fV w0 w rb c q lv R)(x:Pr.Lv)(kb:w.heap[be]?=some (.cells CB T fr))(hT:91≠T)(hq:Below w.heap.size w wq)(hg:wq.grownBy w6 lv.ownBlock)(hown:w6.ownsRow w0.heap.size 91 5 v6 (q.st.reverse++[x]).length (pg.all (q.st.reverse++[x])))
 (hat:v6.ownBlock=lv.ownBlock\/v6.ownBlock=some wq.heap.size):
 (w6.cell? ⟨rb,8,none⟩=some lv/\w6.frozen? ⟨rb,8,none⟩=false/\w6.heap[be]?=some (.cells CB T fr))/\∃R',fV w0 (w6.setCell ⟨rb,8,none⟩ v6) rb c {q with st:=x::q.st} v6 R'/\FP w (w6.setCell ⟨rb,8,none⟩ v6) rb R R':=by
 obtain⟨nv,dv,L,hM,hL,hTr,rfl⟩:=hS;have hoff:lv.ownBlock≠some be:=fF hM.levels kb hT;have hlt:be<w.heap.size:=il kb
 obtain⟨hb,aa,ae⟩:=hM.Q8 hq hg hown hat;refine⟨⟨Yy hb,nH hb 8,?_⟩,_,⟨nv,dv,L,?_,hL,hTr,rfl⟩,ae⟩
 ·exact((hg.block be (wC hlt hq.size) (λe=>hoff e.symm)).trans (hq.block be hlt)).trans kb
 show PM _ _ _ _ _ _ _ _ _ _ _ (x::q.st).reverse;rw[Hr];exact aa
theorem Mh(w0 w:World)(rb:Nat)(c:Ctx)(q:Pr.QS)(lv:Value)(R:Nat->Prop)(h:Pr.Lv)(tl:List Pr.Lv)(kd:Nat)(e:Rw.E)(hS:fV w0 w rb c q lv R)(hst:q.st=h::tl)(aB:h.cur<q.s.t.length)(hn:q.s.t.length<=800000000000)(htl:tl.length<=1000000):
 Calls prog 103 #[RP rb,.int .i64 kd,Di e] w (qM w0 w rb c R (.tuple #[]) {q with s:=⟨Pr.add q.s.t h.cur kd e.from' e.bu,q.s.d⟩,st:=⟨kd,q.s.t.length,e.fG,0,false⟩::{h with full:=true}::tl}):=by
 obtain⟨ed,aa,F,T⟩:=e;dsimp only;obtain⟨wb,hwb⟩:=fq (w.alloc (.cells #[.bool ed,.int .i64 aa,.int .i64 (F:Int),.int .i64 (T:Int)] 97));obtain⟨be,hbe⟩:=fq (w.heap.size);have hbw:Below w.heap.size w wb:=hwb▸fo w _;have kb:wb.heap[be]?=some (.cells #[.bool ed,.int .i64 aa,.int .i64 (F:Int),.int .i64 (T:Int)] 97 (0,0)):=by rw[<-hwb,<-hbe];exact j5 _ _
 have aI:FP w wb rb R R:=FP.below hbw;obtain⟨gl,cap,rfl,hfz,hcl,c8,-⟩:=hS.top hst;have hIn:=vO wb rb gl tl.length cap (fu hbw c8) htl;obtain⟨m,hm⟩:=fq (tl.length);have bE:=eZ hm;obtain⟨h',hh'⟩:∃h',({h with full:=true}:Pr.Lv)=h':=⟨_,rfl⟩
 have ag:=λW (hW:Below w.heap.size w W)=>fV.DI (hS.below hW) hst 4 (.bool true) h' (by rw[<-hh'];rfl) (by decide)
 obtain⟨q1,hq1⟩:∃q1:Pr.QS,{q with st:=h'::tl}=q1:=⟨_,rfl⟩
 rw[hq1]at ag;have ah:q1.st=h'::tl:=by rw[<-hq1]
 have hs1:q1.s=q.s:=by rw[<-hq1]
 have ak:h'.cur=h.cur:=by rw[<-hh']
 have hA:=λW R' (hW:fV w0 W rb c q1 (.slice (some ⟨gl,0,none⟩) (tl.length+1) cap) R')=>Nh w0 W rb c q1 _ R' h.cur kd F T hW (by rw[hs1];exact aB) (by rw[hs1];omega)
 obtain⟨N,hN⟩:=fq (q.s.t.length);rw[hs1,hN]at hA;rw[hN]at hn aB;obtain⟨CU,aj⟩:=fq (h.cur);rw[aj]at hA aB;have af:∀W,Below w.heap.size w W->∀j u,(nz h)[j]?=some u->W.cell? ⟨gl,m*5+j,none⟩=some u:=λW hW j u hu=>by rw[<-hm];exact fu hW (hcl j u hu)
 have hgl:=(hS.rows (by have:=hS.top hst;obtain⟨bR,cap',hv,-,-,-,hr⟩:=this;have e:=(ll hv).1;injection e with e;injection e with e;rw[e];exact hr:R gl)).2.1;obtain⟨lv,hlv⟩:=fq ((Value.slice (some ⟨gl,0,none⟩) (tl.length+1) cap));obtain⟨QQ,aC⟩:∃Q,qM w0 w rb c R (.tuple #[]) {q with s:=⟨Pr.add q.s.t h.cur kd F T,q.s.d⟩,st:=⟨kd,q.s.t.length,aa,0,false⟩::{h with full:=true}::tl}=Q:=⟨_,rfl⟩
 rw[aC];have aJ:∀W lv' R',fV w0 W rb c {({q1 with s:=⟨Pr.add q.s.t CU kd F T,q.s.d⟩}:Pr.QS)with st:=⟨kd,N,aa,0,false⟩::({q1 with s:=⟨Pr.add q.s.t CU kd F T,q.s.d⟩}:Pr.QS).st} lv' R'->FP w W rb R R'->QQ (.returned (.tuple #[])) W:=λW lv' R' hS' hF'=>by
  rw[<-aC];refine⟨rfl,lv',R',?_,hF'⟩;rw[<-hq1,<-hh',<-aj,<-hN]at hS';exact hS'
 rw[hlv]at hA ag;have av:∀W,Below w.heap.size w W->∀o,W.frozen? ⟨gl,o,none⟩=false:=λW hW o=>by rw[hW.frozen (p:=⟨gl,o,none⟩) hgl];exact hfz o
 obtain⟨aK,aL⟩:=fT hwb hbe;rw[hm]at hIn;obtain⟨aM,aN,aO,HS⟩:=oN hIn kb hbw hS;rw[hm]at ag;obtain⟨aP,HA,aQ,aR,bF,bG⟩:=kJ ag hA af aI ah hlv;obtain⟨aS,aT,bH⟩:=jF (ak.trans aj) av aJ;have aU:=eZ (show q1.st.reverse.length=m+1 by rw[ah,Db,jh,hm]);have ax:=eZ (show m<=1000000 by omega);clear hwb hbe hbw kb aI hfz hcl c8 hIn hm ag ah hA af aC ak aj hq1 hh' hS hst hs1 hN htl aJ hlv av hgl
 go_enter func103,ntmps103
 go_upto_region 1 with fail
 rw[aK.out,aL.out];clear aK aL;go_wp2_with fail
 refine aM.out.mono ?_;rintro e w1 ⟨rfl,n1,rfl⟩;have hb1:Below w.heap.size w (wb.drewN n1):=ji aO.out n1;have aD:(wb.drewN n1).heap[be]?=_:=aN.out;obtain⟨w1,hw1⟩:=fq (wb.drewN n1);rw[hw1]at hb1 aD⊢;obtain⟨hS2,hF2⟩:=aP.out w1 hb1;have c4:=aQ.out w1 hb1 4 _ rfl;have f4:=aT.out w1 hb1 (m*5+4);have ai:=(HS.out.below hb1).boxed hF2 aD (by decide) (by decide) (by decide) (by decide) (by decide);obtain⟨w2,hw2⟩:=fq (w1.setCell ⟨gl,m*5+4,none⟩ (.bool true));rw[hw2]at hS2 hF2 ai;have b2:w2.cell? ⟨be,2,none⟩=some (.int .i64 (F:Int)):=(gG ai 2).trans rfl;have b3:w2.cell? ⟨be,3,none⟩=some (.int .i64 (T:Int)):=(gG ai 3).trans rfl;obtain⟨bI,cap2,hlv2,-,ay,-,-⟩:=hS2.top bF.out;have e2:gl=bI:=by rw[<-bG.out]at hlv2;have e:=(ll hlv2).1;injection e with e;injection e with e
 subst e2;have aF:=ay 3 _ rfl;rw[bE.out,aS.out]at aF;have n3:w2.cell? ⟨gl,m*5+3,none⟩=some (.int .i64 (CU:Int)):=aF;have az:=eZ ai;have bJ:=eZ (aR.out.trans ((FP.below (by rw[<-hw1];exact ji (fI _ wb) _)).trans hF2));obtain⟨HW2,HS2⟩:=fT hw2 hS2;have HA2:=eZ (λW (hW:Below w2.heap.size w2 W)=>HA.out W R (HS2.out.below hW));clear hw1 hb1 aD hS2 hF2 ai hw2 hlv2 ay aF aM aN aO HS aP aQ aR aT HA;go_upto_region 3 with fail
 rw[HW2.out];clear HW2 c4 f4;refine gK (λwx=>wx.cell? ⟨gl,m*5+3,none⟩=some (.int .i64 (CU:Int))/\wx.cell? ⟨be,2,none⟩=some (.int .i64 (F:Int))/\wx.cell? ⟨be,3,none⟩=some (.int .i64 (T:Int))) 10 (by kernel_rfl) ?_;have hH:(λwx:World=>wx.cell? ⟨gl,m*5+3,none⟩=some (.int .i64 (CU:Int))/\wx.cell? ⟨be,2,none⟩=some (.int .i64 (F:Int))/\wx.cell? ⟨be,3,none⟩=some (.int .i64 (T:Int))) w2.drew:=⟨fE n3,fE b2,fE b3⟩
 refine ik 0 (.pointer (some ⟨rb,0,none⟩)) rfl (by kernel_rfl) rfl fC (λW hW=>by go_simp) hH ?_;refine iD 1 (.pointer (some ⟨gl,m*5,none⟩)) rfl (by kernel_rfl) rfl fC (λW=>by go_simp) (λ_=>hH) ?_;refine iD 2 (.pointer (some ⟨gl,m*5,none⟩)) rfl (by kernel_rfl) rfl fC (λW=>by go_simp) (λ_=>hH) ?_;refine iD 3 (.pointer (some ⟨gl,m*5+3,none⟩)) rfl (by kernel_rfl) rfl fC (λW=>by go_simp) (λ_=>hH) ?_;refine ik 4 (.int .i64 (CU:Int)) rfl (by kernel_rfl) rfl fC (λW hW=>?_) hH ?_
 ·obtain⟨z0,z1,z2⟩:=hW;go_simp
 refine ik 5 (.int .i64 (kd:Int)) rfl (by kernel_rfl) rfl fC (λW hW=>by go_simp) hH ?_;refine iD 6 (.pointer (some ⟨be,2,none⟩)) rfl (by kernel_rfl) rfl fC (λW=>by go_simp) (λ_=>hH) ?_;refine ik 7 (.int .i64 (F:Int)) rfl (by kernel_rfl) rfl fC (λW hW=>?_) hH ?_
 ·obtain⟨z0,z1,z2⟩:=hW;go_simp
 refine iD 8 (.pointer (some ⟨be,3,none⟩)) rfl (by kernel_rfl) rfl fC (λW=>by go_simp) (λ_=>hH) ?_;refine ik 9 (.int .i64 (T:Int)) rfl (by kernel_rfl) rfl fC (λW hW=>?_) hH ?_
 ·obtain⟨z0,z1,z2⟩:=hW;go_simp
 refine mO 10 (by kernel_rfl) rfl λK hK=>?_
 go_simp;refine(HA2.out _ (fI _ w2).drew).mono ?_;rintro e w3 ⟨rfl,R3,aV,aW⟩;obtain⟨aX,aY⟩:=fT aV aW;clear aV aW b2 b3 n3;refine hK.out _ _ (kC (by kernel_rfl)) (λ_=>?_);clear hK K;try simp only[Act.put,fK,fP,fO]
 refine iD 11 (.int .i64 (N:Int)) rfl (by kernel_rfl) rfl fC (λW=>by go_simp) (kC (by kernel_rfl)) ?_;refine gH (by kernel_rfl) ?_ _;go_upto_region 4 with fail
 have aG:=HS2.out.boxed ((FP.below (fI _ w2).drew).trans aY.out) az.out (by decide) (by decide) (by decide) (by decide) (by decide);have b1:w3.cell? ⟨be,1,none⟩=some (.int .i64 aa):=(gG aG 1).trans rfl;obtain⟨hown,c8,-,hsz⟩:=aX.out.Q8;obtain⟨oL,aH⟩:=fq (Obj.cells #[.int .i64 (kd:Int),.int .i64 (N:Int),.int .i64 aa,.int .i64 0,.bool false] 91);obtain⟨wx,hwx⟩:=fq ((w3.alloc oL).drew);have hbx:Below w3.heap.size w3 wx:=by rw[<-hwx];exact(fo w3 _).drew
 have aZ:=eZ (show wx.ownsRow w0.heap.size 91 pg.k lv q1.st.reverse.length (pg.all q1.st.reverse)from fQ hown hbx)
 have bf:=eZ (show∀jj x,(pg.all [(⟨kd,N,aa,0,false⟩:Pr.Lv)])[jj]?=some x->wx.cell? ⟨w3.heap.size,jj,none⟩=some x by
  intro jj x hj;rw[<-hwx,<-aH];show(w3.alloc _).cell? ⟨w3.heap.size,jj,none⟩=_;rw[vH]
  simpa [mr.all,pg,nz]using hj)
 have bK:=eZ (show q1.st.reverse.length+1<=maxLen by have:=aU.out;have:=ax.out;simp only[maxLen];omega);have bL:=eZ (show(q1.st.reverse.length+1)*40<=140737488355328 by have:=aU.out;have:=ax.out;omega);have bg:w0.heap.size<=wx.heap.size:=jU hsz hbx.size;have bM:=fu hbx c8;have bN:=fu hbx b1;obtain⟨bO,bn⟩:=fT hbx aG;have bP:=eZ (show(w3.alloc (.cells #[.int .i64 (kd:Int),.int .i64 (N:Int),.int .i64 aa,.int .i64 0,.bool false] 91)).drew=wx by rw[aH];exact hwx);clear hwx aH hbx aG hown hsz az HS2;refine gK (λwx=>wx.cell? ⟨rb,8,none⟩=some lv/\wx.cell? ⟨be,1,none⟩=some (.int .i64 aa)) 14 (by kernel_rfl) ?_;have hH:(λwx:World=>wx.cell? ⟨rb,8,none⟩=some lv/\wx.cell? ⟨be,1,none⟩=some (.int .i64 aa)) w3.drew:=⟨fE c8,fE b1⟩
 refine ik 0 (.pointer (some ⟨rb,0,none⟩)) rfl (by kernel_rfl) rfl fC (λW hW=>by go_simp) hH ?_;refine ik 1 (.pointer (some ⟨rb,0,none⟩)) rfl (by kernel_rfl) rfl fC (λW hW=>by go_simp) hH ?_;refine ik 2 (.pointer (some ⟨rb,0,none⟩)) rfl (by kernel_rfl) rfl fC (λW hW=>by go_simp) hH ?_;refine ik 3 (.pointer (some ⟨rb,8,none⟩)) rfl (by kernel_rfl) rfl fC (λW hW=>by go_simp) hH ?_;refine ik 4 lv rfl (by kernel_rfl) rfl fC (λW hW=>?_) hH ?_
 ·obtain⟨z0,z1⟩:=hW;go_simp
 refine ik 5 (.int .i64 (kd:Int)) rfl (by kernel_rfl) rfl fC (λW hW=>by go_simp) hH ?_;refine ik 6 (.int .i64 (N:Int)) rfl (by kernel_rfl) rfl fC (λW hW=>by go_simp) hH ?_;refine ik 7 (.pointer (some ⟨be,1,none⟩)) rfl (by kernel_rfl) rfl fC (λW hW=>by go_simp) hH ?_;refine ik 8 (.int .i64 aa) rfl (by kernel_rfl) rfl fC (λW hW=>?_) hH ?_
 ·obtain⟨z0,z1⟩:=hW;go_simp
 refine ik 9 (.agg #[.int .i64 (kd:Int),.int .i64 (N:Int),.int .i64 aa,.int .i64 0,.bool false]) rfl (by kernel_rfl) rfl fC (λW hW=>by go_simp) hH ?_;refine mO 10 (by kernel_rfl) rfl λK hK=>?_
 go_simp;rw[bP.out];refine hK.out _ _ (λ_=>⟨bM,bN⟩) (λhH2=>?_);clear hK K;replace hH:=hH2 (by kernel_rfl);clear hH2;try simp only[Act.put,fK,fP,fO]
 refine mO 11 (by kernel_rfl) rfl λK hK=>?_
 refine nL Zf rfl (.tmp 28) (.tmp 34) rfl w0.heap.size lv q1.st.reverse rfl aZ.out w3.heap.size 1 [(⟨kd,N,aa,0,false⟩:Pr.Lv)] rfl rfl bf.out bK.out bL.out bg ?_;intro v8 w8 ae bq aA;obtain⟨a8,k8,bz⟩:=(Reads.fJ (E:=pg) ae).shape;obtain⟨n8,bA⟩:=fq ((q1.st.reverse++[(⟨kd,N,aa,0,false⟩:Pr.Lv)]).length);rw[bA]at bz;clear bA;subst bz;obtain⟨⟨bQ,f88,bB⟩,R8,bC,bD⟩:=aX.out.Ue ⟨kd,N,aa,0,false⟩ bn.out (by decide) bO.out bq ae aA;have b18:w8.cell? ⟨be,1,none⟩=some (.int .i64 aa):=(gG bB 1).trans rfl;have HD:=eZ (bH.out _ _ R8 bC (bJ.out.trans ((FP.below (fI _ w2).drew).trans (aY.out.trans bD))));clear ae bq aA bB bC bD;refine hK.out _ _ (λ_=>⟨bQ,b18⟩) (λhH2=>?_);clear hK K;replace hH:=hH2 (by kernel_rfl);clear hH2;try simp only[Act.put,fK,fP,fO]
 refine iD 12 (.pointer (some ⟨rb,0,none⟩)) rfl (by kernel_rfl) rfl fC (λW=>by go_simp) (λ_=>hH) ?_;refine ik 13 (.pointer (some ⟨rb,8,none⟩)) rfl (by kernel_rfl) rfl fC (λW hW=>by go_simp) hH ?_;refine mO 14 (by kernel_rfl) rfl λK hK=>?_
 go_simp;refine hK.out _ _ (kC (by kernel_rfl)) (λ_=>?_);clear hK K;try simp only[Act.put,fK,fP,fO]
 refine gH (by kernel_rfl) ?_ _;go_wp2_with fail
 try go_end0
 exact HD.out
end
section
open Go.RowKit
open Sq
open Ar
def vE(st:List Pr.Lv):Prop:=∃pre D,st=pre++[D]/\D.fG=-1
theorem vE.last{st pre:List Pr.Lv}{h:Pr.Lv}(hb:vE st)(e:st=pre++[h]):h.fG=-1:=by
 obtain⟨p2,D,e2,hc⟩:=hb;have:=List.append_inj_right' (e.symm.trans e2) rfl;injection this with e3 _
 rw[e3];exact hc
section
variable {w0 w:World}{rb:Nat}{c:Ctx}{q:Pr.QS}{lv:Value}{R:Nat->Prop}{h:Pr.Lv}{r pre:List Pr.Lv}
theorem fV.Ff{gl n cap:Nat}(hS:fV w0 w rb c q (.slice (some ⟨gl,0,none⟩) n cap) R)(hst:q.st=pre++h::r):∀j u,(nz h)[j]?=some u->w.cell? ⟨gl,r.length*5+j,none⟩=some u:=λj u hu=>by
 have hl:=hS.Q8.1;have hj:j<5:=(gD.1 hu).1
 have hh:q.st.reverse[r.length]?=some h:=by
  rw[hst,XF,Hr,nQ,oM (by simp),Db,uC];rfl
 have:=hl.cells (g:=gl) rfl _ _ ((iO pg _ r.length h hh j hj).trans hu);rw[gQ,kU]at this;exact this
theorem fV.WM{gl n cap:Nat}(hS:fV w0 w rb c q (.slice (some ⟨gl,0,none⟩) n cap) R)(hst:q.st=pre++h::r):
 ∃R',fV w0 (w.setCell ⟨rb,8,none⟩ (.slice (some ⟨gl,0,none⟩) (r.length+1) cap)) rb c {q with st:=h::r} (.slice (some ⟨gl,0,none⟩) (r.length+1) cap) R'/\FP w (w.setCell ⟨rb,8,none⟩ (.slice (some ⟨gl,0,none⟩) (r.length+1) cap)) rb R R':=by
 obtain⟨nv,dv,L,hM,hL,hTr,rfl⟩:=hS;have hlen:r.length+1<=q.st.reverse.length:=by rw[hst,Db,iJ,jh];omega
 have htk:q.st.reverse.take (r.length+1)=(h::r).reverse:=by
  rw[hst,XF,List.take_left' (by simp)]
 have hown:=Bi (E:=pg) hM.levels hlen;rw[htk]at hown;refine⟨_,⟨nv,dv,L,PM.toCell (C:=jN c nv dv (.slice (some ⟨gl,0,none⟩) n cap) q.row q.en) hM.lu hM.ctx hM.low hM.box rfl hM.nodes hM.told hown,hL,hTr,rfl⟩,?_,λk h1 h2 h3=>jf _ _ _ _ h2,λk hk=>?_⟩
 ·have:(w.setCell ⟨rb,8,none⟩ (.slice (some ⟨gl,0,none⟩) (r.length+1) cap)).heap.size=w.heap.size:=by simp
  omega
 rcases hk with hk|hk|hk|hk
 ·exact .inl (.inl hk)
 ·exact .inl (.inr (.inl hk))
 ·exact .inl (.inr (.inr (.inl hk)))
 exact .inl (.inr (.inr (.inr hk)))
end
def uQ(k:Nat):Int:=if k=0 then -1 else(k:Int)
def Ny(rb:Nat)(e:Rw.E)(be kd m:Nat)(a:Act):Prop:=a.defers=[]/\a.tmps.size=113/\a.tmps.getD 0 undef=RP rb/\a.tmps.getD 1 undef=Di e/\a.tmps.getD 2 undef=undef/\a.tmps.getD 3 undef=.pointer (some ⟨be,0,none⟩)/\a.tmps.getD 4 undef=.int .i64 0/\a.tmps.getD 5 undef=.int .i64 kd/\a.tmps.getD 6 undef=.int .i64 m
theorem Ny.is{rb:Nat}{e:Rw.E}{be kd m:Nat}{a:Act}(hl:Ny rb e be kd m a):∃u:Nat->Value,a={tmps:=#[RP rb,Di e,undef,.pointer (some ⟨be,0,none⟩),.int .i64 0,.int .i64 kd,.int .i64 m,u 7,u 8,u 9,u 10,u 11,u 12,u 13,u 14,u 15,u 16,u 17,u 18,u 19,u 20,u 21,u 22,u 23,u 24,u 25,u 26,u 27,u 28,u 29,u 30,u 31,u 32,u 33,u 34,u 35,u 36,u 37,u 38,u 39,u 40,u 41,u 42,u 43,u 44,u 45,u 46,u 47,u 48,u 49,u 50,u 51,u 52,u 53,u 54,u 55,u 56,u 57,u 58,u 59,u 60,u 61,u 62,u 63,u 64,u 65,u 66,u 67,u 68,u 69,u 70,u 71,u 72,u 73,u 74,u 75,u 76,u 77,u 78,u 79,u 80,u 81,u 82,u 83,u 84,u 85,u 86,u 87,u 88,u 89,u 90,u 91,u 92,u 93,u 94,u 95,u 96,u 97,u 98,u 99,u 100,u 101,u 102,u 103,u 104,u 105,u 106,u 107,u 108,u 109,u 110,u 111,u 112],defers:=[]}:=by
 obtain⟨t,df⟩:=a;obtain⟨h1,h2,g0,g1,g2,g3,g4,g5,g6⟩:=hl;dsimp only at h1 h2 g0 g1 g2 g3 g4 g5 g6;subst h1;refine⟨λk=>t.getD k undef,?_⟩;have h3:=zm t 113 h2;have h4:(List.range 113).map (λk=>t.getD k undef)=[t.getD 0 undef,t.getD 1 undef,t.getD 2 undef,t.getD 3 undef,t.getD 4 undef,t.getD 5 undef,t.getD 6 undef,t.getD 7 undef,t.getD 8 undef,t.getD 9 undef,t.getD 10 undef,t.getD 11 undef,t.getD 12 undef,t.getD 13 undef,t.getD 14 undef,t.getD 15 undef,t.getD 16 undef,t.getD 17 undef,t.getD 18 undef,t.getD 19 undef,t.getD 20 undef,t.getD 21 undef,t.getD 22 undef,t.getD 23 undef,t.getD 24 undef,t.getD 25 undef,t.getD 26 undef,t.getD 27 undef,t.getD 28 undef,t.getD 29 undef,t.getD 30 undef,t.getD 31 undef,t.getD 32 undef,t.getD 33 undef,t.getD 34 undef,t.getD 35 undef,t.getD 36 undef,t.getD 37 undef,t.getD 38 undef,t.getD 39 undef,t.getD 40 undef,t.getD 41 undef,t.getD 42 undef,t.getD 43 undef,t.getD 44 undef,t.getD 45 undef,t.getD 46 undef,t.getD 47 undef,t.getD 48 undef,t.getD 49 undef,t.getD 50 undef,t.getD 51 undef,t.getD 52 undef,t.getD 53 undef,t.getD 54 undef,t.getD 55 undef,t.getD 56 undef,t.getD 57 undef,t.getD 58 undef,t.getD 59 undef,t.getD 60 undef,t.getD 61 undef,t.getD 62 undef,t.getD 63 undef,t.getD 64 undef,t.getD 65 undef,t.getD 66 undef,t.getD 67 undef,t.getD 68 undef,t.getD 69 undef,t.getD 70 undef,t.getD 71 undef,t.getD 72 undef,t.getD 73 undef,t.getD 74 undef,t.getD 75 undef,t.getD 76 undef,t.getD 77 undef,t.getD 78 undef,t.getD 79 undef,t.getD 80 undef,t.getD 81 undef,t.getD 82 undef,t.getD 83 undef,t.getD 84 undef,t.getD 85 undef,t.getD 86 undef,t.getD 87 undef,t.getD 88 undef,t.getD 89 undef,t.getD 90 undef,t.getD 91 undef,t.getD 92 undef,t.getD 93 undef,t.getD 94 undef,t.getD 95 undef,t.getD 96 undef,t.getD 97 undef,t.getD 98 undef,t.getD 99 undef,t.getD 100 undef,t.getD 101 undef,t.getD 102 undef,t.getD 103 undef,t.getD 104 undef,t.getD 105 undef,t.getD 106 undef,t.getD 107 undef,t.getD 108 undef,t.getD 109 undef,t.getD 110 undef,t.getD 111 undef,t.getD 112 undef]:=rfl;rw[h4,g0,g1,g2,g3,g4,g5,g6]at h3;exact congrArg (λt=>({tmps:=t,defers:=[]}:Act)) h3
theorem WN(w0 w:World)(rb:Nat)(c:Ctx)(q:Pr.QS)(lv:Value)(R:Nat->Prop)(e:Rw.E)(hS:fV w0 w rb c q lv R)(hok:Pr.nZ q)(aH:vE q.st)(h0:0<=e.fG)(h1:e.from'<e.bu)(h2:e.bu<=c.l.length)(hcn:Fl.cnt (Fl.raw c.l e.from')=true)(hn:q.s.t.length<=700000000000)(hsl:q.st.length<=1000000)(hd:c.depth<=1000000):
 Calls prog 65 #[RP rb,Di e] w (qM w0 w rb c R (.int .i64 (uQ (Pr.place c.l c.depth q e).1)) (Pr.place c.l c.depth q e).2):=by
 obtain⟨ed,ec,F,T⟩:=e;dsimp only at h0 h1 h2 hcn;obtain⟨e,he⟩:∃e:Rw.E,(⟨ed,ec,F,T⟩:Rw.E)=e:=⟨_,rfl⟩
 rw[he];have bf:e.fG=ec:=by rw[<-he]
 have aD:(.agg #[.bool ed,.int .i64 ec,.int .i64 (F:Int),.int .i64 (T:Int)]:Value)=Di e:=by rw[<-he]
 obtain⟨K,hK⟩:=fq (Pr.mX c.depth q.st.length e q.st);unfold Pr.place;rw[hK];obtain⟨Q,hQ⟩:=fq (qM w0 w rb c R (.int .i64 (uQ (Pr.act c.l q e K).1)) (Pr.act c.l q e K).2);rw[hQ];obtain⟨wb,hwb⟩:=fq (w.alloc (.cells #[.bool ed,.int .i64 ec,.int .i64 (F:Int),.int .i64 (T:Int)] 97));obtain⟨be,hbe⟩:=fq (w.heap.size);have hbw:Below w.heap.size w wb:=hwb▸fo w _;have kb:wb.heap[be]?=some (.cells #[.bool ed,.int .i64 ec,.int .i64 (F:Int),.int .i64 (T:Int)] 97 (0,0)):=by rw[<-hwb,<-hbe];exact j5 _ _
 obtain⟨hd0,ay,ak⟩:∃hd0 ay,q.st=hd0::ay:=by
  obtain⟨pre,D,e1,_⟩:=aH;cases pre with
  |nil=>exact⟨_,_,e1⟩
  |cons x y=>exact⟨_,_,e1⟩
 obtain⟨gl,cap,rfl,-,-,-,-⟩:=hS.top ak;obtain⟨m0,hm0⟩:=fq (ay.length);rw[hm0]at hS;have hsl0:q.st.length=m0+1:=by rw[ak,jh,hm0]
 have hcp:m0+1<=cap/\cap<=9223372036854775807:=by
  have:=rY hS.Q8.1;have h3:=this.2.2;simp only[maxLen]at h3;omega
 have bg:=λW (hW:Below w.heap.size w W)=>(hS.below hW).Q8
 have bn:=λW (hW:Below w.heap.size w W) pre h r (e:q.st=pre++h::r)=>(hS.below hW).Ff e
 obtain⟨D,hD⟩:=fq (c.depth);have bq:∀W,Below w.heap.size w W->W.cell? ⟨rb,3,none⟩=some (.int .i64 (D:Int)):=λW hW=>by
  obtain⟨nv,dv,L,h1,h2⟩:=hS.below hW;rw[<-hD];exact Xp h1.box
 have bE:=eZ bq;have bF:=eZ (λW (hW:Below w.heap.size w W)=>hS.below hW);have aF:∀W h r pre,Below w.heap.size w W->q.st=pre++h::r->K=(0,h::r)->∃R1,Below w0.heap.size w0 W/\fV w0 (W.setCell ⟨rb,8,none⟩ (.slice (some ⟨gl,0,none⟩) (r.length+1) cap)) rb c {q with st:=h::r} (.slice (some ⟨gl,0,none⟩) (r.length+1) cap) R1/\FP W (W.setCell ⟨rb,8,none⟩ (.slice (some ⟨gl,0,none⟩) (r.length+1) cap)) rb R R1/\
  ∀W2,Below (W.setCell ⟨rb,8,none⟩ (.slice (some ⟨gl,0,none⟩) (r.length+1) cap)).heap.size (W.setCell ⟨rb,8,none⟩ (.slice (some ⟨gl,0,none⟩) (r.length+1) cap)) W2->Calls prog 102 #[RP rb,.agg #[.bool ed,.int .i64 ec,.int .i64 (F:Int),.int .i64 (T:Int)]] W2 λe' w'=>e'=.returned (.tuple #[])/\Q (.returned (.int .i64 (-1))) w':=λW h r pre hW hst hk=>by
  obtain⟨R1,hS1,hF1⟩:=(hS.below hW).WM hst;refine⟨R1,(hS.below hW).lu,hS1,hF1,λW2 hW2=>?_⟩;have hln:r.length<=1000000:=by
   have:=congrArg List.length hst;rw[iJ,jh]at this;omega
  rw[aD];refine(Km w0 W2 rb c {q with st:=h::r} _ R1 h r e (hS1.below hW2) rfl (hok.lv h (by rw[hst];simp)).1 (by rw[<-he];exact h1) (by rw[<-he];exact h2) (by rw[<-he];exact hcn) (by show q.s.t.length<=_;omega) hln).mono ?_;rintro e' w' ⟨rfl,R2,hS2,hF2⟩;refine⟨rfl,?_⟩;rw[<-hQ,hk];exact⟨rfl,_,R2,hS2,(FP.below hW).trans (hF1.trans ((FP.below hW2).trans hF2))⟩
 have aT:∀W code,Below w.heap.size w W->K=(code+2,[])->Q (.returned (.int .i64 ((code+2:Nat):Int))) W:=λW code hW hk=>by
  rw[<-hQ,hk];refine⟨?_,_,R,hS.below hW,FP.below hW⟩;unfold uQ;rw[eX (by show¬code+2=0;omega)];rfl
 have aI:∀W,Below w.heap.size w W->K=(1,[])->Calls prog 103 #[RP rb,.int .i64 (Ps.kindOf e:Nat),.agg #[.bool ed,.int .i64 ec,.int .i64 (F:Int),.int .i64 (T:Int)]] W λe1 w1=>e1=.returned (.tuple #[])/\(∀(k:Nat)(C:Array Value)(T:TypeId)(fr:Nat×Nat),W.heap[k]?=some (.cells C T fr)->3≠T->38≠T->40≠T->91≠T->58≠T->w1.heap[k]?=some (.cells C T fr))/\
  Calls prog 102 #[RP rb,.agg #[.bool ed,.int .i64 ec,.int .i64 (F:Int),.int .i64 (T:Int)]] w1 λe' w'=>e'=.returned (.tuple #[])/\Q (.returned (.int .i64 (-1))) w':=λW hW hk=>by
  have hS':=hS.below hW;have hl0:=hok.lv hd0 (by rw[ak];simp);rw[aD];refine(Mh w0 W rb c q _ R hd0 ay (Ps.kindOf e) e hS' ak hl0.2 (by omega) (by omega)).mono ?_;rintro e1 w1 ⟨rfl,bG,R1,hS1,hF1⟩;refine⟨rfl,λk C T fr hk2 t1 t2 t3 t4 t5=>hS'.boxed hF1 hk2 t5 t1 t2 t3 t4,?_⟩;refine(Km w0 w1 rb c _ bG R1 _ _ e hS1 rfl (by show q.s.t.length<(Pr.add _ _ _ _ _).length;rw[Pr.kZ];omega) (by rw[<-he];exact h1) (by rw[<-he];exact h2) (by rw[<-he];exact hcn) (by show(Pr.add _ _ _ _ _).length<=_;rw[Pr.kZ];omega) (by rw[jh];omega)).mono ?_;rintro e' w' ⟨rfl,R2,hS2,hF2⟩;refine⟨rfl,?_⟩;rw[<-hQ,hk];have ha:Pr.act c.l q e (1,[])=(0,Pr.fresh c.l q e hd0 ay):=by
   show(match q.st with|h::r=>(0,Pr.fresh c.l q e h r)|[]=>(0,q))=_;rw[ak]
  rw[ha];exact⟨rfl,_,R2,hS2,(FP.below hW).trans (hF1.trans hF2)⟩
 have hkd:∀W,Calls prog 101 #[.agg #[.bool ed,.int .i64 ec,.int .i64 (F:Int),.int .i64 (T:Int)]] W λr w'=>r=.returned (.int .i64 (Ps.kindOf e:Nat))/\Below W.heap.size W w':=λW=>by rw[aD];exact Uc W e
 obtain⟨kd,hkk⟩:=fq (Ps.kindOf e);rw[hkk]at hkd aI;rw[hD]at hd hK;obtain⟨ag,aa,af,ah,aA,aV⟩:=kJ aF aT aI bg bn hwb;obtain⟨bz,aJ,aW,bA,bH⟩:=sP hbe kb hbw aH hK;have aU:=eZ (show q.st=[]++hd0::ay from ak);obtain⟨bI,aX,bB,bJ,bK⟩:=sP hm0 hsl0 hkd hkk bf;have bL:=eZ (show Di e=Di ⟨ed,ec,F,T⟩by rw[he]);have bM:=eZ hcp;have bP:m0<=1000000:=by omega
 clear aF aT aI bg bn hwb hbe kb hbw aH hK ak hm0 hsl0 hkd hkk hQ hS hok h1 h2 hcn hn bq hsl hD aD he bf hcp;rw[bL.out]
 go_enter func65,ntmps65
 go_wp2;refine qG 0 (λa' W=>∃(h:Pr.Lv)(r pre:List Pr.Lv),Ny rb ⟨ed,ec,F,T⟩ be kd r.length a'/\Hid (Below w.heap.size w W/\W.heap[be]?=some (.cells #[.bool ed,.int .i64 ec,.int .i64 (F:Int),.int .i64 (T:Int)] 97 (0,0))/\q.st=pre++h::r/\Pr.mX D q.st.length e (h::r)=K)) (λa' _=>(intOf (a'.tmps.getD 6 undef)).toNat) rfl ?_ ?_
 ·rintro a' W ⟨h,r,pre,hlive,HJ⟩;obtain⟨u,rfl⟩:=hlive.is;clear hlive bB aW aJ aV bz;obtain⟨hW,av,hst,hsk⟩:=HJ.out;have cl:=aA.out W hW pre h r hst;have c8:=(ah.out W hW).2.1;have hrl:r.length<m0+1:=by
   have:=congrArg List.length hst;rw[iJ,jh,aX.out]at this;omega
  have hne:0<=h.fG->∃h2 r2,r=h2::r2:=λhc=>by
   cases r with
   |nil=>have:=bA.out.last hst;omega
   |cons x y=>exact⟨x,y,rfl⟩
  obtain⟨hk,hnn,hc,aK,hf⟩:=h;dsimp only at hne;have l0:W.cell? ⟨gl,r.length*5,none⟩=some (.int .i64 (hk:Int)):=cl 0 _ rfl;have l1:W.cell? ⟨gl,r.length*5+1,none⟩=some (.int .i64 (hnn:Int)):=cl 1 _ rfl;have l2:W.cell? ⟨gl,r.length*5+2,none⟩=some (.int .i64 hc):=cl 2 _ rfl;have l3:W.cell? ⟨gl,r.length*5+3,none⟩=some (.int .i64 (aK:Int)):=cl 3 _ rfl;have l4:W.cell? ⟨gl,r.length*5+4,none⟩=some (.bool hf):=cl 4 _ rfl;obtain⟨m,hm⟩:=fq (r.length);rw[hm]at l0 l1 l2 l3 l4 hrl⊢;obtain⟨bh,aY⟩:=fq (W.heap.size);obtain⟨W1,hW1⟩:=fq (W.alloc (.cells #[.int .i64 (hk:Int),.int .i64 (hnn:Int),.int .i64 hc,.int .i64 (aK:Int),.bool hf] 91));have kh:W1.heap[bh]?=some (.cells #[.int .i64 (hk:Int),.int .i64 (hnn:Int),.int .i64 hc,.int .i64 (aK:Int),.bool hf] 91 (0,0)):=by rw[<-hW1,<-aY];exact j5 _ _
  have aZ:Below W.heap.size W W1:=hW1▸fo W _;have aL:Below w.heap.size w W1:=fD hW aZ;have aG:W1.heap[be]?=some (.cells #[.bool ed,.int .i64 ec,.int .i64 (F:Int),.int .i64 (T:Int)] 97 (0,0)):=(aZ.block be (il av)).trans av;have b0:W1.cell? ⟨be,0,none⟩=some (.bool ed):=(gG aG 0).trans rfl;have b1:W1.cell? ⟨be,1,none⟩=some (.int .i64 ec):=(gG aG 1).trans rfl;have b2:W1.cell? ⟨be,2,none⟩=some (.int .i64 (F:Int)):=(gG aG 2).trans rfl;have b3:W1.cell? ⟨be,3,none⟩=some (.int .i64 (T:Int)):=(gG aG 3).trans rfl;have y0:W1.cell? ⟨bh,0,none⟩=some (.int .i64 (hk:Int)):=(gG kh 0).trans rfl;have y2:W1.cell? ⟨bh,2,none⟩=some (.int .i64 hc):=(gG kh 2).trans rfl;have y4:W1.cell? ⟨bh,4,none⟩=some (.bool hf):=(gG kh 4).trans rfl;have d8:=(ah.out W1 aL).2.1;have f8:=(ah.out W1 aL).2.2.1 8;have d3:=bE.out W1 aL;have bR:(m:Int)<(m0:Int)+1:=by omega
  obtain⟨HW1,ae,ai,aM,aB,aC⟩:=kJ hW1 aY aL aG hst hm;rw[Pr.mX]at hsk;dsimp only at hsk;rw[bK.out,bJ.out]at hsk;clear hW av HJ cl hst hW1 aY kh aZ aL aG hm;have az:=eZ hne;clear hne;by_cases hce:hc=ec
  ·subst hce;have az:=eZ (az.out h0);by_cases hkk:hk=kd
   ·subst hkk;rw[eY ⟨rfl,rfl⟩]at hsk;obtain⟨R1,hb1,hS1,hF1,aS⟩:=ag.out W1 _ r pre ai.out aB.out hsk.symm;rw[aC.out]at hS1 hF1 aS;obtain⟨W2,hW2⟩:=fq (W1.setCell ⟨rb,8,none⟩ (.slice (some ⟨gl,0,none⟩) (m+1) cap));rw[hW2]at hS1 hF1 aS;have aN:=(show fV w0 W1 rb c q _ R from bF.out W1 ai.out).boxed hF1 aM.out (by decide) (by decide) (by decide) (by decide) (by decide);have bS:m+1<=cap:=by have:=bM.out;omega
    have e0:W2.cell? ⟨be,0,none⟩=some (.bool ed):=(gG aN 0).trans rfl;have e1:W2.cell? ⟨be,1,none⟩=some (.int .i64 hc):=(gG aN 1).trans rfl;have e2:W2.cell? ⟨be,2,none⟩=some (.int .i64 (F:Int)):=(gG aN 2).trans rfl;have e3:W2.cell? ⟨be,3,none⟩=some (.int .i64 (T:Int)):=(gG aN 3).trans rfl;have aO:=eZ (aS W2 (fI _ W2));have HW2:=eZ hW2;clear hsk hb1 hS1 hF1 aS hW2 aN ag aa af aA ah az;go_upto_region 4 with fail
    rw[HW1.out,ae.out];clear HW1 ae;go_upto_region 7 with fail
    rw[HW2.out];clear HW2;go_wp2_with fail
    refine aO.out.mono ?_;rintro e' w' ⟨rfl,hq⟩;have HQ:=eZ hq;clear hq;go_wp2_with fail
    try simp only[Exit.jump]
    exact HQ.out
   have bT:((hk:Int)==(kd:Int))=false:=by simp;omega
   rw[eX (by rintro⟨_,h⟩;exact hkk h)]at hsk;obtain⟨h2,r2,hr⟩:=az.out;have hn2:Pr.Np r=h2.fG:=by rw[hr];rfl
   have ax:q.st=(pre++[⟨hk,hnn,hc,aK,hf⟩])++h2::r2:=by rw[nQ,aB.out,hr];rfl
   have x2:W1.cell? ⟨gl,r2.length*5+2,none⟩=some (.int .i64 h2.fG):=aA.out W1 ai.out _ h2 r2 ax 2 _ rfl;have hm2:m=r2.length+1:=by rw[<-aC.out,hr];rfl
   rw[hn2]at hsk;obtain⟨m2,hmm⟩:=fq (r2.length);rw[hmm]at x2 hm2;obtain⟨nc,hnc⟩:=fq (h2.fG);rw[hnc]at x2 hsk;have bN:IntKind.i64.wrap ((m:Int)-1)=(m2:Int):=by rw[show(m:Int)-1=(m2:Int)by omega];exact qL _ (by omega)
   have bO:wrap64 ((m:Int)-1)=(m2:Int):=by rw[show(m:Int)-1=(m2:Int)by omega];exact uF _ (by omega)
   have bU:(m2:Int)<(m0:Int)+1:=by omega
   by_cases hx:nc=hc
   ·rw[eY (.inr ⟨rfl,hx⟩),hr]at hsk;subst hx;have HJ:=eZ (λn=>show Below w.heap.size w (W1.drewN n)/\(W1.drewN n).heap[be]?=_/\q.st=_/\_ from⟨ji ai.out n,aM.out,ax,hsk⟩);have aP:=eZ hmm;have bC:m2<m:=by omega
    clear hsk ax hr hn2 hm2 hkk hnc ag aa af aA ah az aB aC hmm;go_upto_region 4 with fail
    rw[HW1.out,ae.out];clear HW1 ae;go_upto_region 10 with fail
    go_big_quiet (fail)
    go_wp2_with fail
    go_step3
    refine⟨rfl,⟨h2,r2,_,?_,eZ (HJ.out nq)⟩,?_⟩
    ·rw[aP.out];exact⟨rfl,rfl,rfl,rfl,rfl,rfl,rfl,rfl,rfl⟩
    show((m2:Nat):Int).toNat<((m:Nat):Int).toNat
    omega
   have bV:((nc:Int)==hc)=false:=by simp;omega
   rw[eX (by rintro(h|⟨_,h⟩)<;>omega)]at hsk;clear hx ax hr hn2 hm2 hkk hnc ag aA az aB aC hmm;by_cases aQ:hf=true
   ·subst aQ;rw[eY ⟨rfl,.inl rfl⟩]at hsk;have HD:=eZ (λn=>aa.out (W1.drewN n) 3 (ji ai.out n) hsk.symm);clear hsk aa af ah;go_upto_region 4 with fail
    rw[HW1.out,ae.out];clear HW1 ae;go_upto_region 10 with fail
    go_big_quiet (fail)
    go_wp2_with fail
    try simp only[Exit.jump]
    exact HD.out nq
   obtain rfl:hf=false:=by cases hf<;>simp_all
   by_cases h3:hk=3
   ·rw[eY ⟨rfl,.inr h3⟩]at hsk;have g3:((hk:Int)==3)=true:=by simp[h3]
    have HD:=eZ (λn=>aa.out (W1.drewN n) 3 (ji ai.out n) hsk.symm);clear hsk aa af ah h3;go_upto_region 4 with fail
    rw[HW1.out,ae.out];clear HW1 ae;go_upto_region 10 with fail
    go_big_quiet (fail)
    go_wp2_with fail
    try simp only[Exit.jump]
    exact HD.out nq
   have g3:((hk:Int)==3)=false:=by simp;omega
   rw[eX (by rintro⟨_,h|h⟩;exact absurd h (by decide);exact h3 h),eX (by rintro⟨h,_⟩;exact absurd h (by decide)),eX (by decide)]at hsk;clear h3 aQ;rw[aX.out]at hsk;by_cases hdp:D<m0+1
   ·rw[eY hdp]at hsk;have n1:decide ((D:Int)<(m0:Int)+1)=true:=lI (by omega);have n2:(D:Int)<(m0:Int)+1:=by omega
    have HD:=eZ (λW (hb:Below w.heap.size w W)=>aa.out W 8 hb hsk.symm);clear hsk aa af ah hdp;go_upto_region 4 with fail
    rw[HW1.out,ae.out];clear HW1 ae;go_upto_region 10 with fail
    go_big_quiet (fail)
    go_upto_region 18 with fail
    go_big_quiet (fail)
    go_wp2_with fail
    try simp only[Exit.jump]
    first|exact HD.out _ (ji ai.out _)|exact HD.out _ (ji (ji ai.out _) _)
   rw[eX hdp]at hsk;have n1:decide ((D:Int)<(m0:Int)+1)=false:=jE (by omega);have HD:=eZ (λn=>af.out (W1.drewN n) (ji ai.out n) hsk.symm);clear hsk aa af ah hdp;go_upto_region 4 with fail
   rw[HW1.out,ae.out];clear HW1 ae;go_upto_region 10 with fail
   go_big_quiet (fail)
   go_upto_region 18 with fail
   go_big_quiet (fail)
   go_wp2_with fail
   refine(HD.out _).mono ?_;rintro e1 w1 ⟨rfl,hkeep,hen⟩;have aj:=hkeep be _ _ _ aM.out (by decide) (by decide) (by decide) (by decide) (by decide);have e0:w1.cell? ⟨be,0,none⟩=some (.bool ed):=(gG aj 0).trans rfl;have e1:w1.cell? ⟨be,1,none⟩=some (.int .i64 hc):=(gG aj 1).trans rfl;have e2:w1.cell? ⟨be,2,none⟩=some (.int .i64 (F:Int)):=(gG aj 2).trans rfl;have e3:w1.cell? ⟨be,3,none⟩=some (.int .i64 (T:Int)):=(gG aj 3).trans rfl;have aO:=eZ hen;clear hkeep aj hen HD;go_wp2_with fail
   refine aO.out.mono ?_;rintro e' w' ⟨rfl,hq⟩;have HQ:=eZ hq;clear hq;go_wp2_with fail
   try simp only[Exit.jump]
   exact HQ.out
  have bW:(hc==ec)=false:=by simp;omega
  rw[eX (by rintro⟨h,_⟩;exact hce h)]at hsk;by_cases hgt:ec<hc
  ·obtain⟨h2,r2,hr⟩:=az.out (by omega);have ax:q.st=(pre++[⟨hk,hnn,hc,aK,hf⟩])++h2::r2:=by rw[nQ,aB.out,hr];rfl
   have hm2:m=r2.length+1:=by rw[<-aC.out,hr];rfl
   obtain⟨m2,hmm⟩:=fq (r2.length);rw[hmm]at hm2;have bN:IntKind.i64.wrap ((m:Int)-1)=(m2:Int):=by rw[show(m:Int)-1=(m2:Int)by omega];exact qL _ (by omega)
   have bO:wrap64 ((m:Int)-1)=(m2:Int):=by rw[show(m:Int)-1=(m2:Int)by omega];exact uF _ (by omega)
   rw[eY (.inl hgt),hr]at hsk;have HJ:=eZ (show Below w.heap.size w W1/\W1.heap[be]?=_/\q.st=_/\_ from⟨ai.out,aM.out,ax,hsk⟩);have aP:=eZ hmm;have bC:m2<m:=by omega
   clear hsk ax hr hm2 hce ag aa af aA ah az aB aC hmm;go_upto_region 4 with fail
   rw[HW1.out,ae.out];clear HW1 ae;go_wp2_with fail
   go_step3
   refine⟨rfl,⟨h2,r2,_,?_,HJ⟩,?_⟩
   ·rw[aP.out];exact⟨rfl,rfl,rfl,rfl,rfl,rfl,rfl,rfl,rfl⟩
   show((m2:Nat):Int).toNat<((m:Nat):Int).toNat
   omega
  have bX:¬ec<hc:=hgt
  rw[eX (by rintro(h|⟨h,_⟩);exact hgt h;exact hce h),eX (by rintro⟨h,_⟩;exact hce h)]at hsk;clear hgt hce az ag aA aB aC;by_cases aQ:hf=true
  ·subst aQ;by_cases h2':hk=2
   ·rw[eY ⟨rfl,h2'⟩]at hsk;have g2:((hk:Int)==2)=true:=by simp[h2']
    have HD:=eZ (λn=>aa.out (W1.drewN n) 5 (ji ai.out n) hsk.symm);clear hsk aa af ah h2';go_upto_region 4 with fail
    rw[HW1.out,ae.out];clear HW1 ae;go_upto_region 10 with fail
    go_big_quiet (fail)
    go_wp2_with fail
    try simp only[Exit.jump]
    exact HD.out nq
   rw[eX (by rintro⟨_,h⟩;exact h2' h),eY rfl]at hsk;have g2:((hk:Int)==2)=false:=by simp;omega
   have HD:=eZ (λn=>aa.out (W1.drewN n) 4 (ji ai.out n) hsk.symm);clear hsk aa af ah h2';go_upto_region 4 with fail
   rw[HW1.out,ae.out];clear HW1 ae;go_upto_region 10 with fail
   go_big_quiet (fail)
   go_wp2_with fail
   try simp only[Exit.jump]
   exact HD.out nq
  obtain rfl:hf=false:=by cases hf<;>simp_all
  rw[eX (by rintro⟨h,_⟩;exact absurd h (by decide)),eX (by decide)]at hsk;clear aQ;rw[aX.out]at hsk;by_cases hdp:D<m0+1
  ·rw[eY hdp]at hsk;have n1:decide ((D:Int)<(m0:Int)+1)=true:=lI (by omega);have n2:(D:Int)<(m0:Int)+1:=by omega
   have HD:=eZ (λW (hb:Below w.heap.size w W)=>aa.out W 8 hb hsk.symm);clear hsk aa af ah hdp;go_upto_region 4 with fail
   rw[HW1.out,ae.out];clear HW1 ae;go_upto_region 10 with fail
   go_big_quiet (fail)
   go_upto_region 18 with fail
   go_big_quiet (fail)
   go_wp2_with fail
   try simp only[Exit.jump]
   first|exact HD.out _ (ji ai.out _)|exact HD.out _ (ji (ji ai.out _) _)
  rw[eX hdp]at hsk;have n1:decide ((D:Int)<(m0:Int)+1)=false:=jE (by omega);have HD:=eZ (λn=>af.out (W1.drewN n) (ji ai.out n) hsk.symm);clear hsk aa af ah hdp;go_upto_region 4 with fail
  rw[HW1.out,ae.out];clear HW1 ae;go_upto_region 10 with fail
  go_big_quiet (fail)
  go_upto_region 18 with fail
  go_big_quiet (fail)
  go_wp2_with fail
  refine(HD.out _).mono ?_;rintro e1 w1 ⟨rfl,hkeep,hen⟩;have aj:=hkeep be _ _ _ aM.out (by decide) (by decide) (by decide) (by decide) (by decide);have e0:w1.cell? ⟨be,0,none⟩=some (.bool ed):=(gG aj 0).trans rfl;have e1:w1.cell? ⟨be,1,none⟩=some (.int .i64 ec):=(gG aj 1).trans rfl;have e2:w1.cell? ⟨be,2,none⟩=some (.int .i64 (F:Int)):=(gG aj 2).trans rfl;have e3:w1.cell? ⟨be,3,none⟩=some (.int .i64 (T:Int)):=(gG aj 3).trans rfl;have aO:=eZ hen;clear hkeep aj hen HD;go_wp2_with fail
  refine aO.out.mono ?_;rintro e' w' ⟨rfl,hq⟩;have HQ:=eZ hq;clear hq;go_wp2_with fail
  try simp only[Exit.jump]
  exact HQ.out
 intro aR;go_upto_region 1 with fail
 rw[aV.out,bz.out];have av:=aJ.out;have b0:wb.cell? ⟨be,0,none⟩=some (.bool ed):=(gG av 0).trans rfl;have b1:wb.cell? ⟨be,1,none⟩=some (.int .i64 ec):=(gG av 1).trans rfl;have b2:wb.cell? ⟨be,2,none⟩=some (.int .i64 (F:Int)):=(gG av 2).trans rfl;have b3:wb.cell? ⟨be,3,none⟩=some (.int .i64 (T:Int)):=(gG av 3).trans rfl;have HP:=eZ aR;have bD:=av;have bQ:=eZ av;clear av aR aV bD;go_wp2_with fail
 refine(bB.out _).mono ?_;rintro e' w1 ⟨rfl,hb⟩;have hW1:=fD aW.out hb;have aj:=(hb.block be (il aJ.out)).trans aJ.out;have c8:=(ah.out w1 hW1).2.1;have gw:wrap64 ((m0:Int)+1-1)=(m0:Int):=by rw[show(m0:Int)+1-1=(m0:Int)by omega];exact uF _ (by omega)
 have bY:wrap64 (m0:Int)=(m0:Int):=uF _ (by omega);have HJ:=eZ (show Below w.heap.size w w1/\w1.heap[be]?=_/\q.st=[]++hd0::ay/\Pr.mX D q.st.length e (hd0::ay)=K from⟨hW1,aj,aU.out,by rw[<-bH.out,aU.out];rfl⟩);clear hb hW1 aj aJ aW b0 b1 b2 b3;go_wp2_with fail
 go_step3
 rename_i K' hK';refine hK' _ _ (HP.out _ _ ⟨hd0,ay,[],?_,HJ⟩);rw[bI.out];exact⟨rfl,rfl,rfl,rfl,rfl,rfl,rfl,rfl,rfl⟩
end
end Go.Proofs.YtmkkdjpebbdikaaGreatDoor

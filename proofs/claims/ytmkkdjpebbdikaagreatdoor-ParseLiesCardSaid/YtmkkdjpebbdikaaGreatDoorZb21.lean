import Derived.Test.YtmkkdjpebbdikaaGreatDoorZb18
import Derived.Test.YtmkkdjpebbdikaaGreatDoorZb19
set_option linter.all false
set_option maxHeartbeats 16000000
set_option maxRecDepth 100000
namespace Go.Proofs.YtmkkdjpebbdikaaGreatDoor
open Go.RowKit Tryz
def X4:=@Go.below_drewN
section
open Go.RowKit
open Sq
open Ar
theorem sM:∀(f:Nat)(l:List Nd)(k:Nat)(z:Int)(i:Nat)(x':Nd),(Pr.iO f l k z)[i]?=some x'->∃x,l[i]?=some x/\x'.u=x.u/\x'.ks=x.ks
 |0,l,_,_,i,x'=>λh=>⟨x',h,rfl,rfl⟩
 |f+1,l,k,z,i,x'=>λh=>by
  rw[Pr.iO]at h;by_cases h0:k=0
  ·rw[dX h0]at h;exact⟨x',h,rfl,rfl⟩
  ·rw[dW h0]at h;cases hk:l[k]? with
   |none=>rw[hk]at h;exact⟨x',h,rfl,rfl⟩
   |some y=>
    rw[hk]at h;obtain⟨x,h1,h2,h3⟩:=sM f _ _ z i x' h;rw[oI]at h1;split at h1
    ·split at h1
     ·rename_i e _;subst e;injection h1 with h1
      subst h1;exact⟨y,hk,h2,h3⟩
     ·cases h1
    ·exact⟨x,h1,h2,h3⟩
theorem H8{t:List Nd}{up:Nat}{z:Int}{i:Nat}{x':Nd}(h:(Pr.hold t up z)[i]?=some x'):∃x,t[i]?=some x/\x'.u=x.u/\x'.ks.length<=x.ks.length+1:=by
 obtain⟨x,h1,h2,h3⟩:=sM _ _ _ _ i x' h;unfold Pr.ql at h1;cases hp:t[up]? with
 |none=>rw[hp]at h1;exact⟨x,h1,h2,by rw[h3];omega⟩
 |some p=>
  rw[hp]at h1;rw[oI]at h1;split at h1
  ·split at h1
   ·rename_i e _;subst e;injection h1 with h1
    subst h1;exact⟨p,hp,h2,by rw[h3];simp⟩
   ·cases h1
  ·exact⟨x,h1,h2,by rw[h3];omega⟩
structure TrQ(m up:Nat)(q:List Nd):Prop where
 up:∀(i:Nat)(x:Nd),q[i]?=some x->0<=x.u/\x.u<(m+i:Nat)
 kb:∀x∈q,x.ks.length<=m+q.length
theorem Tr.more{t q:List Nd}{up:Nat}{z:Int}(h:Tr t)(hq:TrQ t.length up q)(h0:0<q.length):Tr (Pr.hold t up z++q):=by
 have hl:=Pr.pX t up z;refine⟨λi x hi hx=>?_,λx hx=>?_⟩
 ·rcases mD i t.length with h1|h1
  ·rw[nK dS]at hx;obtain⟨y,g1,g2,_⟩:=H8 hx;have:=h.up i y hi g1;omega
  ·rw[oH dS,hl]at hx;have:=hq.up _ x hx;omega
 ·rw[iK,hl];rcases kC.1 hx with hx|hx
  ·obtain⟨i,hi⟩:=jy hx;obtain⟨y,g1,_,g3⟩:=H8 hi;have:=h.kb y (gW g1);omega
  ·exact hq.kb x hx
theorem Tr.add{t:List Nd}{up:Nat}{k f z:Int}(h:Tr t)(hu:up<t.length):Tr (Pr.add t up k f z):=
 h.more ⟨λi x hx=>by
  obtain⟨hi,hx'⟩:=eY.1 hx;simp at hi;subst hi;simp at hx';subst hx';dsimp only;omega,λx hx=>by
  have hx:x=_:=tF.1 hx;subst hx
  exact fP _⟩ eG
theorem X5(w0 w:World)(rb:Nat)(c:Ctx)(q:Pr.QS)(lv:Value)(R:Nat->Prop)(up k f t:Nat)(hS:fF w0 w rb c q lv R)(hup:up<q.s.t.length)(hn:q.s.t.length<=900000000000):
 Calls prog 93 #[RP rb,.int .i64 up,.int .i64 k,.int .i64 f,.int .i64 t] w (nW w0 w rb c lv R (.int .i64 q.s.t.length) {q with s:=⟨Pr.add q.s.t up k f t,q.s.d⟩}):=by
 obtain⟨nv,dv,L,hM,hL,hTr,rfl⟩:=hS;have hLn:L.length=q.s.t.length:=yR
 have aa:=ahk w0 w rb c nv dv lv q.row q.en L q.s.d q.st.reverse up t hM dS (by rw[hL];exact hTr.up) (λp hp=>by
  have:=hTr.kb p.nd P9;omega) dS
 obtain⟨R0,hR0⟩:=eu (jU nv dv lv L);rw[hR0]at aa⊢;have af:=hTr.add (k:=(k:Int)) (f:=(f:Int)) (z:=(t:Int)) hup
 have HQ:=dY (λW ah L' (h:PM w0 W rb c ah dv lv q.row q.en L' q.s.d q.st.reverse/\L'.map Ln.nd=Pr.add q.s.t up k f t/\FP w W rb R0 (jU ah dv lv L'))=>show nW w0 w rb c lv R0 (.int .i64 q.s.t.length) {q with s:=⟨Pr.add q.s.t up k f t,q.s.d⟩} (.returned (.int .i64 q.s.t.length)) W from
  ⟨rfl,_,⟨_,_,L',h.1,h.2.1,af,rfl⟩,h.2.2⟩)
 obtain⟨Q,hQ⟩:=eu (nW w0 w rb c lv R0 (.int .i64 q.s.t.length) {q with s:=⟨Pr.add q.s.t up k f t,q.s.d⟩});rw[hQ]at HQ⊢;rw[hL]at aa;obtain⟨N,hN⟩:=eu (q.s.t.length);rw[hLn,hN]at aa;rw[hN]at HQ hn;obtain⟨ai,HN⟩:=fw aa hN;clear hM hL hLn hTr af hQ aa hR0 hup hN
 go_enter func93,ntmps93
 go_wp2_with fail
 refine ai.out.mono ?_;rintro e w1 ⟨rfl,L',hM',hL',hF'⟩;have ae:L'.length=N:=by
  have:=congrArg List.length hL';rw[jl,Pr.pX]at this;rw[this];exact HN.out
 obtain⟨a,cap,rfl⟩:=(Reads.fo (E:=fZ) hM'.nodes.row).shape;have c4:=Jc hM'.box;obtain⟨pn,hpn⟩:∃pn:Ln,(⟨⟨k,f,t,up,[],false⟩,none,0,0⟩:Ln)=pn:=⟨_,rfl⟩
 have hpc:fZ.cells pn=[.int .i64 k,.int .i64 f,.int .i64 t,.int .i64 up,.slice none 0 0,.bool false]:=by rw[<-hpn];rfl
 have hmap:(L'++[pn]).map Ln.nd=Pr.add q.s.t up k f t:=by rw[yF,hL',<-hpn];rfl
 have aB:=dY (show Own w1 w0.heap.size L' [pn]by rw[<-hpn];exact Own.one _ _ _ _ rfl);have L8:=dY (show∀k',¬∃p∈[pn],p.val.ownBlock=some k' by rw[<-hpn];rintro k' ⟨p,hp,e⟩;rw[tF.1 hp]at e;cases e);have aC:=dY (show L'.length+[pn].length<=maxLen by simp only[maxLen,iR,Gi];omega);have aD:=dY (show(L'.length+[pn].length)*64<=140737488355328 by simp only[iR,Gi];omega);obtain⟨aF,aj,HF⟩:=je hpc hmap hF';have ak:=dY (λo=>show(w1.alloc o).ownsRow w0.heap.size 38 fZ.k (.slice a L'.length cap) L'.length (fZ.all L')from hM'.nodes.row.alloc o);have aG:=dY (λo=>show w0.heap.size<=(w1.alloc o).heap.size from iU hM'.size (dZ w1 o).size);have av:=dY ae;rw[ae]at hM' c4 hF';have HM:=dY hM';clear hM' hL' hF' hpc hmap hpn ai ae;go_wp2_with (at_builtin;go_must (refine lS OV rfl (.tmp 20) (.tmp 26) rfl w0.heap.size _ L' rfl (by rw[<-av.out];exact ak.out _) _ [pn] rfl (zf w1 pn _ 38 aF.out) aC.out aD.out (aG.out _) ?_;intro v6 w6 hown6 ax ag;obtain⟨a6,c6,hv6⟩:=(Reads.fo (E:=fZ) hown6).shape;obtain⟨n6,ay⟩:∃n6,(L'++[pn]).length=n6:=⟨_,rfl⟩;rw[ay]at hv6;clear ay;subst hv6;obtain⟨hb6,az,aA⟩:=HM.out.push aB.out (dZ w1 _) ax hown6 ag;have c46:=Jc hb6;have f46:=qc hb6 4;have HD:=dY (HQ.out _ _ _ ⟨az,aj.out,HF.out.trans (by rw[av.out];exact FP.less aA (λk' hk'=>absurd hk' (L8.out k')))⟩);clear hown6 ax ag hb6 az aA))
 exact HD.out
end
section
open Go.RowKit
open Sq
open Ar
theorem Uv(l:List Tk):∀(j i:Nat),i<j->Fl.cnt (Fl.raw l i)=true->Fl.back l j (i+1)=Fl.back l j i
 |0,i=>λh _=>absurd h (pK _)
 |j+1,i=>λh1 h2=>by
  rw[Fl.back,Fl.back];by_cases hc:Fl.cnt (Fl.raw l j)=false
  ·have hij:i≠j:=λe=>by rw[e,hc]at h2;cases h2
   rw[dX ⟨dS,hc⟩,dX ⟨dS,hc⟩];exact Uv l j i dS h2
  ·rw[dW (λh=>hc h.2),dW (λh=>hc h.2)]
theorem Bj(w0 w:World)(rb:Nat)(c:Ctx)(q:Pr.QS)(lv:Value)(R:Nat->Prop)(up code a b:Nat)(hS:fF w0 w rb c q lv R)(hup:up<q.s.t.length)(hab:a<=b)(hb:b<=c.l.length)(hn:q.s.t.length<=900000000000)(hd:q.s.d.length<=1000000000000):
 Calls prog 63 #[RP rb,.int .i64 up,.int .i64 code,.int .i64 a,.int .i64 b] w (nW w0 w rb c lv R (.tuple #[]) {q with s:=Pr.fault c.l q.s up code a b}):=by
 obtain⟨k1,k2,k3⟩:=hS.tok;have HC:=dY (Aa rb c.tv c.l a b w k1 k2 hab hb k3);have hge:=Ps.kF c.l a b;have hle:=Ps.lo_le c.l hab;have hcn:Ps.lo c.l a b<b->Fl.cnt (Fl.raw c.l (Ps.lo c.l a b))=true:=λh=>Ps.qh c.l h
 obtain⟨Q,hQ⟩:=eu (nW w0 w rb c lv R (.tuple #[]) {q with s:=Pr.fault c.l q.s up code a b});rw[hQ];unfold Pr.fault at hQ;dsimp only at hQ;obtain⟨x,hx⟩:=eu (Ps.lo c.l a b);rw[hx]at HC hge hle hcn hQ;by_cases hlt:x<b
 ·rw[dX hlt]at hQ;have hcx:=hcn hlt;have ae:=Uv c.l b x hlt hcx;have hbg:=Ps.ow c.l b x x (eO _) hlt hcx;have hbl:=Fl.gH c.l b x;have aa:=M4 rb c.tv c.l b (x+1) w k1 k2 hb k3 dS dS ⟨x+1,eO _,dS,by rw[lW];exact hcx⟩;rw[ae]at aa;obtain⟨e,he⟩:=eu (Fl.back c.l b x);rw[he]at hbg hbl aa hQ;obtain⟨y,rfl⟩:∃y,e=y+1:=⟨e-1,dS⟩
  rw[lW]at hQ;obtain⟨tx,htx⟩:∃tx,c.l[x]?=some tx:=⟨_,fu dS⟩
  obtain⟨ty,hty⟩:∃ty,c.l[y]?=some ty:=⟨_,fu dS⟩
  have ef:Fl.kW c.l x=tx.2.1:=by unfold Fl.kW;rw[htx]
  have et:Fl.too c.l y=ty.2.2:=by unfold Fl.too;rw[hty]
  rw[ef,et]at hQ;obtain⟨ta,tc,af⟩:=k2.shape;rw[af]at k1 k2;obtain⟨tb,off,rfl,-,x1,-⟩:=iY k2 x tx htx;obtain⟨av,off',he2,-,-,y2⟩:=iY k2 y ty hty;injection he2 with he2
  injection he2 with e1 e2
  subst e1 e2;obtain⟨F,hF⟩:=eu (tx.2.1);obtain⟨T,hT⟩:=eu (ty.2.2);rw[hF]at x1 hQ;rw[hT]at y2 hQ;have ag:=dY (λW (hW:Below w.heap.size w W)=>Mi w0 W rb c q lv R code F T (hS.below hW) hd);obtain⟨ah,HQ⟩:=fw aa hQ;have HA:=dY (λW R' (h:fF w0 W rb c {q with s:=⟨q.s.t,q.s.d++[⟨code,F,T⟩]⟩} lv R')=>X5 w0 W rb c _ lv R' up 11 x (y+1) h hup hn);obtain⟨N,hN⟩:=eu (c.l.length);rw[hN]at k1 hb k3;have gx:(x:Int)<(N:Int):=dS
  have gy:(y:Int)<(N:Int):=dS
  have ak:(x:Int)<(b:Int):=dS
  have gw:IntKind.i64.wrap (((y+1:Nat):Int)-1)=(y:Int):=by
   rw[show((y+1:Nat):Int)-1=(y:Int)by omega];exact sj _ dS
  have ax:IntKind.i64.wrap ((y:Int)+1-1)=(y:Int):=by
   rw[show(y:Int)+1-1=(y:Int)by omega];exact sj _ dS
  have d1:=eP k1;have dx:=eP x1;have dy:=eP y2;clear hcn hx hQ hcx ae he htx hty ef et k2 hF hT aa af hS hN hlt hn hd hup hbg hbl hge hle hab hb
  go_enter func63,ntmps63
  go_wp2_with fail
  refine HC.out.mono ?_;rintro e w1 ⟨rfl,rfl⟩;go_wp2_with fail
  refine ah.out.mono ?_;rintro e w1 ⟨rfl,rfl⟩;go_upto_region 3 with fail
  refine ik 19 dV dV ?_;simp only[vJ,vT,xB,lM]
  repeat (go_big_quiet_step (fail))
  refine LP ?_;go_wp2_with fail
  refine(ag.out w.drew (fD _ w).drew).mono ?_;rintro e w1 ⟨rfl,R1,hS1,hF1⟩;obtain⟨ai,aj⟩:=fw (HA.out w1 R1 hS1) hF1;clear hS1 hF1 HA ag ah HC k1 x1 y2 d1 dx dy;go_wp2_with fail
  refine ai.out.mono ?_;rintro e w2 ⟨rfl,R2,hS2,hF2⟩;have HD:=dY (show Q (.returned (.tuple #[])) w2 by rw[<-HQ.out];exact⟨rfl,R2,hS2,(FP.below (fD _ w).drew).trans (aj.out.trans hF2)⟩);clear hS2 hF2 HQ ai aj;go_wp2_with fail
  go_end0
  exact HD.out
 ·rw[dW hlt]at hQ;have HD:=dY (show Q (.returned (.tuple #[])) w by rw[<-hQ];exact⟨rfl,R,hS,FP.refl _ _ _⟩);have ak:¬(x:Int)<(b:Int):=by omega
  clear hcn hx hQ hS k1 k2 k3 hn hd hup hge hle hab hb hlt
  go_enter func63,ntmps63
  go_wp2_with fail
  refine HC.out.mono ?_;rintro e w1 ⟨rfl,rfl⟩;go_wp2_with fail
  go_end0
  exact HD.out
end
section
open Go.RowKit
open Sq
open Ar
section
variable {w0 w:World}{rb:Nat}{c:Ctx}{q:Pr.QS}{lv:Value}{R:Nat->Prop}{h:Pr.Lv}{tl:List Pr.Lv}
theorem akU{w:World}{B gl n cap:Nat}(hown:w.ownsRow B 91 5 (.slice (some ⟨gl,0,none⟩) n cap) ((h::tl).reverse).length (qK.all (h::tl).reverse)):∀j u,(oh h)[j]?=some u->w.cell? ⟨gl,tl.length*5+j,none⟩=some u:=λj u hu=>by
 have hj:j<5:=(eY.1 hu).1
 have hh:((h::tl).reverse)[tl.length]?=some h:=by
  rw[O1,oH eG,IV,si];rfl
 have:=hown.cells (g:=gl) rfl _ _ ((iJ qK _ tl.length h hh j hj).trans hu);rw[fT,jY]at this;exact this
theorem fF.top(hS:fF w0 w rb c q lv R)(hst:q.st=h::tl):∃gl cap,lv=.slice (some ⟨gl,0,none⟩) (tl.length+1) cap/\(∀o,w.frozen? ⟨gl,o,none⟩=false)/\(∀j u,(oh h)[j]?=some u->w.cell? ⟨gl,tl.length*5+j,none⟩=some u)/\w.cell? ⟨rb,8,none⟩=some (.slice (some ⟨gl,0,none⟩) (tl.length+1) cap)/\R gl:=by
 obtain⟨nv,dv,L,hM,hL,hTr,rfl⟩:=hS;have hl:=hM.levels;rw[hst]at hl;obtain⟨gl,cap,hv,_,hf,_,_⟩:=jf (E:=qK) hl eG;have hlen:((h::tl).reverse).length=tl.length+1:=eG
 rw[hlen]at hv;have c8:=bx8 hM.box;subst hv;exact⟨gl,cap,rfl,hf,akU hl,c8,.inr (.inr (.inl rfl))⟩
theorem fF.Kr{gl n cap:Nat}(hS:fF w0 w rb c q (.slice (some ⟨gl,0,none⟩) n cap) R)(hst:q.st=h::tl)(j:Nat)(u:Value)(h':Pr.Lv)(hc:oh h'=(oh h).set j u)(hj:j<5):
 fF w0 (w.setCell ⟨gl,tl.length*5+j,none⟩ u) rb c {q with st:=h'::tl} (.slice (some ⟨gl,0,none⟩) n cap) R/\FP w (w.setCell ⟨gl,tl.length*5+j,none⟩ u) rb R R:=by
 obtain⟨nv,dv,L,hM,hL,hTr,rfl⟩:=hS;have hgR:jU nv dv (.slice (some ⟨gl,0,none⟩) n cap) L gl:=.inr (.inr (.inl rfl));have hr:=hM.rows hgR;have st:∀k,k≠gl->(w.setCell ⟨gl,tl.length*5+j,none⟩ u).heap[k]?=w.heap[k]?:=λk hk=>jo _ _ _ _ hk
 have hlv:=hM.levels;have hh:(q.st.reverse)[tl.length]?=some h:=by
  rw[hst,O1,oH eG,IV,si];rfl
 have hset:=ou (E:=qK) hlv tl.length j h h' u hh hc hj;have hrev:q.st.reverse.set tl.length h'=(h'::tl).reverse:=by
  rw[hst,O1,O1,LH _ _ eG,IV,si];rfl
 rw[hrev]at hset
 refine⟨⟨nv,dv,L,⟨hM.kL.setCell (p:=⟨gl,tl.length*5+j,none⟩) hr.1 u,hM.ctx,hM.low,(st rb (λe=>hr.2.2 e.symm)).trans hM.box,hM.nodes.same (λg hg=>st g (λe=>?_)),fE hM.told (λg hg=>st g (λe=>eX hlv hM.told dU gl rfl (e▸hg))),hset⟩,hL,hTr,rfl⟩,
  xP (w6:=w) (fD _ _) (x:=.slice none 0 0) ⟨rfl,rfl,rfl,eO _,λ_ _ _=>rfl⟩ (λg e=>uP) (λk hk=>.inl hk) (.inr hgR) _ u⟩
 rcases hg with hg|⟨p,hp,hg⟩
 ·exact eX hlv hM.nodes.row dU gl rfl (e▸hg)
 ·obtain⟨a,ha⟩:=jy hp;exact eX hlv (hM.nodes.kids a p ha) dU gl rfl (e▸hg)
theorem fF.ajh(hS:fF w0 w rb c q lv R)(x:Pr.Lv)(o:Obj)(ho:o=.cells (oh x).toArray 91):
 ∃R',fF w0 ((w.alloc o).setCell ⟨rb,8,none⟩ (.slice (some ⟨w.heap.size,0,none⟩) 1 1)) rb c {q with st:=[x]} (.slice (some ⟨w.heap.size,0,none⟩) 1 1) R'/\FP w ((w.alloc o).setCell ⟨rb,8,none⟩ (.slice (some ⟨w.heap.size,0,none⟩) 1 1)) rb R R':=by
 obtain⟨nv,dv,L,hM,hL,hTr,rfl⟩:=hS;have hM1:=hM.below (dZ w o);have hown:(w.alloc o).ownsRow w0.heap.size 91 5 (.slice (some ⟨w.heap.size,0,none⟩) 1 1) [x].length (qK.all [x]):=by
  rw[ho];exact T6 qK w _ _ [x] _ (by simp[mW.all];rfl) eG hM.size
 refine⟨_,⟨nv,dv,L,PM.toCell (C:=jR c nv dv lv q.row q.en) hM1.kL hM1.ctx hM1.low hM1.box rfl hM1.nodes hM1.told hown,hL,hTr,rfl⟩,?_,λk h1 h2 h3=>?_,λk hk=>?_⟩
 ·have:((w.alloc o).setCell ⟨rb,8,none⟩ (.slice (some ⟨w.heap.size,0,none⟩) 1 1)).heap.size=w.heap.size+1:=by simp
  omega
 ·rw[jo _ _ _ _ h2];exact(dZ w o).block k h1
 ·rcases hk with hk|hk|hk|hk
  ·exact wH
  ·exact yV
  ·have hk:some w.heap.size=some k:=hk;injection hk with hk
   exact .inr dS
  ·exact Ec
theorem fF.ahl(hS:fF w0 w rb c q lv R):∃R',fF w0 (w.setCell ⟨rb,8,none⟩ (.slice none 0 0)) rb c {q with st:=[]} (.slice none 0 0) R'/\FP w (w.setCell ⟨rb,8,none⟩ (.slice none 0 0)) rb R R':=by
 obtain⟨nv,dv,L,hM,hL,hTr,rfl⟩:=hS;refine⟨_,⟨nv,dv,L,PM.toCell (C:=jR c nv dv lv q.row q.en) hM.kL hM.ctx hM.low hM.box rfl hM.nodes hM.told (kX qK _ _),hL,hTr,rfl⟩,?_,λk h1 h2 h3=>jo _ _ _ _ h2,λk hk=>?_⟩
 ·have:(w.setCell ⟨rb,8,none⟩ (.slice none 0 0)).heap.size=w.heap.size:=by simp
  omega
 ·rcases hk with hk|hk|hk|hk
  ·exact wH
  ·exact yV
  ·cases hk
  ·exact Ec
end
theorem za(w:World)(rb gl m cap:Nat)(c8:w.cell? ⟨rb,8,none⟩=some (.slice (some ⟨gl,0,none⟩) (m+1) cap))(hm:m<=1000000):
 Calls prog 66 #[RP rb] w λe w'=>e=.returned (.pointer (some ⟨gl,m*5,none⟩))/\∃n,w'=w.drewN n:=by
 have gw:IntKind.i64.wrap (((m+1:Nat):Int)-1)=(m:Int):=by
  rw[show((m+1:Nat):Int)-1=(m:Int)by omega];exact sj _ dS
 have aa:IntKind.i64.wrap ((m:Int)+1-1)=(m:Int):=by
  rw[show(m:Int)+1-1=(m:Int)by omega];exact sj _ dS
 have ae:IntKind.i64.wrap (m:Int)=(m:Int):=sj _ dS;have af:wrap64 (m:Int)=(m:Int):=AF _ dS;have g1:(m:Int)<(m:Int)+1:=dS
 have g2:(m:Int)<((m+1:Nat):Int):=dS
 clear hm
 go_enter func66,ntmps66
 go_wp2_with fail
 go_big_quiet (fail)
 go_wp2_with fail
 go_ret;exact⟨rfl,nq,rfl⟩
theorem Yl(w:World)(gl o:Nat)(h:Pr.Lv)(hc:∀j u,(oh h)[j]?=some u->w.cell? ⟨gl,o+j,none⟩=some u):
 Calls prog 67 #[.pointer (some ⟨gl,o,none⟩)] w λe w'=>e=.returned (.int .i64 (Pr.free h:Nat))/\w=w':=by
 have c1:=hc 1 _ rfl;have c3:=hc 3 _ rfl;have c4:=hc 4 _ rfl;unfold Pr.free;cases e:h.full with
 |true=>
  rw[e]at c4;clear hc e
  go_enter func67,ntmps67
  exact nH
 |false=>
  rw[e]at c4;clear hc e
  go_enter func67,ntmps67
  exact nH
theorem aji(w:World)(gl o:Nat)(h:Pr.Lv)(eT:Int)(hc:∀j u,(oh h)[j]?=some u->w.cell? ⟨gl,o+j,none⟩=some u):
 Calls prog 68 #[.pointer (some ⟨gl,o,none⟩),.int .i64 eT] w λe w'=>e=.returned (.bool (!h.full&&decide (h.eT<eT)))/\w=w':=by
 have c2:=hc 2 _ rfl;have c4:=hc 4 _ rfl;cases e:h.full with
 |true=>
  rw[e]at c4;clear hc e
  go_enter func68,ntmps68
  exact nH
 |false=>
  rw[e]at c4;clear hc e
  go_enter func68,ntmps68
  go_wp2_with fail
  go_ret;exact⟨eG,rfl⟩
end
section
open Go.RowKit
open Sq
open Ar
theorem fF.c8{w0 w:World}{rb:Nat}{c:Ctx}{q:Pr.QS}{lv:Value}{R:Nat->Prop}(hS:fF w0 w rb c q lv R):∃a cap,lv=.slice a q.st.length cap/\w.cell? ⟨rb,8,none⟩=some (.slice a q.st.length cap)/\(∀o,w.frozen? ⟨rb,o,none⟩=false):=by
 obtain⟨nv,dv,L,hM,hL,hTr,rfl⟩:=hS;obtain⟨a,cap,hv⟩:=(Reads.fo (E:=qK) hM.levels).shape;rw[IV]at hv;have h8:=bx8 hM.box;subst hv;exact⟨a,cap,rfl,h8,hM.free⟩
theorem EU(w0 w:World)(rb:Nat)(c:Ctx)(q:Pr.QS)(lv:Value)(R:Nat->Prop)(i:Nat)(hS:fF w0 w rb c q lv R)(h0:0<q.s.t.length)(hn:q.s.t.length<=900000000000)(hi:i<=100000):
 Calls prog 60 #[RP rb,.int .i64 i] w (tV w0 w rb c R (.tuple #[]) (Pr.fA q i)):=by
 obtain⟨Q,hQ⟩:=eu (tV w0 w rb c R (.tuple #[]) (Pr.fA q i));rw[hQ];unfold Pr.fA at hQ;obtain⟨a,cap,rfl,c8,-⟩:=hS.c8;cases hst:q.st with
 |nil=>
  rw[hst]at hQ c8;dsimp only at hQ;have hA:=X5 w0 w rb c q _ R 0 2 i (i+1) hS h0 hn;obtain⟨N,hN⟩:=eu (q.s.t.length);rw[hN]at hA hQ;obtain⟨HA,HQ⟩:=fw hA hQ;have gw:wrap64 ((i:Int)+1)=((i+1:Nat):Int):=by rw[AF _ dS];omega
  have hl0:([]:List Pr.Lv).length=0:=rfl;rw[hl0]at c8;clear hA hQ hS hst hN h0 hn hi hl0
  go_enter func60,ntmps60
  go_wp2_with fail
  refine HA.out.mono ?_;rintro e w1 ⟨rfl,R1,hS1,hF1⟩;obtain⟨a1,k1,-,aa,f81⟩:=(hS1.below (dZ w1 (.cells #[.int .i64 2,.int .i64 (N:Int),.int .i64 (-1),.int .i64 (N:Int),.bool false] 91))).c8;have f8:=f81 8;obtain⟨R2,hS2,hF2⟩:=hS1.ajh ⟨2,N,-1,N,false⟩ (.cells #[.int .i64 2,.int .i64 (N:Int),.int .i64 (-1),.int .i64 (N:Int),.bool false] 91) rfl;have HD:=dY (show Q (.returned (.tuple #[])) _ by rw[<-HQ.out];exact⟨rfl,_,R2,hS2,hF1.trans hF2⟩);clear hS1 hF1 hS2 hF2 HA HQ f81;go_wp2_with fail
  exact sP
 |cons x r=>
  rw[hst]at hQ c8;dsimp only at hQ;have HD:=dY (show Q (.returned (.tuple #[])) w by rw[<-hQ];exact⟨rfl,_,R,hS,FP.refl _ _ _⟩);obtain⟨M,hM⟩:=eu ((x::r).length);have hM0:0<M:=by rw[<-hM];simp
  rw[hM]at c8;have g:((M:Int)==0)=false:=eQ
  clear hQ hS hst hM hM0 h0 hn hi
  go_enter func60,ntmps60
  go_wp2_with fail
  exact sP
abbrev I4(e:Rw.E):Value:=.agg #[.bool e.dash,.int .i64 e.eT,.int .i64 e.from',.int .i64 e.bu]
theorem afT(w:World)(e:Rw.E):Calls prog 101 #[I4 e] w λr w'=>r=.returned (.int .i64 (Ps.kindOf e:Nat))/\Below w.heap.size w w':=by
 obtain⟨d,eT,f,t⟩:=e;have HB:=dY (dZ w (.cells #[.bool d,.int .i64 eT,.int .i64 (f:Int),.int .i64 (t:Int)] 97));unfold Ps.kindOf;cases d with
 |true=>
  go_enter func101,ntmps101
  go_wp2_with fail
  exact uR
 |false=>
  go_enter func101,ntmps101
  go_wp2_with fail
  exact uR
end
namespace Pr
open Ar Fl
open Rw (R E)
open Ps (lo PS kindOf OK vR Bs jT kM Ay holder outer lV mU Inv Up)
theorem afU{l:List Tk}{r:R}(h:X3 l r)(ht:r.bu<=l.length)(hlt:r.from'<=r.bu)(hn:Rw.jZ ((l.drop r.from').take (r.bu-r.from'))=none):lo l r.from' r.bu=r.bu:=by
 have h1:=Rw.N6 _ hn;unfold Ps.lo;refine Bi _ _ _ _ hlt dS (λj a b=>?_) (.inl dS);obtain⟨x,hx⟩:∃x,l[j]?=some x:=⟨_,fu dS⟩
 have hm:x∈(l.drop r.from').take (r.bu-r.from'):=by
  refine gW (i:=j-r.from') ?_;rw[tu dS,sW,<-hx];congr 1;omega
 have h2:=h1 x hm;rw[Ps.lu hx];have h2:cnt x.1=false:=h2;rw[h2];rfl
theorem Na{l:List Tk}{r:R}(h:X3 l r)(ht:Rw.jO 0 l):(r.kind=1\/r.kind=2\/r.kind=3\/r.kind=4\/r.kind=5)/\(r.kind=1->Rw.jZ ((l.drop r.from').take (r.bu-r.from'))=none)/\(r.kind=5->0<=r.eT):=by
 obtain⟨begun,h1,h2⟩:=h.form;refine⟨?_,λhk=>Rw.ab0 begun _ (by rw[<-h1];exact hk),λhk=>?_⟩
 ·rw[h1];unfold Rw.kindOf;split
  ·simp
  ·split
   ·split<;>simp
   ·split
    ·simp
    ·split<;>simp
 ·obtain⟨q,hq⟩:=Rw.jO.drop ht r.from';have aa:=Rw.BH (r.bu-r.from') _ hq;rw[h2];refine(Rw.aiQ aa).2 ?_;rw[h1]at hk;unfold Rw.kindOf at hk;split at hk
  ·cases hk
  ·cases hf:Rw.jZ ((l.drop r.from').take (r.bu-r.from'))with
   |none=>
    rw[hf]at hk;dsimp only at hk;split at hk<;>cases hk
   |some x=>rfl
theorem Om{l:List Tk}{B:Bs}{depth e:Nat}{q:QS}{p:PS}{r:R}(ht:Rw.jO 0 l)(hS:Scn l)(hrow:(Rw.eF l)[q.row]?=some r)(h4:r.kind≠4)(h5:r.kind≠5)(hst:q.st=Gv p)(hs:q.s=p.s)(hw:Wf p)(hI:Inv l B e p)(he:e<=r.from')(hen:q.en=Ps.limit l r.from')(hrd:p.read=r.bu):
 Fin l q (kE l q r) (if r.kind=2\/r.kind=3 then(if lo l r.from' r.bu<back l r.bu (lo l r.from' r.bu)then{Ps.gI p (lo l r.from' r.bu)with s:=err l (Ps.gI p (lo l r.from' r.bu)).s (holder (Ps.gI p (lo l r.from' r.bu))) (lo l r.from' r.bu) (back l r.bu (lo l r.from' r.bu)) 8}else p)else p):=by
 have hmem:=gW hrow;have hro:=Ps.rows_ok l r hmem;have hlt:=hro.lt;have hle:=hro.le;obtain⟨k1,k2,k3⟩:=Na (Gx l r hmem) ht;have hlim:Ps.limit l r.bu=q.en:=by
  rw[hen];refine(xO dS hle (λj g1 g2=>?_)).symm;rcases mD r.from' j with g|g
  ·exact hS.mark r hmem j g g2
  ·exact Zf
 have aa:Fin l q q p:=⟨hs,hst,hw,⟨eO _,r,hrow,hrd.symm⟩,by rw[hrd];exact hlim⟩
 have hge:=Ps.kF l r.from' r.bu;unfold kE;dsimp only;by_cases hx:lo l r.from' r.bu<r.bu
 ·have h23:r.kind=2\/r.kind=3:=by
   rcases k1 with h|h
   ·have:=afU (Gx l r hmem) hle dS (k2 h);omega
   ·omega
  rw[dX hx,dX h23,dX ((sH dS).2 hx)];obtain⟨R1,R2,R3⟩:=M6 hst hs hw hI (i:=lo l r.from' r.bu) dS dS;obtain⟨o1,o2⟩:=Ps.uk hI (i:=lo l r.from' r.bu) dS dS;obtain⟨a,ha⟩:=eu (lo l r.from' r.bu);have hcn:=Ps.qh l hx;rw[ha]at hx R1 R2 R3 o1 o2 hcn⊢;have hself:=zO hcn (pJ hx);refine⟨?_,R1.st,R1.wf,⟨by show q.row<=(fA q a).row;omega,r,by show(Rw.eF l)[(fA q a).row]?=_;rw[R2];exact hrow,by show r.bu=(Ps.gI p a).read;omega⟩,?_⟩
  ·dsimp only;exact EO R1 o1 (by rw[hself];exact eO _) (by rw[hself];exact hx) hle hself
  ·show Ps.limit l (Ps.gI p a).read=(fA q a).en;rw[o2,hrd,R3];exact hlim
 ·rw[dW hx];have:¬lo l r.from' r.bu<back l r.bu (lo l r.from' r.bu):=λh=>hx ((sH dS).1 h)
  rw[dW this];split<;>exact aa
theorem Uw{l:List Tk}{B:Bs}{depth:Nat}{q:QS}{p:PS}{r:R}(ht:Rw.jO 0 l)(hS:Scn l)(hl:l.length<=32768)(hrow:(Rw.eF l)[q.row]?=some r)(hst:q.st=Gv p)(hs:q.s=p.s)(hw:Wf p)(hI:Inv l B p.read p)(hrd:p.read=r.from')(hB:B.1<=r.from')(hen:q.en=Ps.limit l r.from'):
 Fin l q (step l (Rw.eF l) depth q r) (Ps.row l (Rw.eF l) depth p r):=by
 have hmem:=gW hrow;obtain⟨k1,k2,k3⟩:=Na (Gx l r hmem) ht;have hI2:Inv l B p.read {p with read:=r.bu}:=hI;unfold step Ps.row;dsimp only;by_cases h4:r.kind=4
 ·rw[dX h4,dX h4];exact afS hS hl hrow h4 hst hs hI2 dS hB rfl
 ·rw[dW h4,dW h4];by_cases h5:r.kind=5
  ·rw[dX h5,dX h5];exact afP ht hS hl hrow h5 hst hs hw hI2 dS hB hen rfl (k3 h5)
  ·rw[dW h5,dW h5];exact Om (depth:=depth) ht hS hrow h4 h5 hst hs hw hI2 dS hen rfl
theorem ahm{l:List Tk}{rs:List R}{depth:Nat}{p:PS}:∀(d i:Nat),(∀k r,i<=k->k<i+d->rs[k]?=some r->r.from'<p.read)->Ps.iA l rs depth p (rs.drop i)=Ps.iA l rs depth p (rs.drop (i+d))
 |0,i=>λ_=>rfl
 |d+1,i=>λh=>by
  by_cases hi:i<rs.length
  ·have h0:=h i rs[i] (eO _) dS (fu hi);rw[xz hi,Ps.iA,dW dS,ahm d (i+1) (λk r a b=>h k r dS dS)];congr 2;omega
  ·rw[oG dS,oG dS]
theorem abw{l:List Tk}{B:Bs}{depth:Nat}(ht:Rw.jO 0 l)(hS:Scn l)(hl:l.length<=32768)(hB:B.1=0):∀(f:Nat)(q:QS)(p:PS),(Rw.eF l).length-q.row<=f->q.st=Gv p->q.s=p.s->Wf p->Inv l B p.read p->(∀r,(Rw.eF l)[q.row]?=some r->p.read=r.from'/\q.en=Ps.limit l r.from')->
 (Pm l (Rw.eF l) depth f q).s=(Ps.iA l (Rw.eF l) depth p ((Rw.eF l).drop q.row)).s
 |0,q,p=>λhf hst hs _ _ _=>by
  rw[oG dS];exact hs
 |f+1,q,p=>λhf hst hs hw hI hr=>by
  rw[Pm];cases hrow:(Rw.eF l)[q.row]? with
  |none=>
   rw[oG (AA.1 hrow)];exact hs
  |some r=>
   dsimp only;obtain⟨h1,h2⟩:=hr r hrow;obtain⟨hi,hri⟩:=eY.1 hrow;have hF:=Uw (depth:=depth) ht hS hl hrow hst hs hw hI h1 dS h2;have hmem:=gW hrow;have hok:=Ps.Kn (depth:=depth) ht hI (Ps.rows_ok l r hmem) dS dS;rw[xz hi,hri,Ps.iA,dX dS];obtain⟨P,hP⟩:=eu (Ps.row l (Rw.eF l) depth p r);obtain⟨Q,hQ⟩:=eu (step l (Rw.eF l) depth q r);rw[hP]at hF hok⊢;rw[hQ]at hF⊢;obtain⟨g1,r',g2,g3⟩:=hF.row;have aa:=Ps.rows_ok l r' (gW g2)
   rw[ahm (p:=P) (Q.row-q.row) (q.row+1) (λk x a b hk=>by
    have:=aa.lt;by_cases e:k=Q.row
    ·subst e;rw[g2]at hk;obtain rfl:=iG hk;omega
    ·have h3:=yg (rws l) hk g2 dS;have:=(Ps.rows_ok l x (gW hk)).lt
     omega)]
   have:=abw (depth:=depth) ht hS hl hB f {Q with row:=Q.row+1} P (by show _-(Q.row+1)<=f;omega) hF.st hF.s hF.wf hok.1 (λx hx=>by
    have h4:=(rws l).next Q.row r' x g2 hx
    exact⟨dS,by show Q.en=_;rw[<-hF.lim,<-g3,h4]⟩)
   rw[this];show _=(Ps.iA l (Rw.eF l) depth P ((Rw.eF l).drop (q.row+1+(Q.row-q.row)))).s;rw[show q.row+1+(Q.row-q.row)=Q.row+1 by omega]
theorem afV(b:List Nat)(depth:Nat)(hl:(Sc.tokens b).length<=32768):read (Sc.tokens b) depth=Ps.read (Sc.tokens b) depth:=by
 have ht:=Rw.iZ b;unfold read Ps.read
 have:=abw (depth:=depth) (B:=(0,(Ps.start (Sc.tokens b)).s)) ht (scn b) hl rfl (Rw.eF (Sc.tokens b)).length (start (Sc.tokens b)) (Ps.start (Sc.tokens b)) (by show _-0<=_;omega) rfl rfl ⟨trivial,λh=>absurd rfl h⟩ (Ps.oF _ hl) (λr hr=>by
  have h0:=(rws (Sc.tokens b)).zero r hr
  refine⟨by rw[h0];rfl,by rw[h0];rfl⟩)
 rw[this];show(Ps.iA _ _ _ _ ((Rw.eF (Sc.tokens b)).drop 0)).s=_;rw[lM]
theorem xq{α β:Type}{f g:α->Option β}:∀(l:List α),(∀x∈l,f x=g x)->l.filterMap f=l.filterMap g
 |[],_=>rfl
 |x::r,h=>by
  rw[ahH,ahH,h x eG,xq r (λy hy=>h y (by simp[hy]))]
theorem Av{α β:Type}{f g:α->List β}:∀(l:List α),(∀x∈l,f x=g x)->l.flatMap f=l.flatMap g
 |[],_=>rfl
 |x::r,h=>by
  rw[IU,IU,h x eG,Av r (λy hy=>h y (by simp[hy]))]
theorem afW(b:List Nat)(r:R)(hr:r∈Rw.eF (Sc.tokens b)):tabs (Sc.tokens b) r=Ps.tabs b (Sc.tokens b) r:=by
 unfold tabs Ps.tabs;split
 ·rename_i h5;refine xq _ (λi hi=>?_);rw[yH]at hi;by_cases h3:raw (Sc.tokens b) (r.from'+i)=3
  ·rw[dX h3,dX];refine⟨h3,?_⟩;obtain⟨a1,a2⟩:=FK b;have hF:=Gx _ r hr;have hro:=Ps.rows_ok _ r hr;have hlo:=Ps.lo_le (Sc.tokens b) (pJ hro.lt);obtain⟨l,hl⟩:=eu (Sc.tokens b);have ht:=Rw.iZ b;rw[hl]at hr hi h3 a1 a2 hF hro hlo ht⊢;have hle:=hro.le;obtain⟨y,hy⟩:∃y,l[r.from'+i]?=some y:=⟨_,fu dS⟩
   have hy3:y.1=3:=by rw[Ps.lu hy]at h3;exact h3
   have hb:b[y.2.1]?=some 9:=by
    rcases rP i with h0|h0
    ·subst h0;rw[oW]at hy;rcases hF.pre with e|⟨x,hx,he⟩
     ·rw[e]at hy;exact a1 y hy hy3
     ·have hpos:r.from'≠0:=λe=>by
       rw[e]at hx hy;have hx:l[0]?=some x:=hx;rw[hx]at hy;obtain rfl:=iG hy;unfold Rw.ends at he;rw[hy3]at he;cases he
      unfold Rw.ends at he;exact(a2 (r.from'-1) x y hx (by rw[show r.from'-1+1=r.from' by omega];exact hy)).tab (by simp at he;omega) hy3
    ·obtain⟨x,hx⟩:∃x,l[r.from'+i-1]?=some x:=⟨_,fu dS⟩
     have aa:=a2 (r.from'+i-1) x y hx (by rw[show r.from'+i-1+1=r.from'+i by omega];exact hy);obtain⟨g1,g2⟩:=row_in hF (j:=r.from'+i-1) dS dS hx;have hnc:cnt (raw l (r.from'+i-1))=false:=by
      have:=kP (λj=>!cnt (raw l j)) (r.bu-r.from') r.from' (r.from'+i-1) dS (by unfold Ps.lo at hi;omega)
      simpa using this
     rw[Ps.lu hx]at hnc;unfold cnt at hnc;simp at hnc;have h4:x.1≠4:=λe=>by have:=aa.four e;omega
     have ae:x.1≠3:=λe=>aa.three e hy3
     exact aa.tab dS hy3
   have hft:y.2.1<y.2.2:=by
    have:=(ht.le _ y hy).2;exact this
   have e1:kW l (r.from'+i)=y.2.1:=by unfold kW;rw[hy]
   have e2:too l (r.from'+i)=y.2.2:=by unfold too;rw[hy]
   rw[e1,e2];unfold Ps.part;rw[U9];refine gW (i:=0) ?_;rw[tu dS,sW,oW];exact hb
  ·rw[dW h3,dW (λh=>h3 h.1)]
 ·rfl
theorem acK(b:List Nat):jA b (Sc.tokens b)=Ps.jA b (Sc.tokens b):=by
 unfold jA Ps.jA;rw[Av _ (λr hr=>afW b r hr)]
end Pr
namespace Pr
open Ar Fl
open Rw (R E)
open Ps (lo)
structure pP(q:QS):Prop where
 pos:0<q.s.t.length
 lv:∀v∈q.st,v.node<q.s.t.length/\v.cur<q.s.t.length
theorem KN{v:Lv}{n:Nat}(h:v.node<n/\v.cur<n):free v<n:=by unfold free;split<;>omega
theorem pP.free{q:QS}(h:pP q):mV q.st<q.s.t.length:=by
 cases hs:q.st with
 |nil=>exact h.pos
 |cons v r=>exact KN (h.lv v yP)
theorem rG(l:List Tk)(s:St)(up code a b:Nat):s.t.length<=(fault l s up code a b).t.length/\(fault l s up code a b).t.length<=s.t.length+1/\(fault l s up code a b).d.length<=s.d.length+1:=by
 unfold fault;dsimp only;split
 ·refine⟨?_,?_,?_⟩
  ·show _<=(add _ _ _ _ _).length;rw[jG];omega
  ·show(add _ _ _ _ _).length<=_;rw[jG];omega
  ·show(s.d++[_]).length<=_;simp
 ·omega
theorem pP.more{q:QS}(h:pP q){s:St}(hs:q.s.t.length<=s.t.length):pP {q with s:=s}:=
 ⟨zx h.pos hs,λv hv=>by have:=h.lv v hv;exact⟨by show v.node<s.t.length;omega,by show v.cur<s.t.length;omega⟩⟩
theorem mr{q:QS}(h:pP q)(i:Nat):pP (fA q i)/\q.s.t.length<=(fA q i).s.t.length/\(fA q i).s.t.length<=q.s.t.length+1/\(fA q i).s.d=q.s.d/\∃v r,(fA q i).st=v::r:=by
 unfold fA;cases hs:q.st with
 |nil=>
  dsimp only;refine⟨⟨Jk,λv hv=>?_⟩,Jk,Jk,rfl,_,_,rfl⟩;obtain rfl:=tF.1 hv;dsimp only;rw[jG];omega
 |cons v r=>exact⟨h,eO _,(by show q.s.t.length<=q.s.t.length+1;omega),rfl,v,r,hs⟩
theorem Oo(q:QS)(i:Nat):(fA q i).st.length<=q.st.length+1:=by
 unfold fA;cases hs:q.st with
 |nil=>dsimp only;simp
 |cons v r=>show q.st.length<=_;rw[hs];omega
theorem Nb(l:List Tk)(s:St)(h:Lv)(e:E):s.t.length+1<=(enter l s h e).1.t.length/\(enter l s h e).1.t.length<=s.t.length+2/\(enter l s h e).1.d=s.d/\(enter l s h e).2.node=h.node/\(enter l s h e).2.cur=s.t.length:=by
 have hk:∀(t:List Nd)(i:Nat),(keyed t (i:Int)).length=t.length:=λt i=>JN
 unfold enter;split
 ·refine⟨?_,?_,rfl,rfl,rfl⟩<;>(show _;dsimp only;rw[jG];omega)
 ·split
  ·refine⟨?_,?_,rfl,rfl,rfl⟩<;>(dsimp only;rw[jG];omega)
  ·refine⟨?_,?_,rfl,rfl,rfl⟩<;>(dsimp only;rw[jG,hk,jG];omega)
theorem Nc(depth n:Nat)(e:E):∀st:List Lv,∀v∈(nS depth n e st).2,v∈st
 |[],v,hv=>by cases hv
 |h::r,v,hv=>by
  rw[nS]at hv;split at hv
  ·exact hv
  split at hv
  ·exact LD _ (Nc depth n e r v hv)
  split at hv
  ·cases hv
  split at hv
  ·cases hv
  split at hv
  ·cases hv
  split at hv<;>cases hv
theorem rz{q:QS}(h:pP q)(l:List Tk)(depth:Nat)(e:E):pP (place l depth q e).2/\q.s.t.length<=(place l depth q e).2.s.t.length/\(place l depth q e).2.s.t.length<=q.s.t.length+3/\(place l depth q e).2.s.d=q.s.d/\(place l depth q e).2.row=q.row/\(place l depth q e).2.en=q.en:=by
 unfold place;obtain⟨k,hk⟩:=eu (nS depth q.st.length e q.st);have hsub:=Nc depth q.st.length e q.st;rw[hk]at hsub⊢;have stay:pP q/\q.s.t.length<=q.s.t.length/\q.s.t.length<=q.s.t.length+3/\q.s.d=q.s.d/\q.row=q.row/\q.en=q.en:=⟨h,eO _,dS,rfl,rfl,rfl⟩
 obtain⟨code,st⟩:=k
 match code,st with
 |0,[]=>exact stay
 |0,v::r=>
  show pP (again l q e v r)/\_;obtain⟨e1,e2,e3,e4,e5⟩:=Nb l q.s v e;refine⟨⟨by show 0<(enter l q.s v e).1.t.length;omega,λx hx=>?_⟩,by show _<=(enter l q.s v e).1.t.length;omega,by show(enter l q.s v e).1.t.length<=_;omega,e3,rfl,rfl⟩;show x.node<(enter l q.s v e).1.t.length/\x.cur<(enter l q.s v e).1.t.length
  rcases kY.1 hx with rfl|hx
  ·have:=h.lv v (hsub v eG);omega
  ·have:=h.lv x (hsub x qT);omega
 |1,st=>
  show pP (match q.st with|h::r=>(0,fresh l q e h r)|[]=>(0,q)).2/\_;cases hs:q.st with
  |nil=>
   have:act l q e (1,st)=(0,q):=by
    show(match q.st with|h::r=>(0,fresh l q e h r)|[]=>(0,q))=_;rw[hs]
   rw[this];exact stay
  |cons v r=>
   have:act l q e (1,st)=(0,fresh l q e v r):=by
    show(match q.st with|h::r=>(0,fresh l q e h r)|[]=>(0,q))=_;rw[hs]
   rw[this];obtain⟨e1,e2,e3,e4,e5⟩:=Nb l ⟨add q.s.t v.cur (Ps.kindOf e) e.from' e.bu,q.s.d⟩ ⟨Ps.kindOf e,q.s.t.length,e.eT,0,false⟩ e;dsimp only at e1 e2 e3 e4 e5;rw[jG]at e1 e2 e5;unfold fresh;dsimp only;refine⟨⟨l6,λx hx=>?_⟩,dS,dS,e3,rfl,rfl⟩;dsimp only at hx⊢;rcases kY.1 hx with rfl|hx
   ·omega
   rcases kY.1 hx with rfl|hx
   ·have:=h.lv v yP;dsimp only;omega
   ·have:=h.lv x (by rw[hs];simp[hx]);omega
 |code+2,st=>exact stay
theorem uF(l:List Tk)(en d i n:Nat)(hi:i<=en)(he:en<=n)(hn:n<=32768):(gP l en d 0 i ⟨fU n,[]⟩).2.2.t.length<=1+2*n/\(gP l en d 0 i ⟨fU n,[]⟩).2.2.d.length<=n/\(gP l en d 0 i ⟨fU n,[]⟩).2.1<=en/\
 ((gP l en d 0 i ⟨fU n,[]⟩).1=-1\/((gP l en d 0 i ⟨fU n,[]⟩).1=1/\1<(gP l en d 0 i ⟨fU n,[]⟩).2.2.t.length)):=by
 obtain⟨hck,hf⟩:=uE n i hn;have h0:=uj (l:=l) (n:=(n:Int)) dS d i _ hck hf dS hi;have hp:=wM (l:=l) (e:=en) d (-1) i ⟨[],[]⟩ hi dS Jp;rw[show(0:Int)=((0:Nat):Int)from rfl];rcases h0 with⟨b1,b2⟩|⟨next,s',ps',b1,b2,b3,b4,b5,b6,b7,b8,b9,b10,_⟩
 ·rw[b1];exact⟨by show(fU (n:Int)).length<=_;show 1<=_;omega,fP _,hi,.inl rfl⟩
 ·rw[b1];rw[b2]at hp;have hl:(fU (n:Int)).length=1:=rfl;rw[hl]at b9 b10;refine⟨l6,?_,b4,.inr ⟨rfl,l6⟩⟩;dsimp only;rw[b6];rcases hp with⟨e1,_⟩|⟨nx,s1,e1,_,e3,_,g,_⟩
  ·have:=congrArg Prod.fst e1;dsimp only at this;omega
  ·obtain⟨rfl,rfl⟩:=LK e1;have:=g.dl;have h0:([]:List Dg).length=0:=rfl;dsimp only at this;omega
theorem Ia(t:List Nd)(up:Nat)(q:List Nd):(rX t up q).length=t.length+q.length:=by
 cases q with
 |nil=>rfl
 |cons v r=>unfold rX;rw[iK,pX,jL]
theorem mh{q:QS}(h:pP q)(l:List Tk)(rs:List R)(depth i:Nat)(hi:i<=q.en)(he:q.en<=l.length)(hl:l.length<=32768):pP (value l rs depth q i)/\(value l rs depth q i).s.t.length<=q.s.t.length+70000/\(value l rs depth q i).s.d.length<=q.s.d.length+70000/\(value l rs depth q i).en=q.en:=by
 unfold value;cases hs:q.st with
 |nil=>exact⟨h,Qa,(by show q.s.d.length<=_;omega),rfl⟩
 |cons v r=>
  dsimp only;obtain⟨v1,v2,v3,v4⟩:=uF l q.en (depth-r.length) i l.length hi he hl;obtain⟨V,hV⟩:=eu (gP l q.en (depth-r.length) 0 i ⟨fU l.length,[]⟩);rw[hV]at v1 v2 v3 v4⊢;obtain⟨g,hg⟩:=eu ((if V.1=-1 then q.s.t else rX q.s.t v.cur (V.2.2.t.drop V.1.toNat)));have hg1:q.s.t.length<=g.length/\g.length<=q.s.t.length+65537:=by
   rw[<-hg];split
   ·omega
   ·rw[Ia,ky];omega
  rw[hg];obtain⟨f1,f2,f3⟩:=rG l ⟨g,q.s.d++V.2.2.d⟩ v.cur 8 V.2.1 (uM rs (skip rs q.row V.2.1));dsimp only at f1 f2 f3;rw[iK]at f3;refine⟨⟨by dsimp only;have:=h.pos;omega,λx hx=>?_⟩,dS,dS,rfl⟩;dsimp only at hx⊢;rcases kY.1 hx with rfl|hx
  ·have:=h.lv v yP;dsimp only;omega
  ·have:=h.lv x (by rw[hs];simp[hx]);omega
end Pr
section
open Go.RowKit
open Sq
open Ar
theorem fF.boxed{w0 w1 w2:World}{rb bx:Nat}{c:Ctx}{q:Pr.QS}{lv:Value}{R R':Nat->Prop}{C:Array Value}{T:TypeId}{fr:Nat×Nat}(hS:fF w0 w1 rb c q lv R)(hF:FP w1 w2 rb R R')(hb:w1.heap[bx]?=some (.cells C T fr))
 (h0:58≠T) (h1:3≠T) (h2:38≠T) (h3:40≠T) (h4:91≠T):w2.heap[bx]?=some (.cells C T fr):=by
 refine(hF.block bx (gK hb) (λe=>?_) (hS.off hb h1 h2 h3 h4)).trans hb;obtain⟨nv,dv,L,hM,_⟩:=hS;rw[e,hM.box]at hb;injection hb with hb
 injection hb with _ h5
 exact h0 h5
theorem ajj(w0 w:World)(rb:Nat)(c:Ctx)(q:Pr.QS)(lv:Value)(R:Nat->Prop)(r:Rw.R)(hS:fF w0 w rb c q lv R)(hq:Pr.pP q)(hr1:r.from'<=r.bu)(hr2:r.bu<=c.l.length)(hn:q.s.t.length<=800000000000)(hd:q.s.d.length<=800000000000)(hls:q.st.length<=900000):
 Calls prog 41 #[RP rb,Vj r] w (tV w0 w rb c R (.tuple #[]) (Pr.kE c.l q r)):=by
 obtain⟨kd,F,T,eT⟩:=r;dsimp only at hr1 hr2;obtain⟨Q,hQ⟩:=eu (tV w0 w rb c R (.tuple #[]) (Pr.kE c.l q ⟨kd,F,T,eT⟩));rw[hQ];unfold Pr.kE at hQ;dsimp only at hQ;obtain⟨wb,hwb⟩:=eu (w.alloc (.cells #[.int .i64 (kd:Int),.int .i64 (F:Int),.int .i64 (T:Int),.int .i64 eT] 61));obtain⟨bx,hbx⟩:=eu (w.heap.size);have hbw:Below w.heap.size w wb:=hwb▸dZ w _;have kb:wb.heap[bx]?=some (.cells #[.int .i64 (kd:Int),.int .i64 (F:Int),.int .i64 (T:Int),.int .i64 eT] 61 (0,0)):=Qb
 have hSb:=hS.below hbw;obtain⟨k1,k2,k3⟩:=hSb.tok;have HC:=dY (Aa rb c.tv c.l F T wb k1 k2 hr1 hr2 k3);have hge:=Ps.kF c.l F T;obtain⟨x,hx⟩:=eu (Ps.lo c.l F T);rw[hx]at HC hge hQ;have x1:wb.cell? ⟨bx,1,none⟩=some (.int .i64 (F:Int)):=fq kb 1;have x2:wb.cell? ⟨bx,2,none⟩=some (.int .i64 (T:Int)):=fq kb 2;obtain⟨aa,tO⟩:=fw hwb hbx;have ae:FP w wb rb R R:=FP.below hbw;by_cases hlt:x<T
 ·rw[dX hlt]at hQ;have hO:=EU w0 wb rb c q lv R x hSb hq.pos dS dS;obtain⟨o1,o2,o3,o4,v,tl,o5⟩:=Pr.mr hq x;have af:tl.length<=1000000:=by
   have:=Pr.Oo q x;rw[o5]at this;simp at this;omega
  obtain⟨q2,hq2⟩:=eu (Pr.fA q x);rw[hq2]at hO o1 o2 o3 o4 o5 hQ;have hfree:Pr.mV q2.st=Pr.free v:=by rw[o5];rfl
  rw[hfree]at hQ;have hfl:=o1.free;rw[hfree]at hfl;obtain⟨HO,ai,aj,ak,av,ax⟩:=kG hO kb hSb ae o5 hfl;have ay:=dY (show q2.s.t.length<=900000000000 by omega);have az:=dY (show q2.s.d.length<=1000000000000 by rw[o4];omega);have aA:=dY (show x<=T by omega);obtain⟨aB,yo,xn⟩:=je hr2 af hQ;have gx:(x:Int)<(T:Int):=dS
  clear hwb hbx hbw kb hSb hS k1 k2 k3 hx hge ae hQ hq hO o1 o2 o3 o4 o5 hq2 hfree hfl af hlt hr1 hr2 hn hd hls
  go_enter func41,ntmps41
  go_upto_region 1 with fail
  rw[aa.out,tO.out];clear aa tO;go_wp2_with fail
  refine HC.out.mono ?_;rintro e w1 ⟨rfl,rfl⟩;go_wp2_with fail
  refine HO.out.mono ?_;rintro e w2 ⟨rfl,ag,R2,hS2,hF2⟩;have aC:=aj.out.boxed hF2 ai.out dU dU dU dU dU;have x2:w2.cell? ⟨bx,2,none⟩=some (.int .i64 (T:Int)):=fq aC 2;obtain⟨gl,cap,hlv,hfz,hcl,c8,-⟩:=hS2.top av.out;have rM:=dY (za w2.drew rb gl tl.length cap (eP c8) yo.out);have aD:=dY (λW (hW:Below w2.heap.size w2 W)=>Yl W gl (tl.length*5) v (λj u hu=>eB hW (hcl j u hu)));have yM:=dY (λW (hW:Below w2.heap.size w2 W)=>Bj w0 W rb c q2 ag R2 (Pr.free v) 8 x T (hS2.below hW) ax.out aA.out aB.out ay.out az.out)
  have HQ:=dY (λw7 R7 (ah:Nat)(h1:fF w0 w7 rb c {q2 with s:=Pr.fault c.l q2.s (Pr.free v) 8 x T} ag R7)(h2:FP (w2.drewN ah) w7 rb R2 R7)=>show Q (.returned (.tuple #[])) w7 by
   rw[<-xn.out]
   exact⟨rfl,ag,R7,h1,ak.out.trans (hF2.trans ((FP.below (X4 (fD _ w2) ah)).trans h2))⟩)
  clear hS2 hF2 aC hlv hfz hcl c8 HO HC aj ai ak xn ax aA aB ay az yo av;go_upto_region 4 with fail
  refine fO (λwx=>wx.cell? ⟨bx,2,none⟩=some (.int .i64 (T:Int))) 7 dV ?_;have hH:(λwx:World=>wx.cell? ⟨bx,2,none⟩=some (.int .i64 (T:Int))) w2.drew:=eP x2;refine iE 0 (.pointer (some ⟨rb,0,none⟩)) hH ?_;refine gZ 1 (.pointer (some ⟨rb,0,none⟩)) (λ_=>hH) ?_;refine iE 4 (.int .i64 (x:Int)) hH ?_;refine gZ 5 (.pointer (some ⟨bx,2,none⟩)) (λ_=>hH) ?_;refine iE 6 (.int .i64 (T:Int)) hH ?_;refine mY 2 λK hK=>?_
  go_simp;refine rM.out.mono ?_;rintro e w5 ⟨rfl,ah,rfl⟩;refine hK.out _ _ (λ_=>hH) (λhH2=>?_);clear hK K;replace hH:=hH2 dV;clear hH2;try simp only[Act.put,fG,fB,fC]
  refine mY 3 λK hK=>?_
  go_simp;refine(aD.out _ (X4 (fD _ _) _)).mono ?_;rintro e w6 ⟨rfl,rfl⟩;refine hK.out _ _ (λ_=>hH) (λhH2=>?_);clear hK K;replace hH:=hH2 dV;clear hH2;try simp only[Act.put,fG,fB,fC]
  refine mY 7 λK hK=>?_
  go_simp;refine(yM.out _ (X4 (fD _ _) _)).mono ?_;rintro e w7 ⟨rfl,R7,hS7,hF7⟩;have HD:=dY (HQ.out w7 R7 _ hS7 hF7);clear hS7 hF7;refine hK.out _ _ lh (λ_=>?_);clear hK K;try simp only[Act.put,fG,fB,fC]
  refine fJ dV ?_ _;try go_end0
  exact HD.out
 ·rw[dW hlt]at hQ;have HD:=dY (show Q (.returned (.tuple #[])) wb by rw[<-hQ];exact⟨rfl,lv,R,hSb,ae⟩);have gx:¬(x:Int)<(T:Int):=by omega
  clear hwb hbx hbw kb hSb hS k1 k2 k3 hx hge ae hQ hq hlt hr1 hr2 hn hd hls
  go_enter func41,ntmps41
  go_upto_region 1 with fail
  rw[aa.out,tO.out];clear aa tO;go_wp2_with fail
  refine HC.out.mono ?_;rintro e w1 ⟨rfl,rfl⟩;go_wp2_with fail
  exact sP
end
end Go.Proofs.YtmkkdjpebbdikaaGreatDoor

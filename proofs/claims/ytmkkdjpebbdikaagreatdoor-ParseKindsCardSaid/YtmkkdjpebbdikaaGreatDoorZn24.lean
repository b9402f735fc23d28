import Derived.Test.YtmkkdjpebbdikaaGreatDoorZn21
import Derived.Test.YtmkkdjpebbdikaaGreatDoorZn22
set_option linter.all false
set_option maxHeartbeats 16000000
set_option maxRecDepth 100000
namespace Go.Proofs.YtmkkdjpebbdikaaGreatDoor
open Go.RowKit Go.Proofs.Tryz
section
open Go.RowKit
open Sq
open Ar
section
variable {w w':World}{B:Nat}{v:Value}{P L:List Ln}
theorem VT.set{g n cap:Nat}(h:VT w B (.slice (some ⟨g,0,none⟩) n cap) P L)(i j:Nat)(p:Ln)(nd:Nd)(u:Value)(hp:L[i]?=some p)(hks:nd.ks=p.nd.ks)(hc:lN {p with nd:=nd}=(lN p).set j u)(hj:j<6):
 VT (w.setCell ⟨g,(P.length+i)*6+j,none⟩ u) B (.slice (some ⟨g,0,none⟩) n cap) P (L.set i {p with nd:=nd}):=by
 have key:∀(a:Nat)(q:Ln),(L.set i {p with nd:=nd})[a]?=some q->∃q',L[a]?=some q'/\q.val=q'.val/\q.nd.ks=q'.nd.ks:=by
  intro a q hq;rw[nW]at hq;split at hq
  ·rename_i e;subst e;split at hq
   ·injection hq with hq;subst hq
    exact⟨p,hp,rfl,hks⟩
   cases hq
  exact⟨q,hq,rfl,rfl⟩
 have hp2:(P++L)[P.length+i]?=some p:=by rw[oM (by omega),BB];exact hp
 have hst:(P++L).set (P.length+i) {p with nd:=nd}=P++L.set i {p with nd:=nd}:=by
  rw[Ht _ _ (by omega),BB]
 refine⟨?_,λa q hq=>?_,λa b q r hab hq hr g' hg'=>?_⟩
 ·rw[<-hst];exact rX (E:=gP) h.row (P.length+i) j p _ u hp2 hc hj
 ·obtain⟨q',h1,h2,h3⟩:=key a q hq;rw[h2,h3];exact xO (h.kids a q' h1) (fH h.row (h.kids a q' h1) (by decide) g rfl) u
 obtain⟨q',h1,h2,_⟩:=key a q hq;obtain⟨r',h4,h5,_⟩:=key b r hr;rw[h2]at hg';rw[h5];exact h.apart a b q' r' hab h1 h4 g' hg'
theorem VT.Iy{kg kn kc:Nat}(h:VT w B v P L)(i j:Nat)(p:Ln)(hp:L[i]?=some p)(hv:p.val=.slice (some ⟨kg,0,none⟩) kn kc)(z z':Int)(hz:p.nd.ks[j]?=some z):
 VT (w.setCell ⟨kg,j,none⟩ (.int .i64 z')) B v P (L.set i {p with nd:={p.nd with ks:=p.nd.ks.set j z' }}):=by
 have hpk:=h.kids i p hp;rw[hv]at hpk;have hset:=rX (E:=encI) hpk j 0 z z' (.int .i64 z') hz rfl (by decide);have hj0:j*encI.k+0=j:=by show j*1+0=j;omega
 rw[hj0]at hset;have gen:∀(L:List Ln)(i:Nat),L[i]?=some p->gP.all (L.set i {p with nd:={p.nd with ks:=p.nd.ks.set j z' }})=gP.all L:=by
  intro L
  induction L with
  |nil=>intro i h;simp at h
  |cons q r ih=>
   intro i h;cases i with
   |zero=>
    obtain rfl:q=p:=by simpa using h
    rfl
   |succ i=>
    show gP.all (q::r.set i _)=_;rw[mr.all,mr.all,ih i (by simpa using h)]
 have hp2:(P++L)[P.length+i]?=some p:=by rw[oM (by omega),BB];exact hp
 have hall:gP.all (P++L.set i {p with nd:={p.nd with ks:=p.nd.ks.set j z' }})=gP.all (P++L):=by
  have h1:=gen (P++L) (P.length+i) hp2;rw[Ht _ _ (by omega),BB]at h1;exact h1
 refine⟨?_,λa q hq=>?_,λa b q r hab hq hr g hg=>?_⟩
 ·rw[hall,iJ,lT,<-iJ];exact xO h.row (λe=>fH hpk h.row (by decide) kg rfl e) _
 ·rw[nW]at hq;split at hq
  ·split at hq
   ·injection hq with hq
    subst hq;show World.ownsRow _ _ _ _ p.val (p.nd.ks.set j z').length (encI.all (p.nd.ks.set j z'));rw[hv];exact hset
   cases hq
  rename_i hne;exact xO (h.kids a q hq) (λe=>h.apart a i q p (λe=>hne e.symm) hq hp kg e (by rw[hv];rfl)) _
 have key:∀(a:Nat)(q:Ln),(L.set i {p with nd:={p.nd with ks:=p.nd.ks.set j z' }})[a]?=some q->∃q',L[a]?=some q'/\q.val=q'.val:=by
  intro a q hq;rw[nW]at hq;split at hq
  ·rename_i e;split at hq
   ·injection hq with hq
    subst hq;exact⟨p,e▸hp,rfl⟩
   cases hq
  exact⟨q,hq,rfl⟩
 obtain⟨q',h1,h2⟩:=key a q hq;obtain⟨r',h3,h4⟩:=key b r hr;rw[h2]at hg;rw[h4];exact h.apart a b q' r' hab h1 h3 g hg
theorem VT.reads{g n cap:Nat}(h:VT w B (.slice (some ⟨g,0,none⟩) (n+1) cap) P L)(hP:P.length=1)(hn:0<n):L.length=n/\n+1<=cap/\cap<=maxLen/\Reads gP w (.slice (some ⟨g,6,none⟩) n (cap-1)) L:=by
 have hlen:=rY h.row;have hl:L.length=n:=by have:=hlen.1;rw[iJ]at this;omega
 have hr:=Reads.fJ (E:=gP) h.row;rw[hlen.1]at hr;rw[<-hlen.1]at hr;have hr2:Reads gP w (.slice (some ⟨g,0,none⟩) (P++L).length cap) (P++L):=by rw[<-hlen.1];exact hr
 have hc:=uW (E:=gP) (lo:=1) (hi:=(P++L).length) hr2 (by rw[iJ];omega) (fB _);rw[eX (by have:=hlen.2.1;omega)]at hc;have e1:((P++L).drop 1).take ((P++L).length-1)=L:=by
  rw[xK (by rw[iT];exact fB _),<-hP,List.drop_left]
 have e2:(P++L).length-1=n:=by rw[iJ];omega
 rw[e1,e2]at hc;exact⟨hl,hlen.2.1,hlen.2.2,hc⟩
end
structure GL(w0 w1 wr:World)(rb:Nat)(c:Ctx)(nv dv lv:Value)(row en:Nat)(L:List Ln)(D:List Fl.Dg)(V:List Pr.Lv)(B gx n cx:Nat)(VR:Nat->Prop)(P LL:List Ln):Prop where
 pm:PM w0 wr rb c nv dv lv row en L D V
 vt:VT wr B (.slice (some ⟨gx,0,none⟩) (n+1) cx) P LL
 keep:∀k,¬VR k->wr.heap[k]?=w1.heap[k]?
 size:wr.heap.size=w1.heap.size
section
variable {w0 w1 wr:World}{rb:Nat}{c:Ctx}{nv dv lv:Value}{row en:Nat}{L:List Ln}{D:List Fl.Dg}{V:List Pr.Lv}{B gx n cx:Nat}{VR:Nat->Prop}{P LL:List Ln}
theorem GL.Ni(h:GL w0 w1 wr rb c nv dv lv row en L D V B gx n cx VR P LL)(hP:P.length=1)(i:Nat)(p:Ln)(hp:LL[i]?=some p)(u:Int)(hv:VR gx)(hR:∀k,VR k->w0.heap.size<=k/\k≠rb/\¬jR nv dv lv L k):
 GL w0 w1 (wr.setCell ⟨gx,6+i*6+3,none⟩ (.int .i64 u)) rb c nv dv lv row en L D V B gx n cx VR P (LL.set i {p with nd:={p.nd with u:=u}}):=by
 have e:6+i*6+3=(P.length+i)*6+3:=by omega
 obtain⟨h1,h2,h3⟩:=hR gx hv;refine⟨h.pm.store h1 h2 h3 _ _,?_,λk hk=>(jf _ _ _ _ (λe=>hk (by have e:k=gx:=e;rw[e];exact hv))).trans (h.keep k hk),by rw[<-h.size];simp⟩;rw[e];exact h.vt.set i 3 p {p.nd with u:=u} _ hp rfl rfl (by decide)
theorem GL.VN(h:GL w0 w1 wr rb c nv dv lv row en L D V B gx n cx VR P LL)(i j kg kn kc:Nat)(p:Ln)(hp:LL[i]?=some p)(hv:p.val=.slice (some ⟨kg,0,none⟩) kn kc)(z z':Int)(hz:p.nd.ks[j]?=some z)(aa:VR kg)(hR:∀k,VR k->w0.heap.size<=k/\k≠rb/\¬jR nv dv lv L k):
 GL w0 w1 (wr.setCell ⟨kg,j,none⟩ (.int .i64 z')) rb c nv dv lv row en L D V B gx n cx VR P (LL.set i {p with nd:={p.nd with ks:=p.nd.ks.set j z' }}):=by
 obtain⟨h1,h2,h3⟩:=hR kg aa;exact⟨h.pm.store h1 h2 h3 _ _,h.vt.Iy i j p hp hv z z' hz,λk hk=>(jf _ _ _ _ (λe=>hk (by have e:k=kg:=e;rw[e];exact aa))).trans (h.keep k hk),by rw[<-h.size];simp⟩
theorem VT.cell{w:World}(h:VT w B (.slice (some ⟨gx,0,none⟩) (n+1) cx) P LL)(hP:P.length=1)(i:Nat)(p:Ln)(hp:LL[i]?=some p)(k:Nat)(u:Value)(hu:(lN p)[k]?=some u):w.cell? ⟨gx,6+i*6+k,none⟩=some u:=by
 have aa:k<6:=(gD.1 hu).1
 have hp2:(P++LL)[1+i]?=some p:=by rw[oM (by omega),hP,BB];exact hp
 have:=h.row.cells (g:=gx) rfl _ _ ((iO gP (P++LL) (1+i) p hp2 k aa).trans hu);rw[gQ,kU]at this;have e:(1+i)*gP.k+k=6+i*6+k:=by show(1+i)*6+k=_;omega
 rw[e]at this;exact this
theorem VT.free{w:World}(h:VT w B (.slice (some ⟨gx,0,none⟩) (n+1) cx) P LL)(hP:P.length=1)(o:Nat):w.frozen? ⟨gx,o,none⟩=false:=by
 obtain⟨g',c',hv,_,hf,_⟩:=jM (E:=gP) h.row (by rw[iJ];omega);have e:=(ll hv).1;injection e with e
 injection e with e
 rw[e];exact hf o
theorem VT.kid{w:World}{v:Value}(h:VT w B v P LL)(i:Nat)(p:Ln)(hp:LL[i]?=some p)(j:Nat)(z:Int)(hz:p.nd.ks[j]?=some z):
 ∃kg kc,p.val=.slice (some ⟨kg,0,none⟩) p.nd.ks.length kc/\w.cell? ⟨kg,j,none⟩=some (.int .i64 z)/\w.frozen? ⟨kg,j,none⟩=false:=by
 have hpk:=h.kids i p hp;have hj:=(gD.1 hz).1;obtain⟨kg,kc,hv,_,hf,_⟩:=jM (E:=encI) hpk (by omega);refine⟨kg,kc,hv,?_,hf j⟩;have:=hpk.cells (g:=kg) (by rw[hv];rfl) _ _ ((iO encI p.nd.ks j z hz 0 (by decide)).trans rfl);rw[gQ,kU]at this;have e:j*encI.k+0=j:=by show j*1+0=j;omega
 rw[e]at this;exact this
theorem QB(at':Int)(i:Nat)(L:List Ln)(q:Ln)(h:q∈lK at' i L):∃p∈L,q.val=p.val:=by
 obtain⟨k,hk⟩:=lh h;unfold lK at hk;rw[Rn]at hk;cases hl:L[k]? with
 |none=>rw[hl]at hk;cases hk
 |some p=>
  rw[hl]at hk;have hk:=jl hk;refine⟨p,iK hl,?_⟩;rw[<-hk];show(if k<i then qN at' p else p).val=p.val;split<;>rfl
end
end
section
open Go.RowKit
open Sq
open Ar
theorem WZ(w0 w:World)(rb:Nat)(c:Ctx)(q:Pr.QS)(lv:Value)(R:Nat->Prop)(up gx n cx B tt:Nat)(P LL:List Ln)(p0:Ln)(hS:fV w0 w rb c q lv R)(hup:up<q.s.t.length)(hn:q.s.t.length<=800000000000)
 (hV:VT w B (.slice (some ⟨gx,0,none⟩) (n+1) cx) P LL) (hP:P.length=1) (hp0:LL[0]?=some p0) (aT:p0.nd.t=(tt:Int)) (ai:∀k,(k=gx\/∃p∈LL,p.val.ownBlock=some k)->w0.heap.size<=k/\k≠rb/\¬R k)
 (bn:w0.heap.size<=B) (dh:n<=400000) (aB:∀(i:Nat)(p:Ln),LL[i]?=some p->p.nd.ks.length<=n+1/\(i=0\/0<=p.nd.u)/\-1<=p.nd.u/\p.nd.u<=i/\∀z∈p.nd.ks,0<=z/\z<=400000):
 Calls prog 95 #[RP rb,.int .i64 up,.slice (some ⟨gx,6,none⟩) n (cx-1)] w λe w'=>e=.returned (.tuple #[])/\∃R',fV w0 w' rb c {q with s:=⟨Pr.pY q.s.t up (LL.map Ln.nd),q.s.d⟩} lv R'/\FP w w' rb (λk=>R k\/(k=gx\/∃p∈LL,p.val.ownBlock=some k)) R':=by
 obtain⟨VR,aa⟩:∃VR:Nat->Prop,(λk=>k=gx\/∃p∈LL,p.val.ownBlock=some k)=VR:=⟨_,rfl⟩
 have aG:VR gx:=by rw[<-aa];exact .inl rfl
 have hvk:∀p∈LL,∀k,p.val.ownBlock=some k->VR k:=λp hp k hk=>by rw[<-aa];exact .inr ⟨p,hp,hk⟩
 have ai:∀k,VR k->w0.heap.size<=k/\k≠rb/\¬R k:=λk hk=>ai k (by rw[<-aa]at hk;exact hk)
 have aH:∀k,VR k->k<w.heap.size:=λk hk=>by
  rw[<-aa]at hk;refine(hV.lt (hk.elim (λe=>.inl (by rw[e];rfl)) .inr)).2
 rw[show(λk=>R k\/(k=gx\/∃p∈LL,p.val.ownBlock=some k))=(λk=>R k\/VR k)by rw[<-aa]];have aj:=(gD.1 hp0).1
 obtain⟨aI,aJ,aK,-⟩:=hV.reads hP (by
  have:=(rY hV.row).1
  rw[iJ]at this;omega)
 obtain⟨nv,dv,L,hM,hL,hTr,rfl⟩:=hS;have hLn:L.length=q.s.t.length:=by rw[<-hL,jD]
 have ak:=U4 w0 w rb c nv dv lv q.row q.en L q.s.d q.st.reverse up tt hM (by omega) (by rw[hL];exact hTr.up) (λp hp=>by
  have:=hTr.kb p.nd (by rw[<-hL];exact Ru hp);omega) (by omega)
 rw[hL]at ak;have aL:Tr (Pr.hold q.s.t up tt++Fl.shift (up:Int) (q.s.t.length-1) (LL.map Ln.nd)):=by
  refine hTr.more (up:=up) ⟨λi x hx=>?_,λx hx=>?_⟩ (by rw[Fl.jC,jD];omega)
  ·have hil:=(gD.1 hx).1;rw[Fl.jC,jD]at hil;obtain⟨p,hp⟩:=jB LL i hil;rw[Fl.lW _ _ _ _ p.nd (by rw[lS,hp];rfl)]at hx;injection hx with hx
   subst hx;obtain⟨_,h2,h3,h4,_⟩:=aB i p hp;dsimp only;split
   ·omega
   rename_i h;rcases h2 with h2|h2
   ·exact absurd h2 h
   omega
  obtain⟨i,hx⟩:=lh hx;have hil:=(gD.1 hx).1;rw[Fl.jC,jD]at hil;obtain⟨p,hp⟩:=jB LL i hil;rw[Fl.lW _ _ _ _ p.nd (by rw[lS,hp];rfl)]at hx;injection hx with hx
  subst hx;have:=(aB i p hp).1;dsimp only;rw[jD,Fl.jC,jD];omega
 have hgr:Pr.pY q.s.t up (LL.map Ln.nd)=Pr.hold q.s.t up tt++Fl.shift (up:Int) (q.s.t.length-1) (LL.map Ln.nd):=by
  cases bq:LL with
  |nil=>rw[bq]at aj;simp at aj
  |cons x r=>
   rw[bq]at hp0;obtain rfl:x=p0:=by simpa using hp0
   show Pr.hold q.s.t up x.nd.t++_=_;rw[aT];rfl
 obtain⟨R0,hR0⟩:=fq (jR nv dv lv L);rw[hR0]at ak ai⊢;obtain⟨Q,hQ⟩:=fq ((λe w'=>e=Ending.returned (.tuple #[])/\∃R',fV w0 w' rb c {q with s:=⟨Pr.pY q.s.t up (LL.map Ln.nd),q.s.d⟩} lv R'/\FP w w' rb (λk=>R0 k\/VR k) R'));rw[hQ];have bz:∀(W:World)(aU:Value)(L':List Ln),PM w0 W rb c aU dv lv q.row q.en L' q.s.d q.st.reverse->L'.map Ln.nd=Pr.hold q.s.t up tt++Fl.shift (up:Int) (q.s.t.length-1) (LL.map Ln.nd)->FP w W rb (λk=>R0 k\/VR k) (jR aU dv lv L')->Q (.returned (.tuple #[])) W:=λW aU L' h1 h2 h3=>by
  rw[<-hQ];exact⟨rfl,_,⟨_,_,L',h1,by rw[hgr];exact h2,by rw[hgr];exact aL,rfl⟩,h3⟩
 have HQ:=eZ bz;have v2:w.cell? ⟨gx,8,none⟩=some (.int .i64 (tt:Int)):=by
  have:=hV.cell hP 0 p0 hp0 2 _ rfl;rw[aT]at this;exact this
 obtain⟨N,hN⟩:=fq (q.s.t.length);rw[hN]at hn hup HQ;rw[hLn,hN]at ak;obtain⟨M,bA⟩:=fq (N-1);rw[bA]at HQ;have hNM:(N:Int)-1=(M:Int):=by omega
 have cO:N=M+1:=by omega
 obtain⟨bR,bS,bB,HV,aV,aM⟩:=kJ hN bn ak hV ai aH;obtain⟨aC,bT,aW,av,ae⟩:=sP hvk aB hp0 aI hP;have di:=eZ (show n+1<=cx/\cx<=maxLen from⟨aJ,aK⟩);have aX:=eZ aG;have hNs:M<=800000000000:=by omega
 have hn0:0<n:=by omega
 have dm:(0:Int)<(n:Int):=by omega
 clear ak hV ai aH hvk aB hp0 aI hP aG hM hL hLn hTr aL hgr hQ bz bn aa aT aj hN bA hup hn aJ aK hR0
 go_enter func95,ntmps95
 go_wp2_with fail
 refine bB.out.mono ?_;rintro e w1 ⟨rfl,L1,hM1,hL1,hF1⟩
 have hV1:VT w1 B (.slice (some ⟨gx,0,none⟩) (n+1) cx) P LL:=HV.out.same (λg hg=>by
  have hv:VR g:=hg.elim (λe=>by have e:gx=g:=jl e;rw[<-e];exact aX.out) (fun⟨p,hp,e⟩=>aC.out p hp g e);obtain⟨h1,h2,h3⟩:=aV.out g hv
  exact hF1.block g (aM.out g hv) h2 h3)
 have bC:∀k,VR k->w0.heap.size<=k/\k≠rb/\¬jR nv dv lv L1 k:=λk hk=>by
  obtain⟨h1,h2,h3⟩:=aV.out k hk;refine⟨h1,h2,λh=>?_⟩;rcases hF1.rows k h with h|h
  ·exact h3 h
  have:=aM.out k hk;omega
 have bD:=eZ (show GL w0 w1 w1 rb c nv dv lv q.row q.en L1 q.s.d q.st.reverse B gx n cx VR P LL from⟨hM1,hV1,λ_ _=>rfl,rfl⟩);obtain⟨HR1,bU,bE⟩:=jF bC hF1 hL1;have dn:wrap64 ((N:Int)-1)=(M:Int):=by rw[hNM];exact uF _ (by omega)
 clear hV1 bC hM1 hL1 hF1 bB HV aV v2;go_wp2_with fail
 go_loopw [19] (λiv wr=>∃i:Nat,iv=.int .i64 i/\i<=n/\Hid (GL w0 w1 wr rb c nv dv lv q.row q.en L1 q.s.d q.st.reverse B gx n cx VR P (lK (M:Int) i LL))) (λiv _=>n-(intOf iv).toNat)
 case atStart=>exact⟨0,rfl,ic _,by rw[CS];exact bD⟩
 case round=>
  obtain⟨i,rfl,hi,HP⟩:=hrel;by_cases hlt:i<n
  ·obtain⟨p,hp⟩:=jB LL i (by rw[av.out];exact hlt);have hpt:=ql (M:Int) i LL i p hp;rw[eX (sO _)]at hpt;have hpm:=iK hp;obtain⟨hkn,-,hu1,hu2,hzb⟩:=bT.out i p hp;have c3:=HP.out.vt.cell ae.out i p hpt 3 _ rfl;have f3:=HP.out.vt.free ae.out (6+i*6+3);have hP2:=HP.out.Ni ae.out i p hpt (p.nd.u+(M:Int)) aX.out HR1.out;obtain⟨w5,aD⟩:=fq (wr.setCell ⟨gx,6+i*6+3,none⟩ (.int .i64 (p.nd.u+(M:Int))));rw[aD]at hP2;have hil:i<(lK (M:Int) i LL).length:=by rw[kM,av.out];exact hlt
   have hmz:({p with nd:={p.nd with u:=p.nd.u+(M:Int)}}:Ln)=mY (M:Int) 0 p:=(mid_zero _ _).symm;rw[hmz]at hP2;obtain⟨ka,kc,aF⟩:=(Reads.fJ (E:=encI) (HP.out.vt.kids i p hpt)).shape;obtain⟨kn,ax⟩:=fq (p.nd.ks.length);rw[ax]at aF hkn;have c4:w5.cell? ⟨gx,6+i*6+4,none⟩=some (.slice ka kn kc):=by
    have:=hP2.vt.cell ae.out i (mY (M:Int) 0 p) (wu hil) 4 _ rfl;rw[<-aF];exact this
   have gi:(i:Int)<(n:Int):=by omega
   obtain⟨U,hU⟩:=fq (p.nd.u);rw[hU]at c3 hu1 hu2 aD;have gw:wrap64 (U+(M:Int))=U+(M:Int):=uF _ (by omega);obtain⟨af,bF,HP,aY,aZ,bV⟩:=kJ hP2 aD hp aF ax hzb;have bW:=eZ hpm;clear hP2 aD hp hpt aF ax hzb hpm hmz hU;go_upto_region 5 with fail
   rw[bF.out];clear bF c3 f3;go_wp2_with fail
   rename World=>wq
   go_loopw [37] (λjv ws=>∃j:Nat,jv=.int .i64 j/\j<=kn/\Hid (GL w0 w1 ws rb c nv dv lv q.row q.en L1 q.s.d q.st.reverse B gx n cx VR P ((lK (M:Int) i LL).set i (mY (M:Int) j p)))) (λjv _=>kn-(intOf jv).toNat)
   case atStart=>exact⟨0,rfl,ic _,af⟩
   case round=>
    obtain⟨j,rfl,hj,ah⟩:=hrel;have ay:i<(lK (M:Int) i LL).length:=by rw[kM,av.out];exact hlt
    have hget:((lK (M:Int) i LL).set i (mY (M:Int) j p))[i]?=some (mY (M:Int) j p):=wu ay;by_cases hjl:j<kn
    ·obtain⟨z,hz⟩:=jB p.nd.ks j (by rw[aZ.out];exact hjl);obtain⟨kg,bG,hv',ck,fk⟩:=ah.out.vt.kid i (mY (M:Int) j p) hget j z (zq _ _ _ _ hz);have hv2:p.val=.slice (some ⟨kg,0,none⟩) (mY (M:Int) j p).nd.ks.length bG:=hv';rw[Kj,aZ.out,aY.out]at hv2;obtain⟨e1,-,-⟩:=ll hv2;subst e1;have hz2:=bV.out z (iK hz);have bH:=ah.out.vt.cell ae.out i _ hget 4 _ rfl;have dw:wr.cell? ⟨gx,6+i*6+4,none⟩=some (.slice (some ⟨kg,0,none⟩) kn kc):=by rw[<-aY.out];exact bH
     have hP3:=ah.out.VN i j kg _ bG (mY (M:Int) j p) hget hv' z (z+(M:Int)) (zq _ _ _ _ hz) (aC.out p bW.out kg (by rw[aY.out];rfl)) HR1.out;rw[List.set_set,Gd _ _ _ _ hz]at hP3;have bX:=eZ hP3;have gj:(j:Int)<(kn:Int):=by omega
     have dx:wrap64 (z+(M:Int))=z+(M:Int):=uF _ (by omega);clear hv' hv2 bH hP3 hz hget ay ah;go_wp2_with fail
     go_roundw
     case rel=>exact⟨j+1,by go_num,by omega,bX⟩
     case measure=>simp[intOf];omega
    obtain rfl:j=kn:=by omega
    have hall:=Ki (M:Int) p;rw[aZ.out]at hall;have bf:=ah.out;rw[hall,CV _ _ _ _ HP.out]at bf;have bY:=eZ bf;have gj:¬(j:Int)<(j:Int):=by omega
    clear hall bf hget ay ah hjl;go_wp2_with fail
    go_roundw
    case rel=>exact⟨i+1,by go_num,by omega,bY⟩
    case measure=>simp[intOf];omega
  obtain rfl:i=n:=by omega
  have gi:¬(i:Int)<(i:Int):=by omega
  have hpt:=ql (M:Int) i LL 0 p0 aW.out;rw[eY hn0]at hpt;have c3:=HP.out.vt.cell ae.out 0 _ hpt 3 _ rfl;have f3:=HP.out.vt.free ae.out (6+0*6+3);have hP2:=HP.out.Ni ae.out 0 _ hpt (up:Int) aX.out HR1.out;have hsh:=Bj (up:Int) M LL p0 aW.out;rw[av.out]at hsh;obtain⟨L',hL'⟩:∃L',(lK (M:Int) i LL).set 0 {qN (M:Int) p0 with nd:={(qN (M:Int) p0).nd with u:=(up:Int)}}=L':=⟨_,rfl⟩
  rw[hL']at hP2 hsh;have hval:∀x∈L',∃y∈LL,x.val=y.val:=λx hx=>by
   rw[<-hL']at hx;rcases Vs hx with hx|hx
   ·exact QB _ _ _ _ hx
   exact⟨p0,iK aW.out,by rw[hx];rfl⟩
  have az:L'.length=i:=by rw[<-hL',lT,kM,av.out]
  obtain⟨w6,bg⟩:=fq (wr.setCell ⟨gx,6+0*6+3,none⟩ (.int .i64 (up:Int)));rw[bg]at hP2;have c3:wr.cell? ⟨gx,9,none⟩=some (.int .i64 (qN (M:Int) p0).nd.u):=c3;have f3:wr.frozen? ⟨gx,9,none⟩=false:=f3;have aN:wr.setCell ⟨gx,9,none⟩ (.int .i64 (up:Int))=w6:=bg;clear bg;obtain⟨-,-,-,hrd⟩:=hP2.vt.reads ae.out hn0;have c4:=Dk hP2.pm.box;have hnl:L1.length=N:=by
   have:=congrArg List.length bE.out;rw[jD,Pr.lY]at this;rw[this];exact bR.out
  obtain⟨a1,k1,bZ⟩:=(Reads.fJ (E:=gP) hP2.pm.nodes.row).shape
  have aO:=eZ (show Own w6 w0.heap.size L1 L' from⟨λa x hx=>rZ (hP2.vt.kids a x hx) bS.out,hP2.vt.apart,λx hx y hy g hg e=>by
   obtain⟨z,hz1,hz2⟩:=hval x hx
   exact(HR1.out g (aC.out z hz1 g (by rw[<-hz2];exact hg))).2.2 (.inr (.inr (.inr ⟨y,hy,e⟩)))⟩)
  obtain⟨aP,bI,af,cr,bJ,cZ⟩:=kJ hP2.pm.nodes.row hrd hP2 hsh aN hval;have cz:=eZ (show L1.length+L'.length<=maxLen by rw[hnl,az];simp only[maxLen];omega);have cB:=eZ (show(L1.length+L'.length)*64<=140737488355328 by rw[hnl,az];omega);have cK:=eZ (show w0.heap.size<=w6.heap.size from af.out.pm.size)
  have bK:=eZ (λW R' (h:FP w6 W rb (λk=>jR nv dv lv L1 k\/∃p∈L',p.val.ownBlock=some k) R')=>show FP w W rb (λk=>R0 k\/VR k) R' from by
   have hF1:=bU.out;have hsz:w6.heap.size=w1.heap.size:=af.out.size;have bL:∀k,(∃p∈L',p.val.ownBlock=some k)->VR k:=λk ⟨p,hp,e⟩=>by
    obtain⟨y,hy1,hy2⟩:=hval p hp;exact aC.out y hy1 k (by rw[<-hy2];exact e)
   refine⟨by have:=hF1.size;have:=h.size;omega,λk hk1 hk2 hk3=>?_,λk hk=>?_⟩
   ·have df:k<w1.heap.size:=wC hk1 hF1.size
    rw[h.block k (by omega) hk2 (λe=>e.elim (λe=>(hF1.rows k e).elim (λe=>hk3 (.inl e)) (λe=>absurd hk1 (RI.2 e))) (λe=>hk3 (.inr (bL k e)))),af.out.keep k (λe=>hk3 (.inr e))];exact hF1.block k hk1 hk2 (λe=>hk3 (.inl e))
   rcases h.rows k hk with e|e
   ·rcases e with e|e
    ·rcases hF1.rows k e with e|e
     ·exact .inl (.inl e)
     exact .inr e
    exact .inl (.inr (bL k e))
   exact .inr (by have:=hF1.size;omega))
  clear hP2 hsh hL' az aN hrd hpt HP bD hval hnl bZ;go_upto_region 12 with fail
  rw[bJ.out];clear bJ c3 f3;go_wp2_with (at_builtin;go_must (refine lG Hl rfl (.tmp 62) (.tmp 63) rfl w0.heap.size _ L1 rfl aP.out _ L' rfl bI.out cz.out cB.out cK.out ?_;intro v9 w9 ag bM aQ;obtain⟨a9,c9,bN⟩:=(Reads.fJ (E:=gP) ag).shape;obtain⟨n9,bO⟩:∃n9,(L1++L').length=n9:=⟨_,rfl⟩;rw[bO]at bN;clear bO;subst bN;obtain⟨aA,aR,bP⟩:=af.out.pm.push aO.out (fI _ w6) bM ag aQ;have dA:=Dk aA;have dB:w9.frozen? ⟨rb,4,none⟩=false:=nH aA 4;have aS:=eZ aR;have bQ:=eZ bP;clear ag bM aQ aA aR bP c4))
  have HD:=eZ (HQ.out _ _ _ aS.out (by rw[wy,bE.out,cr.out]) (bK.out _ _ bQ.out));clear aS bQ af aO aP bI bK;try go_end0
  exact HD.out
end
section
open Go.RowKit
open Sq
open Ar
section
variable {w w':World}{B:Nat}{v u:Value}{P L:List Ln}{T:List Nd}{k:Int}
theorem VT.low(h:VT w B v P L){B':Nat}(hB:B'<=B):VT w B' v P L:=⟨rZ h.row hB,λi p hp=>rZ (h.kids i p hp) hB,h.apart⟩
theorem uH.low(h:uH w B u T k){B':Nat}(hB:B'<=B):uH w B' u T k:=λhk=>by
 obtain⟨P,L,h1,h2,h3⟩:=h hk;exact⟨P,L,h1,h2,h3.low hB⟩
theorem uH.below(h:uH w B u T k)(hb:Below w.heap.size w w'):uH w' B u T k:=λhk=>by
 obtain⟨P,L,h1,h2,h3⟩:=h hk;exact⟨P,L,h1,h2,h3.below hb⟩
theorem uH.box(h:uH w B u T k){g:Nat}{C:Array Value}{t:TypeId}{fr:Nat×Nat}(hh:w.heap[g]?=some (.cells C t fr))(ht:3≠t)(ht2:38≠t)(o:Nat)(x:Value):uH (w.setCell ⟨g,o,none⟩ x) B u T k:=λhk=>by
 obtain⟨P,L,h1,h2,h3⟩:=h hk;exact⟨P,L,h1,h2,h3.box hh ht ht2 o x⟩
theorem sG{w:World}{v:Value}{l:List Nd}(h:iM w v l):∃a n c,v=.slice a n c:=by
 obtain⟨a,c,e⟩:=h.shape;exact⟨a,_,c,e⟩
end
structure RV(W0 W:World)(bt:Nat)(u dv:Value)(V:Int×Nat×Fl.St):Prop where
 lu:Below W0.heap.size W0 W
 lo:W0.heap.size<=bt
 box:W.heap[bt]?=some (.cells #[u] 31 (0,0))
 tail:uH W W0.heap.size u V.2.2.t V.1
 told:W.ownsRow W0.heap.size 40 3 dv V.2.2.d.length (ib.all V.2.2.d)
theorem RV.new{W0 W:World}{bt:Nat}{u dv z:Value}{V:Int×Nat×Fl.St}(hb:Below W0.heap.size W0 W)(hx:W.heap[bt]?=some (.cells #[z] 31 (0,0)))(hlo:W0.heap.size<=bt)(ht:uH W W0.heap.size u V.2.2.t V.1)(ho:W.ownsRow W0.heap.size 40 3 dv V.2.2.d.length (ib.all V.2.2.d)):
 RV W0 (W.setCell ⟨bt,0,none⟩ u) bt u dv V:=
 ⟨hb.setCell (p:=⟨bt,0,none⟩) hlo _,hlo,qb hx u,ht.box hx (by decide) (by decide) 0 u,fU ho (λk hk=>jf _ _ _ _ (λe=>fF ho hx (by decide) ((show k=bt from e)▸hk)))⟩
def Cb(rb at' gl m bt nx:Nat)(v1:Int)(dv:Value)(a:Act):Prop:=a.defers=[]/\a.tmps.size=111/\a.tmps.getD 0 undef=RP rb/\a.tmps.getD 1 undef=.int .i64 (at':Int)/\a.tmps.getD 4 undef=.pointer (some ⟨gl,m*5,none⟩)/\a.tmps.getD 5 undef=.int .i64 (m:Int)/\a.tmps.getD 6 undef=.pointer (some ⟨bt,0,none⟩)/\a.tmps.getD 7 undef=.int .i64 v1/\a.tmps.getD 8 undef=.int .i64 (nx:Int)/\a.tmps.getD 9 undef=dv
theorem Cb.is{rb at' gl m bt nx:Nat}{v1:Int}{dv:Value}{a:Act}(hl:Cb rb at' gl m bt nx v1 dv a):∃u:Nat->Value,a={tmps:=#[RP rb,.int .i64 (at':Int),u 2,u 3,.pointer (some ⟨gl,m*5,none⟩),.int .i64 (m:Int),.pointer (some ⟨bt,0,none⟩),.int .i64 v1,.int .i64 (nx:Int),dv,u 10,u 11,u 12,u 13,u 14,u 15,u 16,u 17,u 18,u 19,u 20,u 21,u 22,u 23,u 24,u 25,u 26,u 27,u 28,u 29,u 30,u 31,u 32,u 33,u 34,u 35,u 36,u 37,u 38,u 39,u 40,u 41,u 42,u 43,u 44,u 45,u 46,u 47,u 48,u 49,u 50,u 51,u 52,u 53,u 54,u 55,u 56,u 57,u 58,u 59,u 60,u 61,u 62,u 63,u 64,u 65,u 66,u 67,u 68,u 69,u 70,u 71,u 72,u 73,u 74,u 75,u 76,u 77,u 78,u 79,u 80,u 81,u 82,u 83,u 84,u 85,u 86,u 87,u 88,u 89,u 90,u 91,u 92,u 93,u 94,u 95,u 96,u 97,u 98,u 99,u 100,u 101,u 102,u 103,u 104,u 105,u 106,u 107,u 108,u 109,u 110],defers:=[]}:=by
 obtain⟨t,df⟩:=a;obtain⟨h1,h2,g0,g1,g4,g5,g6,g7,g8,g9⟩:=hl;dsimp only at h1 h2 g0 g1 g4 g5 g6 g7 g8 g9;subst h1;refine⟨λk=>t.getD k undef,?_⟩;have h3:=zm t 111 h2;have h4:(List.range 111).map (λk=>t.getD k undef)=[t.getD 0 undef,t.getD 1 undef,t.getD 2 undef,t.getD 3 undef,t.getD 4 undef,t.getD 5 undef,t.getD 6 undef,t.getD 7 undef,t.getD 8 undef,t.getD 9 undef,t.getD 10 undef,t.getD 11 undef,t.getD 12 undef,t.getD 13 undef,t.getD 14 undef,t.getD 15 undef,t.getD 16 undef,t.getD 17 undef,t.getD 18 undef,t.getD 19 undef,t.getD 20 undef,t.getD 21 undef,t.getD 22 undef,t.getD 23 undef,t.getD 24 undef,t.getD 25 undef,t.getD 26 undef,t.getD 27 undef,t.getD 28 undef,t.getD 29 undef,t.getD 30 undef,t.getD 31 undef,t.getD 32 undef,t.getD 33 undef,t.getD 34 undef,t.getD 35 undef,t.getD 36 undef,t.getD 37 undef,t.getD 38 undef,t.getD 39 undef,t.getD 40 undef,t.getD 41 undef,t.getD 42 undef,t.getD 43 undef,t.getD 44 undef,t.getD 45 undef,t.getD 46 undef,t.getD 47 undef,t.getD 48 undef,t.getD 49 undef,t.getD 50 undef,t.getD 51 undef,t.getD 52 undef,t.getD 53 undef,t.getD 54 undef,t.getD 55 undef,t.getD 56 undef,t.getD 57 undef,t.getD 58 undef,t.getD 59 undef,t.getD 60 undef,t.getD 61 undef,t.getD 62 undef,t.getD 63 undef,t.getD 64 undef,t.getD 65 undef,t.getD 66 undef,t.getD 67 undef,t.getD 68 undef,t.getD 69 undef,t.getD 70 undef,t.getD 71 undef,t.getD 72 undef,t.getD 73 undef,t.getD 74 undef,t.getD 75 undef,t.getD 76 undef,t.getD 77 undef,t.getD 78 undef,t.getD 79 undef,t.getD 80 undef,t.getD 81 undef,t.getD 82 undef,t.getD 83 undef,t.getD 84 undef,t.getD 85 undef,t.getD 86 undef,t.getD 87 undef,t.getD 88 undef,t.getD 89 undef,t.getD 90 undef,t.getD 91 undef,t.getD 92 undef,t.getD 93 undef,t.getD 94 undef,t.getD 95 undef,t.getD 96 undef,t.getD 97 undef,t.getD 98 undef,t.getD 99 undef,t.getD 100 undef,t.getD 101 undef,t.getD 102 undef,t.getD 103 undef,t.getD 104 undef,t.getD 105 undef,t.getD 106 undef,t.getD 107 undef,t.getD 108 undef,t.getD 109 undef,t.getD 110 undef]:=rfl;rw[h4,g0,g1,g4,g5,g6,g7,g8,g9]at h3;exact congrArg (λt=>({tmps:=t,defers:=[]}:Act)) h3
section
variable {w0 w wq w6:World}{rb:Nat}{c:Ctx}{q:Pr.QS}{lv v6:Value}{R:Nat->Prop}
theorem fV.told(hS:fV w0 w rb c q lv R):∃dv,w.ownsRow w0.heap.size 40 3 dv q.s.d.length (ib.all q.s.d)/\w.cell? ⟨rb,5,none⟩=some dv/\(∀o,w.frozen? ⟨rb,o,none⟩=false)/\
 ∀xs v6 wq w6,Below w.heap.size w wq->wq.grownBy w6 dv.ownBlock->w6.ownsRow w0.heap.size 40 3 v6 (q.s.d++xs).length (ib.all (q.s.d++xs))->(v6.ownBlock=dv.ownBlock\/v6.ownBlock=some wq.heap.size)->
  (w6.cell? ⟨rb,5,none⟩=some dv/\w6.frozen? ⟨rb,5,none⟩=false)/\∃R',fV w0 (w6.setCell ⟨rb,5,none⟩ v6) rb c {q with s:=⟨q.s.t,q.s.d++xs⟩} lv R'/\FP w (w6.setCell ⟨rb,5,none⟩ v6) rb R R':=by
 obtain⟨nv,dv,L,hM,hL,hTr,rfl⟩:=hS;refine⟨dv,hM.told,MR hM.box,hM.free,λxs v6 wq w6 hq hg hown hat=>?_⟩;obtain⟨hb,aa,ae⟩:=hM.more hq hg hown hat;exact⟨⟨MR hb,nH hb 5⟩,_,⟨nv,v6,L,aa,hL,hTr,rfl⟩,ae⟩
theorem fV.setRow(hS:fV w0 w rb c q lv R)(k:Nat):fV w0 (w.setCell ⟨rb,6,none⟩ (.int .i64 (k:Int))) rb c {q with row:=k} lv R/\FP w (w.setCell ⟨rb,6,none⟩ (.int .i64 (k:Int))) rb R R:=by
 obtain⟨nv,dv,L,hM,hL,hTr,rfl⟩:=hS;refine⟨⟨nv,dv,L,PM.toCell (C:=jN c nv dv lv q.row q.en) hM.lu hM.ctx hM.low hM.box rfl hM.nodes hM.told hM.levels,hL,hTr,rfl⟩,?_,λk h1 h2 h3=>jf _ _ _ _ h2,λk hk=>.inl hk⟩;have:(w.setCell ⟨rb,6,none⟩ (.int .i64 (k:Int))).heap.size=w.heap.size:=by simp
 omega
theorem fV.U7(hS:fV w0 w rb c q lv R)(k:Nat):fV w0 (w.setCell ⟨rb,7,none⟩ (.int .i64 (k:Int))) rb c {q with en:=k} lv R/\FP w (w.setCell ⟨rb,7,none⟩ (.int .i64 (k:Int))) rb R R:=by
 obtain⟨nv,dv,L,hM,hL,hTr,rfl⟩:=hS;refine⟨⟨nv,dv,L,PM.toCell (C:=jN c nv dv lv q.row q.en) hM.lu hM.ctx hM.low hM.box rfl hM.nodes hM.told hM.levels,hL,hTr,rfl⟩,?_,λk h1 h2 h3=>jf _ _ _ _ h2,λk hk=>.inl hk⟩;have:(w.setCell ⟨rb,7,none⟩ (.int .i64 (k:Int))).heap.size=w.heap.size:=by simp
 omega
theorem fV.rowAt(hS:fV w0 w rb c q lv R){ra:Option Addr}{rc k:Nat}{x:Rw.R}(aa:c.rv=.slice ra c.rs.length rc)(hx:c.rs[k]?=some x):
 w.cell? ⟨rb,2,none⟩=some c.rv/\w.cell? ⟨rb,6,none⟩=some (.int .i64 (q.row:Int))/\w.frozen? ⟨rb,6,none⟩=false/\∃b off,ra=some ⟨b,off,none⟩/\w.cell? ⟨b,off+k*4+2,none⟩=some (.int .i64 x.bu):=by
 obtain⟨nv,dv,L,hM,hL,hTr,rfl⟩:=hS;have hr:=hM.ctx.rows.below hM.lu;rw[aa]at hr;obtain⟨b,off,e,_,_,h3,_⟩:=Ah hr k x hx;exact⟨Yx hM.box,Q7 hM.box,hM.free 6,b,off,e,h3⟩
end
theorem FP.mix{a b d:World}{rb:Nat}{R K R':Nat->Prop}(h:FP a b rb R R)(g:FP b d rb (λk=>R k\/K k) R')(hK:∀k,K k->a.heap.size<=k):FP a d rb R R' :=
 ⟨jU h.size g.size,λk hk hr hn=>(g.block k (wC hk h.size) hr (λe=>e.elim hn (λe=>by have:=hK k e;omega))).trans (h.block k hk hr hn),λk hk=>(g.rows k hk).elim (λe=>e.elim .inl (λe=>.inr (hK k e))) (λe=>.inr (jU h.size e))⟩
theorem IC(p:Nat->Bool):∀(n i:Nat),i<=Fl.iQ p n i/\(∀k,i<=k->k<Fl.iQ p n i->p k=true)/\(Fl.iQ p n i<i+n->p (Fl.iQ p n i)=false)
 |0,i=>by
  show i<=i/\_;exact⟨fB _,λk h1 h2=>absurd h1 (Nat.not_le.2 h2),λh=>absurd h (by show¬i<i+0;omega)⟩
 |n+1,i=>by
  rw[Fl.iQ];by_cases h:p i=true
  ·rw[eY h];obtain⟨h1,h2,h3⟩:=IC p n (i+1);refine⟨by omega,λk h4 h5=>?_,λh4=>h3 (by omega)⟩;by_cases e:k=i
   ·rw[e];exact h
   exact h2 k (by omega) h5
  rw[eX h];exact⟨fB _,λk h1 h2=>absurd h1 (Nat.not_le.2 h2),λ_=>by simpa using h⟩
def QI(rb at' gl m bt nx:Nat)(v1:Int)(dv:Value)(w0 w:World)(c:Ctx)(lv:Value)(R:Nat->Prop)(q2:Pr.QS)(D:List Fl.Dg):Exit->Act->World->Prop
 | .normal,a',W'=>∃R2,Cb rb at' gl m bt nx v1 dv a'/\fV w0 W' rb c q2 lv R2/\FP w W' rb R R2/\Reads ib W' dv D
 |_,_,_=>False
def QR(rb at' gl m nx:Nat)(v1:Int)(w1:World)(V:Int×Nat×Fl.St):Exit->Act->World->Prop
 | .normal,a',W'=>∃bt uv dv,Cb rb at' gl m bt nx v1 dv a'/\RV w1 W' bt uv dv V
 |_,_,_=>False
theorem Bl(w0 w:World)(rb:Nat)(c:Ctx)(q:Pr.QS)(lv:Value)(R:Nat->Prop)(h:Pr.Lv)(tl:List Pr.Lv)(at':Nat)(hS:fV w0 w rb c q lv R)(hst:q.st=h::tl)(hok:Pr.nZ q)(bz:nO c.l)(hi:at'<=q.en)(he:q.en<=c.l.length)(hmd:tl.length<=c.depth)(hdp:c.depth<=50)(hn:q.s.t.length<=700000000000)(hd:q.s.d.length<=700000000000)(hrt:∀r∈c.rs,r.bu<=c.l.length)
 (hsk:Pr.skip c.rs q.row (Fl.jd c.l q.en (c.depth-tl.length) 0 at' ⟨gV c.l.length,[]⟩).2.1<c.rs.length):
 Calls prog 61 #[RP rb,.int .i64 at'] w (ng w0 w rb c lv R (.tuple #[]) (Pr.value c.l c.rs c.depth q at')):=by
 have hcx:=hS.ctx;obtain⟨ta,tc,bf⟩:=hcx.toks.shape;obtain⟨tn,htn⟩:=fq (c.l.length);obtain⟨V,hV⟩:=fq (Fl.jd c.l q.en (c.depth-tl.length) 0 at' ⟨gV c.l.length,[]⟩);obtain⟨gl,cap,rfl,hfz,hcl,c8,-⟩:=hS.top hst;have hIn:=vO w rb gl tl.length cap c8 (by omega);have hcells:∀W,Below w.heap.size w W->W.cell? ⟨rb,0,none⟩=some c.bv/\W.cell? ⟨rb,1,none⟩=some c.tv/\W.cell? ⟨rb,7,none⟩=some (.int .i64 (q.en:Int))/\W.cell? ⟨rb,3,none⟩=some (.int .i64 (c.depth:Int)):=λW hW=>by
  obtain⟨nv,dv,L,hM,_⟩:=hS.below hW;exact⟨bx0 hM.box,bx1 hM.box,YF hM.box,Xp hM.box⟩
 have aL:∀W,Below w.heap.size w W->∀uu,iM W uu (gV (tn:Int))->Calls prog 94 #[c.bv,.slice ta tn tc,.agg #[uu],.int .i64 0,.int .i64 (at':Int),.int .i64 (q.en:Int),.int .i64 ((c.depth-tl.length:Nat):Int)] W (zt V W):=λW hW uu hu=>by
  rw[<-htn]at hu⊢;rw[<-hV,<-bf];obtain⟨hck,hf⟩:=Pr.rz c.l.length at' hcx.size
  exact WO c.bv c.tv uu c.l q.en (gV (c.l.length:Int)) 0 at' (c.depth-tl.length) (c.l.length:Int) ((at'+1:Nat):Int) W (hcx.toks.below (hS.lu.trans (hW.mono hS.lu.size))) (by have:=hcx.size;omega) he bz hu hck hf (by omega) hi (by omega) (by show 1<=4000;decide) (λx hx=>by
   have hx:x∈[_]:=hx;rw[vF.1 hx]
   exact ic _) (by omega)
 obtain⟨v1,hv1⟩:=fq (V.1);obtain⟨nx,hnx⟩:=fq (V.2.1);obtain⟨EN,bM⟩:=fq (q.en);obtain⟨DP,bN⟩:=fq (c.depth);obtain⟨bv,hbv⟩:=fq (c.bv);obtain⟨m,hm⟩:=fq (tl.length);obtain⟨DD,cZ⟩:=fq (DP-m);rw[htn]at bf;rw[bN,bM,bf,hbv]at hcells;rw[bN,bM,hbv,hm,cZ]at aL;rw[hm]at hIn;have hgw:wrap64 ((DP:Int)-(m:Int))=(DD:Int):=by rw[uF _ (by omega)];omega
 have df:IntKind.i64.wrap ((DP:Int)-(m:Int))=(DD:Int):=by rw[qL _ (by omega)];omega
 have dP:wrap64 ((m:Int)+1-1)=(m:Int):=by rw[show(m:Int)+1-1=(m:Int)by omega];exact uF _ (by omega)
 have dQ:wrap64 (m:Int)=(m:Int):=uF _ (by omega);obtain⟨lv,hlv⟩:=fq ((Value.slice (some ⟨gl,0,none⟩) (tl.length+1) cap));obtain⟨Q,hQ⟩:=fq (ng w0 w rb c (Value.slice (some ⟨gl,0,none⟩) (tl.length+1) cap) R (.tuple #[]) (Pr.value c.l c.rs c.depth q at'));rw[hQ];have hc8:∀W,Below w.heap.size w W->W.cell? ⟨rb,8,none⟩=some (.slice (some ⟨gl,0,none⟩) (m+1) cap):=λW hW=>by rw[<-hm];exact fu hW c8
 obtain⟨bO,bP,bQ⟩:=jF hc8 hIn hcells;have ah:=eZ (λW hW uu hu=>(aL W hW uu hu).mono (λe w' h=>show∃u dv,e=.returned (.tuple #[.agg #[u],.int .i64 v1,.int .i64 (nx:Int),dv])/\iM w' u V.2.2.t/\Reads ib w' dv V.2.2.d/\Below W.heap.size W w'/\uH w' W.heap.size u V.2.2.t V.1/\w'.ownsRow W.heap.size 40 3 dv V.2.2.d.length (ib.all V.2.2.d)by rw[<-hv1,<-hnx];exact h));have aM:=eZ (λW=>YN (tn:Int) W);obtain⟨HS,HQ⟩:=fT hS hQ;have HH:=eZ (show True from trivial);have ag:=eZ (And.intro hst (And.intro hok (And.intro hi (And.intro he (And.intro hmd (And.intro hn (And.intro hd (And.intro hrt (And.intro hsk (And.intro hV (And.intro hv1 (And.intro hnx (And.intro hm (And.intro hlv (And.intro hcx htn)))))))))))))));clear hst hok bz hi he hmd hdp hn hd hrt hsk hV hv1 hnx hm hlv hcx htn hcells hIn aL hS hQ hfz hcl c8 bf bN bM hbv cZ hc8
 go_enter func61,ntmps61
 go_wp2_with fail
 refine bP.out.mono ?_;rintro e w1 ⟨rfl,n1,hw1⟩;have hb1:Below w.heap.size w w1:=by rw[hw1];exact ji (fI _ w) n1
 have HB1:=eZ hb1;obtain⟨d0,d1,d7,d3⟩:=bQ.out w1 hb1;have d8:=bO.out w1 hb1;have ah:=eZ (λW (hW:Below w1.heap.size w1 W) uu hu=>ah.out W (fD HB1.out hW) uu hu);clear hb1 hw1;go_upto_region 2 with fail
 refine VB (Q:=QR rb at' gl m nx v1 w1 V) ?_ ?_
 ·intro e a' W2 hq;cases e with
  |normal=>
   obtain⟨bt,uv,dv,hlive,ai⟩:=hq;obtain⟨u,rfl⟩:=hlive.is;clear hlive bP bQ ah aM;have hb2:Below w.heap.size w W2:=fD HB1.out ai.lu;have hs1:w.heap.size<=w1.heap.size:=HB1.out.size;obtain⟨hst,hok,hi,he,hmd,hn,hd,hrt,hsk,hV,hv1,hnx,hm,hlv,hcx,htn⟩:=ag.out;have hS:=HS.out;have hQ:=HQ.out;have hvs:=Pr.rA c.l q.en (c.depth-tl.length) at' c.l.length hi he hcx.size;have aJ:=Pr.Qm c.l q.en (c.depth-tl.length) at' c.l.length hi he hcx.size;rw[hV]at hvs aJ hsk;rw[hv1]at hvs aJ;rw[hnx]at hvs hsk;obtain⟨q2,hq2⟩:∃q2:Pr.QS,{q with s:=⟨if v1=-1 then q.s.t else Pr.pY q.s.t h.cur (V.2.2.t.drop v1.toNat),q.s.d⟩,st:={h with full:=if v1=-1 then h.full else true}::tl}=q2:=⟨_,rfl⟩
   have hval:Pr.value c.l c.rs c.depth q at'={s:=Pr.fault c.l ⟨q2.s.t,q2.s.d++V.2.2.d⟩ h.cur 8 nx (Pr.rH c.rs (Pr.skip c.rs q.row nx)),row:=Pr.skip c.rs q.row nx,en:=q.en,st:=q2.st}:=by
    unfold Pr.value;rw[hst];dsimp only;rw[hV,hv1,hnx,<-hq2]
   have hlv1:=hok.lv h (by rw[hst];simp);have aN:q.s.t.length<=q2.s.t.length/\q2.s.t.length<=q.s.t.length+100000:=by
    rw[<-hq2];dsimp only;split
    ·omega
    have:=hcx.size;rw[Pr.CQ,iT];omega
   have av:q2.s.d=q.s.d:=by rw[<-hq2]
   have aF:q2.row=q.row:=by rw[<-hq2]
   have aA:q2.en=q.en:=by rw[<-hq2]
   have aG:q2.st={h with full:=if v1=-1 then h.full else true}::tl:=by rw[<-hq2]
   rename_i K hK;refine hK _ _ (wp_seq (VB (Q:=QI rb at' gl m bt nx v1 dv w0 w c (.slice (some ⟨gl,0,none⟩) (tl.length+1) cap) R q2 V.2.2.d) ?_ ?_))
   ·intro e a' W3 hq;cases e with
    |normal=>
     obtain⟨R3,aH,aj,aC,bR⟩:=hq;obtain⟨u3,rfl⟩:=aH.is;clear aH hK K ag HQ HS;obtain⟨ra,rc,bS⟩:=hcx.rows.shape;obtain⟨RL,bg⟩:=fq (c.rs.length);obtain⟨eQ,hown5,c5,f5,hmore⟩:=aj.told;obtain⟨SK,bT⟩:=fq (Pr.skip c.rs q.row nx);rw[bT]at hsk hval;have hgo:=IC (λi=>decide (Pr.rH c.rs i<nx)) (c.rs.length-q.row) q.row;have hgo':Fl.iQ (λi=>decide (Pr.rH c.rs i<nx)) (c.rs.length-q.row) q.row=SK:=bT;rw[hgo']at hgo;obtain⟨hg1,hg2,hg3⟩:=hgo;obtain⟨xk,hxk⟩:=jB c.rs SK hsk;have ay:∀k x,c.rs[k]?=some x->Pr.rH c.rs k=x.bu:=λk x hx=>by unfold Pr.rH;rw[hx]
     have hxl:xk.bu<=c.l.length:=hrt xk (iK hxk);have bU:nx<=xk.bu:=by
      have h1:=hg3 (by omega);have h2:=of_decide_eq_false h1;rw[ay SK xk hxk]at h2;omega
     rw[ay SK xk hxk]at hval;obtain⟨D,bV⟩:=fq (V.2.2.d);rw[bV]at bR hval;have hDl:D.length<=32768:=by rw[<-bV];have:=hvs.2.1;have:=hcx.size;omega
     obtain⟨q3,hq3⟩:∃q3:Pr.QS,{q2 with s:=⟨q2.s.t,q2.s.d++D⟩}=q3:=⟨_,rfl⟩
     have hmr:=hmore D;have bA:q3.st=q2.st:=by rw[<-hq3]
     have bB:q3.row=q.row:=by rw[<-hq3];exact aF
     have dh:q3.en=q.en:=by rw[<-hq3];exact aA
     have aO:q3.s.t=q2.s.t:=by rw[<-hq3]
     have bC:q3.s.d=q2.s.d++D:=by rw[<-hq3]
     have bW:=λW R' (hW:fV w0 W rb c {q3 with row:=SK} (.slice (some ⟨gl,0,none⟩) (tl.length+1) cap) R')=>xW w0 W rb c {q3 with row:=SK} _ R' h.cur 8 nx xk.bu hW (by show h.cur<q3.s.t.length;rw[aO];have:=hlv1.2;omega) bU hxl (by show q3.s.t.length<=_;rw[aO];omega) (by show q3.s.d.length<=_;rw[bC,iJ,av];omega)
     obtain⟨CU,az⟩:=fq (h.cur);have di:∀W k R',fV w0 W rb c {q3 with row:=k} (.slice (some ⟨gl,0,none⟩) (tl.length+1) cap) R'->W.cell? ⟨gl,m*5+3,none⟩=some (.int .i64 (CU:Int)):=λW k R' hW=>by
      have h1:=hW.Ff (pre:=[]) (h:={h with full:=if v1=-1 then h.full else true}) (r:=tl) (by show q3.st=_;rw[bA];exact aG) 3 _ rfl;rw[hm,show({h with full:=if v1=-1 then h.full else true}:Pr.Lv).cur=CU from az]at h1;exact h1
     have hfin:∀W R',fV w0 W rb c {{q3 with row:=SK}with s:=Pr.fault c.l q3.s CU 8 nx xk.bu} (.slice (some ⟨gl,0,none⟩) (tl.length+1) cap) R'->FP w W rb R R'->Q (.returned (.tuple #[])) W:=λW R' h1 h2=>by
      rw[<-hQ];refine⟨rfl,R',?_,h2⟩;rw[hval,az];rw[<-hq3]at h1;have e:({{{q2 with s:=⟨q2.s.t,q2.s.d++D⟩}with row:=SK}with s:=Pr.fault c.l ⟨q2.s.t,q2.s.d++D⟩ CU 8 nx xk.bu}:Pr.QS)={s:=Pr.fault c.l ⟨q2.s.t,q2.s.d++D⟩ CU 8 nx xk.bu,row:=SK,en:=q.en,st:=q2.st}:=by rw[<-aA]
      rw[<-e];exact h1
     rw[az]at bW;rw[bg]at hsk bS;obtain⟨bX,dR,bY,dS,eT⟩:=sP hmr bR hown5 aC aj;have dU:=eZ (show q2.s.d.length+D.length<=maxLen by rw[av];simp only[maxLen];omega);have dV:=eZ (show(q2.s.d.length+D.length)*24<=140737488355328 by rw[av];omega);have dW:=eZ (show w0.heap.size<=W3.heap.size from aj.lu.size);obtain⟨dX,dm,dY,dZ,bZ,bn⟩:=kJ hq3 bB hg2 ay bg bS;have ed:=eZ hxk;have eB:=eZ (show RL<=32768 by rw[<-bg];exact hcx.Zc);obtain⟨cr,dn,HFin⟩:=jF bW di hfin;have hnr:nx<=xk.bu:=bU;clear ah bO HH d0 d1 d7 d3 d8 hgw df dP dQ hb2 hs1 hst hok hi he hmd hn hd hrt hV hv1 hnx hm hlv hcx htn hvs aJ hval hlv1 aN av aF aA aG hq2 ai HB1 hS hQ hown5 hmore hmr hgo' bT bR bV hDl hq3 bA bB dh aO bC bW az di hfin aj aC hxk ay hxl bU bS bg hg2 hg3;go_wp2_with (at_builtin;go_must (refine lG YE rfl (.tmp 68) (.tmp 69) rfl w0.heap.size _ q2.s.d rfl bY.out _ D rfl dR.out dU.out dV.out dW.out ?_;intro v9 w9 aD dw bD;obtain⟨a9,c9,dx⟩:=(Reads.fJ (E:=ib) aD).shape;obtain⟨n9,dA⟩:∃n9,(q2.s.d++D).length=n9:=⟨_,rfl⟩;rw[dA]at dx;clear dA;subst dx;obtain⟨⟨c59,f59⟩,R9,cz,dB⟩:=bX.out _ W3 w9 (fI _ W3) dw aD bD;rw[dX.out]at cz;have eD:=eZ cz;have eF:=eZ (dS.out.trans dB);clear aD dw bD cz dB c5 f5))
     go_loopw [] (λwr=>∃(k:Nat)(R5:Nat->Prop),q.row<=k/\k<=SK/\Hid (fV w0 wr rb c {q3 with row:=k} (.slice (some ⟨gl,0,none⟩) (tl.length+1) cap) R5/\FP w wr rb R R5)) (λwr=>SK-(intOf ((wr.cell? ⟨rb,6,none⟩).getD undef)).toNat)
     case atStart=>exact⟨q.row,R9,fB _,hg1,eZ ⟨by rw[<-dm.out];exact eD.out,eF.out⟩⟩
     case round=>
      obtain⟨k,R5,hk1,hk2,HP⟩:=hrel;have hS5:=HP.out.1;by_cases hlt:k<SK
      ·obtain⟨x,hx⟩:=jB c.rs k (by rw[bZ.out];omega);have hrt:=M6 (dY.out k hk1 hlt);rw[dZ.out k x hx]at hrt;obtain⟨c2,c6,f6,b,off,e,ct⟩:=hS5.rowAt (by rw[bZ.out];exact bn.out) hx;rw[bn.out]at c2;subst e;have c6:wr.cell? ⟨rb,6,none⟩=some (.int .i64 (k:Int)):=c6;obtain⟨XT,aP⟩:=fq (x.bu);rw[aP]at hrt ct;have n1:decide ((XT:Int)<(nx:Int))=true:=lI (by omega);have n2:(XT:Int)<(nx:Int):=by omega
       have gk:(k:Int)<(RL:Int):=by omega
       have hstp:=λn=>(hS5.below (ji (fI _ wr) n)).setRow (k+1)
       have dC:=eZ (λn=>show fV w0 _ rb c {q3 with row:=k+1} _ R5/\FP w _ rb R R5 from⟨(hstp n).1,(HP.out.2.trans (FP.below (ji (fI _ wr) n))).trans (hstp n).2⟩);have hks:k<=1000000:=by have:=eB.out;omega
       clear hS5 hrt hx aP hstp HP;go_upto_region 7 with fail
       go_big_quiet (fail)
       go_wp2_with fail
       go_roundw
       case rel=>exact⟨k+1,R5,by omega,by omega,eZ (dC.out nq)⟩
       case measure=>
        have e1:∀v,(wr.setCell ⟨rb,6,none⟩ v).cell? ⟨rb,6,none⟩=some v:=λv=>gU _ _ _ (by rw[c6];rfl)
        have e2:∀v,((wr.drewN nq).setCell ⟨rb,6,none⟩ v).cell? ⟨rb,6,none⟩=some v:=λv=>e1 v
        simp[intOf,c6,e2];omega
      have dD:k=SK:=by omega
      rw[dD]at HP hS5;obtain⟨c2,c6,f6,b,off,e,ct⟩:=hS5.rowAt (by rw[bZ.out];exact bn.out) ed.out;rw[bn.out]at c2;subst e;have c6:wr.cell? ⟨rb,6,none⟩=some (.int .i64 (SK:Int)):=c6;obtain⟨XT,aP⟩:=fq (xk.bu);rw[aP]at hnr ct cr HFin;have n1:decide ((XT:Int)<(nx:Int))=false:=jE (by omega);have n2:¬(XT:Int)<(nx:Int):=by omega
      have gk:(SK:Int)<(RL:Int):=by omega
      have n3:=dn.out wr SK R5 hS5;have dE:=eZ (λW (hW:Below wr.heap.size wr W)=>cr.out W R5 (hS5.below hW));have eG:=eZ (λn W6 R6 h6 bq=>HFin.out W6 R6 h6 (HP.out.2.trans ((FP.below (ji (fI _ wr) n).drew).trans bq)));clear hS5 aP HP dD hlt hk1 hk2 cr HFin dn hnr;go_upto_region 7 with fail
      go_big_quiet (fail)
      go_upto_region 9 with fail
      have e3:=fE (show(wr.drewN nq).cell? ⟨gl,m*5+3,none⟩=_ from n3);have e2:=fE (show(wr.drewN nq).cell? ⟨rb,2,none⟩=_ from c2);have e6:=fE (show(wr.drewN nq).cell? ⟨rb,6,none⟩=_ from c6);have et:=fE (show(wr.drewN nq).cell? ⟨b,off+SK*4+2,none⟩=_ from ct);refine iA 17 (by kernel_rfl) (by kernel_rfl) ?_;simp only[uA,vG,wh,lQ]
      repeat (go_big_quiet_step (fail))
      refine EX ?_;go_wp2_with fail
      refine(dE.out _ (ji (fI _ wr) nq).drew).mono ?_;rintro e W6 ⟨rfl,R6,dF,bq⟩;have HD:=eZ (eG.out nq W6 R6 dF bq);clear dF bq;go_wp2_with fail
      try go_end0
      exact HD.out
    |_=>exact hq.elim
   by_cases hno:v1=-1
   ·subst hno;rw[eY rfl,eY rfl]at hq2;have hqq:q2=q:=by
     rw[<-hq2];show({q with st:=h::tl}:Pr.QS)=q;rw[<-hst]
    have hD:∀a',Cb rb at' gl m bt nx (-1) dv a'->QI rb at' gl m bt nx (-1) dv w0 w c (.slice (some ⟨gl,0,none⟩) (tl.length+1) cap) R q2 V.2.2.d .normal a' W2:=λa' ha=>⟨R,ha,by rw[hqq];exact hS.below hb2,FP.below hb2,Reads.fJ (E:=ib) ai.told⟩
    have HD:=eZ hD;clear hb2 hs1 hst hok hi he hmd hn hd hrt hsk hV hv1 hnx hm hlv hcx htn hvs aJ hval hlv1 aN av aF aA aG hqq hD hq2 ai HB1 hK K ag HQ HS hS hQ;go_wp2_with fail
    exact HD.out _ ⟨rfl,rfl,rfl,rfl,rfl,rfl,rfl,rfl,rfl,rfl⟩
   obtain⟨e1,p0,r,hdr,⟨tt,dG⟩,hlen,cB,hall⟩:=aJ hno;subst e1;rw[eX (by decide),eX (by decide)]at hq2;obtain⟨P,LL,hP,dH,aQ⟩:=ai.tail (by rw[hv1];decide);rw[hv1]at hP;have hP:P.length=1:=by omega
   have aR:LL.map Ln.nd=p0::r:=by
    rw[<-hdr,<-dH,wy,List.drop_left' (by rw[jD,hP])]
   have eH:LL.length=r.length+1:=by rw[<-jD (f:=Ln.nd),aR];rfl
   obtain⟨n,hnn⟩:=fq (LL.length);obtain⟨gx,cx,rfl,-,-,-,-⟩:=jM (E:=gP) aQ.row (by rw[iJ];omega);have hpl:(P++LL).length=n+1:=by rw[iJ,hP,hnn];omega
   rw[hpl]at aQ ai;obtain⟨pl,aS⟩:=jB LL 0 (by omega);have bE:pl.nd=p0:=by
    have h1:(LL.map Ln.nd)[0]?=some pl.nd:=by rw[lS,aS];rfl
    rw[aR]at h1;exact(jl h1).symm
   have hRl:=hS.lt;obtain⟨h',hh'⟩:∃h',({h with full:=true}:Pr.Lv)=h':=⟨_,rfl⟩
   have hS2:=hS.below hb2;have aT:=hS2.Ff (pre:=[]) hst;obtain⟨eU,eP,bF,hfz,-,-,hgR⟩:=hS2.top hst;have ex:=(ll bF).1;injection ex with ex
   injection ex with ex
   subst ex;obtain⟨aj,aC⟩:=hS2.DI hst 4 (.bool true) h' (by rw[<-hh'];rfl) (by decide);obtain⟨q1,hq1⟩:∃q1:Pr.QS,{q with st:=h'::tl}=q1:=⟨_,rfl⟩
   rw[hq1]at aj;rw[hm]at aT aj aC;obtain⟨W3,hW3⟩:=fq (W2.setCell ⟨gl,m*5+4,none⟩ (.bool true));rw[hW3]at aj aC;have dI:=(hS.rows hgR).2.1;have aI:∀k,w1.heap.size<=k->W3.heap[k]?=W2.heap[k]?:=λk hk=>by rw[<-hW3];exact jf _ _ _ _ (λe=>by have e:k=gl:=e;omega)
   have ax:VT W3.drew w1.heap.size (.slice (some ⟨gx,0,none⟩) (n+1) cx) P LL:=aQ.same (λg hg=>(aI g (aQ.lt hg).1));have ak:W3.drew.ownsRow w1.heap.size 40 3 dv V.2.2.d.length (ib.all V.2.2.d):=fU ai.told (λk hk=>aI k (ai.told.lt k hk).1);have dJ:W3.heap[bt]?=_:=(aI bt ai.lo).trans ai.box;have bG:=aj.below (fI _ W3).drew;have cK:∀k,(k=gx\/∃p∈LL,p.val.ownBlock=some k)->w1.heap.size<=k/\k<W3.drew.heap.size:=λk hk=>ax.lt (hk.elim (λe=>.inl (by rw[e];rfl)) .inr)
   have hoff:∀k,w1.heap.size<=k->w0.heap.size<=k/\k≠rb/\¬R k:=λk hk=>⟨by omega,by omega,λhr=>by have:=(hS.rows hr).2.1;omega⟩
   have cO:=WZ w0 W3.drew rb c q1 _ R h.cur gx n cx w1.heap.size tt P LL pl bG (by rw[<-hq1];exact hlv1.2) (by rw[<-hq1];show q.s.t.length<=_;omega) ax hP aS (by rw[bE];exact dG) (λk hk=>hoff k (cK k hk).1) (by omega) (by have:=hcx.size;omega) (λi p hp=>by
    have h1:(LL.map Ln.nd)[i]?=some p.nd:=by rw[lS,hp];rfl
    rw[aR]at h1;have:=hall i p.nd h1
    refine⟨by omega,this.2.1,this.2.2.1,this.2.2.2.1,this.2.2.2.2⟩)
   obtain⟨-,dK,bH,-⟩:=ax.reads hP (by omega);have bI:∀W4 R4,fV w0 W4 rb c {q1 with s:=⟨Pr.pY q1.s.t h.cur (LL.map Ln.nd),q1.s.d⟩} (.slice (some ⟨gl,0,none⟩) (tl.length+1) cap) R4->FP W3.drew W4 rb (λk=>R k\/(k=gx\/∃p∈LL,p.val.ownBlock=some k)) R4->∀a',Cb rb at' gl m bt nx 1 dv a'->QI rb at' gl m bt nx 1 dv w0 w c (.slice (some ⟨gl,0,none⟩) (tl.length+1) cap) R q2 V.2.2.d .normal a' W4:=λW4 R4 h4 aU a' ha=>by
    refine⟨R4,ha,?_,((FP.below hb2).trans (aC.trans (FP.below (fI _ W3).drew))).mix aU (λk hk=>by have:=(cK k hk).1;omega),?_⟩
    ·rw[<-hq2,show V.2.2.t.drop (1:Int).toNat=LL.map Ln.nd from by rw[aR];exact hdr,hh'];rw[<-hq1]at h4;exact h4
    refine Reads.fJ (E:=ib) (fU ak (λk hk=>aU.block k (ak.lt k hk).2 (hoff k (ak.lt k hk).1).2.1 (λe=>?_)));rcases e with e|e|⟨p,hp,e⟩
    ·exact(hoff k (ak.lt k hk).1).2.2 e
    ·exact fH ax.row ak (by decide) k (by rw[e];rfl) hk
    obtain⟨i,hi⟩:=lh hp;exact fH (ax.kids i p hi) ak (by decide) k e hk
   have c4:W2.cell? ⟨gl,m*5+4,none⟩=some (.bool h.full):=aT 4 _ rfl;have f4:W2.frozen? ⟨gl,m*5+4,none⟩=false:=hfz _;obtain⟨CU,az⟩:=fq (h.cur);have n3:W3.cell? ⟨gl,m*5+3,none⟩=some (.int .i64 (CU:Int)):=by
    have h1:=aj.Ff (pre:=[]) (h:=h') (r:=tl) (by rw[<-hq1];rfl) 3 _ rfl;rw[hm,<-hh']at h1;rw[<-az];exact h1
   have nb:W3.cell? ⟨bt,0,none⟩=some (.slice (some ⟨gx,0,none⟩) (n+1) cx):=iF dJ;have hsl:∀X:World,(Instr.slice 29 (.slice (some ⟨gx,0,none⟩) (n+1) cx) (some (.int .i64 1)) none none).run prog X=.ok (.slice (some ⟨gx,6,none⟩) n (cx-1)) X:=λX=>by
    have h2:=bH;simp only[maxLen]at h2;rw[run_slice_l X _ (some ⟨gx,0,none⟩) (n+1) cx (by rw[Hl.he];exact Hl.ht) .i64 1 (by omega) (by omega),Hl.he,Hl.size];have h3:¬cx=1:=by omega
    simp[Result.andThen,sliced,gQ,h3];rfl
   rw[az]at cO;have eO:=eZ cO;have HFin:=eZ (λW4 R4 h4=>bI W4 R4 (by rw[az,hm];exact h4));have HW3:=eZ hW3;clear hb2 hs1 hst hok hi he hmd hn hd hrt hsk hV hv1 hnx hm hlv hcx htn hvs aJ hval hlv1 aN av aF aA aG hq2 ai HB1 hK K ag HQ HS hS hQ hno hdr dG hlen cB hall hP dH aQ aR eH hnn hpl aS bE hRl hh' hS2 aT hfz hgR bF aj aC hW3 dI aI ax ak dJ bG cK hoff cO dK bH bI az hq1;go_upto_region 5 with fail
   rw[HW3.out];clear HW3 c4 f4;refine gK (λwx=>wx.cell? ⟨gl,m*5+3,none⟩=some (.int .i64 (CU:Int))/\wx.cell? ⟨bt,0,none⟩=some (.slice (some ⟨gx,0,none⟩) (n+1) cx)) 9 (by kernel_rfl) ?_;have hH:(λwx:World=>wx.cell? ⟨gl,m*5+3,none⟩=some (.int .i64 (CU:Int))/\wx.cell? ⟨bt,0,none⟩=some (.slice (some ⟨gx,0,none⟩) (n+1) cx)) W3.drew:=⟨fE n3,fE nb⟩
   refine ik 0 (.pointer (some ⟨rb,0,none⟩)) rfl (by kernel_rfl) rfl fC (λW hW=>by go_simp) hH ?_;refine iD 1 (.pointer (some ⟨gl,m*5,none⟩)) rfl (by kernel_rfl) rfl fC (λW=>by go_simp) (λ_=>hH) ?_;refine iD 2 (.pointer (some ⟨gl,m*5,none⟩)) rfl (by kernel_rfl) rfl fC (λW=>by go_simp) (λ_=>hH) ?_;refine iD 3 (.pointer (some ⟨gl,m*5+3,none⟩)) rfl (by kernel_rfl) rfl fC (λW=>by go_simp) (λ_=>hH) ?_;refine ik 4 (.int .i64 (CU:Int)) rfl (by kernel_rfl) rfl fC (λW hW=>?_) hH ?_
   ·obtain⟨z0,z1⟩:=hW;go_simp
   refine iD 5 (.pointer (some ⟨bt,0,none⟩)) rfl (by kernel_rfl) rfl fC (λW=>by go_simp) (λ_=>hH) ?_;refine Xn 8 6 (.slice (some ⟨gx,0,none⟩) (n+1) cx) rfl (by kernel_rfl) rfl fC (λW hW=>?_) hH ?_
   ·obtain⟨z0,z1⟩:=hW;go_simp
   refine iD 7 (.int .i64 1) rfl (by kernel_rfl) rfl fC (λW=>by go_simp) (λ_=>hH) ?_;refine ik 8 (.slice (some ⟨gx,6,none⟩) n (cx-1)) rfl (by kernel_rfl) rfl fC (λW hW=>by go_simp) hH ?_;refine mO 9 (by kernel_rfl) rfl λK hK=>?_
   go_simp;refine eO.out.mono ?_;rintro e W4 ⟨rfl,R4,dL,aU⟩;have HD:=eZ (HFin.out W4 R4 dL aU);clear dL aU;refine hK.out _ _ (kC (by kernel_rfl)) (λ_=>?_);clear hK K;try simp only[Act.put,fK,fP,fO]
   refine gH (by kernel_rfl) ?_ _;exact HD.out _ ⟨rfl,rfl,rfl,rfl,rfl,rfl,rfl,rfl,rfl,rfl⟩
  |_=>exact hq.elim
 clear bP bQ d8 bO;refine gK (λwx=>wx.cell? ⟨rb,0,none⟩=some bv/\wx.cell? ⟨rb,1,none⟩=some (.slice ta tn tc)/\wx.cell? ⟨rb,7,none⟩=some (.int .i64 (EN:Int))/\wx.cell? ⟨rb,3,none⟩=some (.int .i64 (DP:Int))) 25 (by kernel_rfl) ?_;have hH:(λwx:World=>wx.cell? ⟨rb,0,none⟩=some bv/\wx.cell? ⟨rb,1,none⟩=some (.slice ta tn tc)/\wx.cell? ⟨rb,7,none⟩=some (.int .i64 (EN:Int))/\wx.cell? ⟨rb,3,none⟩=some (.int .i64 (DP:Int))) w1.drew:=⟨fE d0,fE d1,fE d7,fE d3⟩
 refine iD 0 (.pointer (some ⟨rb,0,none⟩)) rfl (by kernel_rfl) rfl fC (λW=>by go_simp) (λ_=>hH) ?_;refine iD 1 (.pointer (some ⟨rb,0,none⟩)) rfl (by kernel_rfl) rfl fC (λW=>by go_simp) (λ_=>hH) ?_;refine iD 2 (.pointer (some ⟨rb,0,none⟩)) rfl (by kernel_rfl) rfl fC (λW=>by go_simp) (λ_=>hH) ?_;refine ik 3 bv rfl (by kernel_rfl) rfl fC (λW hW=>?_) hH ?_
 ·obtain⟨z0,z1,z2,z3⟩:=hW;go_simp
 refine iD 4 (.pointer (some ⟨rb,0,none⟩)) rfl (by kernel_rfl) rfl fC (λW=>by go_simp) (λ_=>hH) ?_;refine iD 5 (.pointer (some ⟨rb,0,none⟩)) rfl (by kernel_rfl) rfl fC (λW=>by go_simp) (λ_=>hH) ?_;refine iD 6 (.pointer (some ⟨rb,1,none⟩)) rfl (by kernel_rfl) rfl fC (λW=>by go_simp) (λ_=>hH) ?_;refine ik 7 (.slice ta tn tc) rfl (by kernel_rfl) rfl fC (λW hW=>?_) hH ?_
 ·obtain⟨z0,z1,z2,z3⟩:=hW;go_simp
 refine iD 8 (.pointer (some ⟨rb,0,none⟩)) rfl (by kernel_rfl) rfl fC (λW=>by go_simp) (λ_=>hH) ?_;refine iD 9 (.pointer (some ⟨rb,0,none⟩)) rfl (by kernel_rfl) rfl fC (λW=>by go_simp) (λ_=>hH) ?_;refine iD 10 (.pointer (some ⟨rb,1,none⟩)) rfl (by kernel_rfl) rfl fC (λW=>by go_simp) (λ_=>hH) ?_;refine Xo 13 12 11 (.slice ta tn tc) rfl (by kernel_rfl) rfl fC (λW hW=>?_) hH ?_
 ·obtain⟨z0,z1,z2,z3⟩:=hW;go_simp
 refine iD 12 (.int .i64 (tn:Int)) rfl (by kernel_rfl) rfl fC (λW=>by go_simp) (λ_=>hH) ?_;refine ik 14 (.int .i64 (at':Int)) rfl (by kernel_rfl) rfl fC (λW hW=>by go_simp) hH ?_;refine iD 15 (.pointer (some ⟨rb,0,none⟩)) rfl (by kernel_rfl) rfl fC (λW=>by go_simp) (λ_=>hH) ?_;refine iD 16 (.pointer (some ⟨rb,0,none⟩)) rfl (by kernel_rfl) rfl fC (λW=>by go_simp) (λ_=>hH) ?_;refine iD 17 (.pointer (some ⟨rb,7,none⟩)) rfl (by kernel_rfl) rfl fC (λW=>by go_simp) (λ_=>hH) ?_;refine ik 18 (.int .i64 (EN:Int)) rfl (by kernel_rfl) rfl fC (λW hW=>?_) hH ?_
 ·obtain⟨z0,z1,z2,z3⟩:=hW;go_simp
 refine iD 19 (.pointer (some ⟨rb,0,none⟩)) rfl (by kernel_rfl) rfl fC (λW=>by go_simp) (λ_=>hH) ?_;refine iD 20 (.pointer (some ⟨rb,0,none⟩)) rfl (by kernel_rfl) rfl fC (λW=>by go_simp) (λ_=>hH) ?_;refine iD 21 (.pointer (some ⟨rb,3,none⟩)) rfl (by kernel_rfl) rfl fC (λW=>by go_simp) (λ_=>hH) ?_;refine Xn 24 22 (.int .i64 (DP:Int)) rfl (by kernel_rfl) rfl fC (λW hW=>?_) hH ?_
 ·obtain⟨z0,z1,z2,z3⟩:=hW;go_simp
 refine iD 23 (.int .i64 (m:Int)) rfl (by kernel_rfl) rfl fC (λW=>by go_simp) (λ_=>hH) ?_;refine ik 24 (.int .i64 (DD:Int)) rfl (by kernel_rfl) rfl fC (λW hW=>by go_simp) hH ?_;refine nI (rs:=[13,31]) (by kernel_rfl) (by simp) ?_;refine iE.cons (o:=⟨_,_,_,_,_,_⟩) rfl (λK hK=>?_) (iE.cons (o:=⟨_,_,_,_,_,_⟩) rfl (λK hK=>?_) (iE.nil))
 ·go_simp;refine(aM.out w1.drew).mono ?_;rintro e w4 ⟨uu,rfl,aV,-,hb4⟩;have aa:=fD (fI _ w1).drew hb4;clear hb4;refine hK.out _ _ (λ_=>⟨fu aa d0,fu aa d1,fu aa d7,fu aa d3⟩) (λhH2=>?_);clear hK K;replace hH:=hH2 (by kernel_rfl);clear hH2;try simp only[Act.put,fK,fP,fO]
  refine nI (rs:=[25,31]) (by kernel_rfl) (by simp) ?_;refine iE.cons (o:=⟨_,_,_,_,_,_⟩) rfl (λK hK=>?_) (iE.cons (o:=⟨_,_,_,_,_,_⟩) rfl (λK hK=>?_) (iE.nil))
  ·go_simp;refine(ah.out w4 aa uu aV).mono ?_;rintro e w5 ⟨uv,dv,rfl,aK,-,hb5,htl,hto⟩;obtain⟨ua,un,uc,rfl⟩:=sG aK;have bJ:=fD aa hb5;clear aK aV;refine hK.out _ _ (kC (by kernel_rfl)) (λ_=>?_);clear hK K;try simp only[Act.put,fK,fP,fO]
   refine iD 26 (.tuple #[.agg #[.slice ua un uc],.int .i64 v1,.int .i64 (nx:Int),dv]) rfl (by kernel_rfl) rfl fC (λW=>by go_simp) (kC (by kernel_rfl)) ?_;refine iD 27 (.agg #[.slice ua un uc]) rfl (by kernel_rfl) rfl fC (λW=>by go_simp) (kC (by kernel_rfl)) ?_;refine iD 28 (.int .i64 v1) rfl (by kernel_rfl) rfl fC (λW=>by go_simp) (kC (by kernel_rfl)) ?_;refine iD 29 (.int .i64 (nx:Int)) rfl (by kernel_rfl) rfl fC (λW=>by go_simp) (kC (by kernel_rfl)) ?_;refine iD 30 dv rfl (by kernel_rfl) rfl fC (λW=>by go_simp) (kC (by kernel_rfl)) ?_;refine mO 31 (by kernel_rfl) rfl λK hK=>?_
   obtain⟨bt,hbt⟩:=fq (w5.heap.size);obtain⟨w6,af⟩:=fq (w5.alloc (.cells #[.slice none 0 0] 31));have aW:Below w5.heap.size w5 w6:=af▸fo w5 _;have hbx:w6.heap[bt]?=some (.cells #[.slice none 0 0] 31 (0,0)):=by rw[<-af,<-hbt];exact j5 _ _
   have aX:=fD bJ aW;have hlo:w1.heap.size<=bt:=by rw[<-hbt];exact bJ.size
   have aY:=(htl.low aa.size).below aW;have aZ:=fQ (rZ hto aa.size) aW;go_simp;try rw[af]
   try rw[hbt]
   refine hK.out _ _ (kC (by kernel_rfl)) (λ_=>?_);clear hK K;try simp only[Act.put,fK,fP,fO]
   refine mO 32 (by kernel_rfl) rfl λK hK=>?_
   have dM:=iF hbx;have dN:=nH hbx 0;go_simp;refine hK.out _ _ (kC (by kernel_rfl)) (λ_=>?_);clear hK K;try simp only[Act.put,fK,fP,fO]
   refine iD 33 (.int .i64 v1) rfl (by kernel_rfl) rfl fC (λW=>by go_simp) (kC (by kernel_rfl)) ?_;refine iD 34 (.int .i64 (nx:Int)) rfl (by kernel_rfl) rfl fC (λW=>by go_simp) (kC (by kernel_rfl)) ?_;refine iD 35 dv rfl (by kernel_rfl) rfl fC (λW=>by go_simp) (kC (by kernel_rfl)) ?_;refine gH (by kernel_rfl) ?_ _;exact⟨bt,.slice ua un uc,dv,⟨rfl,rfl,rfl,rfl,rfl,rfl,rfl,rfl,rfl,rfl⟩,RV.new aX hbx hlo aY aZ⟩
  obtain⟨bt,hbt⟩:=fq (w4.heap.size);obtain⟨w6,af⟩:=fq (w4.alloc (.cells #[.slice none 0 0] 31));have bK:Below w4.heap.size w4 w6:=af▸fo w4 _;have aB:w6.heap[bt]?=some (.cells #[.slice none 0 0] 31 (0,0)):=by rw[<-af,<-hbt];exact j5 _ _
  have ae:=fD aa bK;have hlo:w1.heap.size<=bt:=by rw[<-hbt];exact aa.size
  have dO:=aV.below bK;go_simp;try rw[af]
  try rw[hbt]
  refine hK.out _ _ (λ_=>⟨fu ae d0,fu ae d1,fu ae d7,fu ae d3⟩) (λhH2=>?_);clear hK K;replace hH:=hH2 (by kernel_rfl);clear hH2;try simp only[Act.put,fK,fP,fO]
  refine mO 25 (by kernel_rfl) rfl λK hK=>?_
  go_simp;refine(ah.out w6 ae uu dO).mono ?_;rintro e w5 ⟨uv,dv,rfl,aK,-,hb5,htl,hto⟩;obtain⟨ua,un,uc,rfl⟩:=sG aK;have aX:=fD ae hb5;have hbx:=(hb5.block bt (il aB)).trans aB;have aY:=htl.low ae.size;have aZ:=rZ hto ae.size;refine hK.out _ _ (kC (by kernel_rfl)) (λ_=>?_);clear hK K;try simp only[Act.put,fK,fP,fO]
  refine iD 26 (.tuple #[.agg #[.slice ua un uc],.int .i64 v1,.int .i64 (nx:Int),dv]) rfl (by kernel_rfl) rfl fC (λW=>by go_simp) (kC (by kernel_rfl)) ?_;refine iD 27 (.agg #[.slice ua un uc]) rfl (by kernel_rfl) rfl fC (λW=>by go_simp) (kC (by kernel_rfl)) ?_;refine iD 28 (.int .i64 v1) rfl (by kernel_rfl) rfl fC (λW=>by go_simp) (kC (by kernel_rfl)) ?_;refine iD 29 (.int .i64 (nx:Int)) rfl (by kernel_rfl) rfl fC (λW=>by go_simp) (kC (by kernel_rfl)) ?_;refine iD 30 dv rfl (by kernel_rfl) rfl fC (λW=>by go_simp) (kC (by kernel_rfl)) ?_;refine mO 32 (by kernel_rfl) rfl λK hK=>?_
  have dM:=iF hbx;have dN:=nH hbx 0;go_simp;refine hK.out _ _ (kC (by kernel_rfl)) (λ_=>?_);clear hK K;try simp only[Act.put,fK,fP,fO]
  refine iD 33 (.int .i64 v1) rfl (by kernel_rfl) rfl fC (λW=>by go_simp) (kC (by kernel_rfl)) ?_;refine iD 34 (.int .i64 (nx:Int)) rfl (by kernel_rfl) rfl fC (λW=>by go_simp) (kC (by kernel_rfl)) ?_;refine iD 35 dv rfl (by kernel_rfl) rfl fC (λW=>by go_simp) (kC (by kernel_rfl)) ?_;refine gH (by kernel_rfl) ?_ _;exact⟨bt,.slice ua un uc,dv,⟨rfl,rfl,rfl,rfl,rfl,rfl,rfl,rfl,rfl,rfl⟩,RV.new aX hbx hlo aY aZ⟩
 obtain⟨bt,hbt⟩:=fq (w1.heap.size);obtain⟨w6,af⟩:=fq (w1.drew.alloc (.cells #[.slice none 0 0] 31));have ae:Below w1.heap.size w1 w6:=af▸fD (fI _ w1).drew (fo w1.drew _);have aB:w6.heap[bt]?=some (.cells #[.slice none 0 0] 31 (0,0)):=by rw[<-af,<-hbt];exact j5 _ _
 have hlo:w1.heap.size<=bt:=by rw[<-hbt];exact fB _
 go_simp;try rw[af]
 try rw[show(w1.alloc (.cells #[.slice none 0 0] 31)).drew=w6 from af]
 try rw[hbt]
 refine hK.out _ _ (λ_=>⟨fu ae d0,fu ae d1,fu ae d7,fu ae d3⟩) (λhH2=>?_);clear hK K;replace hH:=hH2 (by kernel_rfl);clear hH2;try simp only[Act.put,fK,fP,fO]
 refine mO 13 (by kernel_rfl) rfl λK hK=>?_
 go_simp;refine(aM.out w6).mono ?_;rintro e w4 ⟨uu,rfl,aV,-,hb4⟩;have aa:=fD ae hb4;have bL:=(hb4.block bt (il aB)).trans aB;clear hb4;refine hK.out _ _ (λ_=>⟨fu aa d0,fu aa d1,fu aa d7,fu aa d3⟩) (λhH2=>?_);clear hK K;replace hH:=hH2 (by kernel_rfl);clear hH2;try simp only[Act.put,fK,fP,fO]
 refine mO 25 (by kernel_rfl) rfl λK hK=>?_
 go_simp;refine(ah.out w4 aa uu aV).mono ?_;rintro e w5 ⟨uv,dv,rfl,aK,-,hb5,htl,hto⟩;obtain⟨ua,un,uc,rfl⟩:=sG aK;have aX:=fD aa hb5;have hbx:=(hb5.block bt (il bL)).trans bL;have aY:=htl.low aa.size;have aZ:=rZ hto aa.size;refine hK.out _ _ (kC (by kernel_rfl)) (λ_=>?_);clear hK K;try simp only[Act.put,fK,fP,fO]
 refine iD 26 (.tuple #[.agg #[.slice ua un uc],.int .i64 v1,.int .i64 (nx:Int),dv]) rfl (by kernel_rfl) rfl fC (λW=>by go_simp) (kC (by kernel_rfl)) ?_;refine iD 27 (.agg #[.slice ua un uc]) rfl (by kernel_rfl) rfl fC (λW=>by go_simp) (kC (by kernel_rfl)) ?_;refine iD 28 (.int .i64 v1) rfl (by kernel_rfl) rfl fC (λW=>by go_simp) (kC (by kernel_rfl)) ?_;refine iD 29 (.int .i64 (nx:Int)) rfl (by kernel_rfl) rfl fC (λW=>by go_simp) (kC (by kernel_rfl)) ?_;refine iD 30 dv rfl (by kernel_rfl) rfl fC (λW=>by go_simp) (kC (by kernel_rfl)) ?_;refine mO 32 (by kernel_rfl) rfl λK hK=>?_
 have dM:=iF hbx;have dN:=nH hbx 0;go_simp;refine hK.out _ _ (kC (by kernel_rfl)) (λ_=>?_);clear hK K;try simp only[Act.put,fK,fP,fO]
 refine iD 33 (.int .i64 v1) rfl (by kernel_rfl) rfl fC (λW=>by go_simp) (kC (by kernel_rfl)) ?_;refine iD 34 (.int .i64 (nx:Int)) rfl (by kernel_rfl) rfl fC (λW=>by go_simp) (kC (by kernel_rfl)) ?_;refine iD 35 dv rfl (by kernel_rfl) rfl fC (λW=>by go_simp) (kC (by kernel_rfl)) ?_;refine gH (by kernel_rfl) ?_ _;exact⟨bt,.slice ua un uc,dv,⟨rfl,rfl,rfl,rfl,rfl,rfl,rfl,rfl,rfl,rfl⟩,RV.new aX hbx hlo aY aZ⟩
end
end Go.Proofs.YtmkkdjpebbdikaaGreatDoor

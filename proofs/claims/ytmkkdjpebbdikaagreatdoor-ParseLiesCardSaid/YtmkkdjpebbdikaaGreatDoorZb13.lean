import Derived.Test.YtmkkdjpebbdikaaGreatDoorZb11
set_option linter.all false
set_option maxHeartbeats 16000000
set_option maxRecDepth 100000
namespace Go.Proofs.YtmkkdjpebbdikaaGreatDoor
open Go.RowKit Tryz
def I1:=@Below.heap_alloc
section
open Go.RowKit
open Sq
open Ar
theorem um{w w':World}(hb:Below w.heap.size w w')(r:Option Nat):w.grownBy w' r:=⟨hb.os,hb.tape,hb.output,hb.size,λk hk _=>hb.block k hk⟩
theorem ai9{w w':World}(h:w.grownBy w' none)(r:Option Nat):w.grownBy w' r:=⟨h.os,h.tape,h.output,h.size,λk hk _=>h.block k hk (λe=>uP)⟩
theorem Km{w w':World}{r:Option Nat}(h:w.grownBy w' r){b:Nat}(hb:r=some b\/w.heap.size<=b)(o:Nat)(u:Value):w.grownBy (w'.setCell ⟨b,o,none⟩ u) r:=
 ⟨h.os,h.tape,h.output,by simp[World.setCell];exact h.size,λk hk hne=>(jo _ _ _ _ (λe=>by
  have e:k=b:=e;rcases hb with hb|hb
  ·exact hne (by rw[hb,e])
  ·omega)).trans (h.block k hk hne)⟩
theorem KJ{w w' w'':World}{r:Option Nat}(h:w.grownBy w' r)(hb:Below w'.heap.size w' w''):w.grownBy w'' r:=h.trans (um hb r)
theorem afA{w w':World}{r:Option Nat}(h:w.grownBy w' r):w.grownBy w'.drew r:=KJ h (fD _ _).drew
theorem Ri{w w':World}{g B:Nat}(h:w.grownBy w' (some g))(hB:B<=g)(hw:B<=w.heap.size):Below B w w':=(fD B w).grown h hw (λk hk=>by have e:g=k:=iG hk;omega)
def EI(R:List Nd)(B g:Nat)(v:Value)(w:World)(e:Ending)(w':World):Prop:=
 e=.returned (.tuple #[])/\(∃L,L.map Ln.nd=R/\PT w' B v L)/\w.grownBy w' (some g)
theorem PT.drew{w:World}{B:Nat}{v:Value}{L:List Ln}(h:PT w B v L):PT w.drew B v L:=h.below (fD _ _).drew
theorem abk(g cap B n:Nat)(L:List Ln)(k jC:Int)(w:World)(h:PT w B (.slice (some ⟨g,0,none⟩) n cap) L)(hn:L.length=n)(hG:Ar.dR (L.map Ln.nd))(hk1:-1<=k)(hk2:k<n):
 Calls prog 187 #[.agg #[.slice (some ⟨g,0,none⟩) n cap],.agg #[.int .i64 k,.int .i64 jC]] w (EI (gY (L.map Ln.nd) k jC) B g (.slice (some ⟨g,0,none⟩) n cap) w):=by
 obtain⟨R,hR⟩:=eu (gY (L.map Ln.nd) k jC);rw[hR];have HQ:=dY (λw'=>show((∃L,L.map Ln.nd=R/\PT w' B (.slice (some ⟨g,0,none⟩) n cap) L)/\w.grownBy w' (some g))->EI R B g (.slice (some ⟨g,0,none⟩) n cap) w (.returned (.tuple #[])) w' from λh=>⟨rfl,h⟩);obtain⟨Q,hQ⟩:=eu (EI R B g (.slice (some ⟨g,0,none⟩) n cap) w);rw[hQ]at HQ⊢;have hcap:=uW h.row;simp only[maxLen]at hcap;obtain⟨-,hc1,hc2⟩:=hcap;obtain⟨Bt,pW⟩:=eu (w.heap.size);obtain⟨Bg,hBg⟩:=eu (w.heap.size+1);obtain⟨w1,hw1⟩:=eu ((w.alloc (.cells #[.slice (some ⟨g,0,none⟩) n cap] 31)).alloc (.cells #[.int .i64 k,.int .i64 jC] 186));have hgw:B<=g/\g<w.heap.size:=h.row.lt g rfl
 have hb1:Below w.heap.size w w1:=by rw[<-hw1];exact gD (dZ w _) _
 have ct:w1.cell? ⟨Bt,0,none⟩=some (.slice (some ⟨g,0,none⟩) n cap):=yQ
 have hsz:(w.alloc (.cells #[.slice (some ⟨g,0,none⟩) n cap] 31)).heap.size=Bg:=by rw[size_alloc];exact hBg
 have ax:w1.cell? ⟨Bg,0,none⟩=some (.int .i64 k):=AP
 have ag:w1.cell? ⟨Bg,1,none⟩=some (.int .i64 jC):=AP
 have ht1:g≠Bt:=dS
 have ht2:g≠Bg:=dS
 have H0:=dY (h.below hb1);have HB0:=dY (um hb1 (some g));obtain⟨ah,ai,aj,HW1,rJ,ak⟩:=kG hG hR hn hw1 pW hBg;clear h hG hR hn hQ hw1 pW hBg hb1 hsz;obtain⟨aB,-⟩:=hgw
 go_enter func187,ntmps187
 go_upto_region 1 with fail
 rw[HW1.out,ak.out,rJ.out];clear HW1 ak rJ;go_wp2_with fail
 obtain⟨av,aa⟩:=fw ct ag;clear ax ct ag
 go_loopw [4] (λkv wr=>∃(k:Int)(L:List Ln),kv=.int .i64 k/\-1<=k/\k<n/\Hid (PT wr B (.slice (some ⟨g,0,none⟩) n cap) L)/\Hid (Ar.dR (L.map Ln.nd))/\Hid (gY (L.map Ln.nd) k jC=R)/\Hid (L.length=n)/\Hid (w.grownBy wr (some g))/\Hid (wr.cell? ⟨Bt,0,none⟩=some (.slice (some ⟨g,0,none⟩) n cap))/\Hid (wr.cell? ⟨Bg,1,none⟩=some (.int .i64 jC))) (λkv _=>(intOf kv+1).toNat)
 case atStart=>exact⟨k,L,rfl,hk1,hk2,H0,ah,ai,aj,HB0,av,aa⟩
 case round=>
  clear hk1 hk2 H0 ah ai aj HB0 av aa;obtain⟨k,L,rfl,hk1,hk2,HO,HG,HR,HN,HB,ay,az⟩:=hrel;by_cases hneg:k<0
  ·obtain rfl:k=-1:=by omega
   have hr:=HR.out;rw[Fq _ _ _ dS]at hr;have HD:=dY (HQ.out wr ⟨⟨L,hr,HO.out⟩,HB.out⟩);clear hr hk2;go_wp2_with fail
   go_end0
   exact HD.out
  ·obtain⟨i,rfl⟩:∃i:Nat,k=(i:Int):=⟨k.toNat,dS⟩
   have hin:i<n:=dS
   obtain⟨p,hp⟩:∃p,L[i]?=some p:=⟨_,fu (by rw[HN.out];exact hin)⟩
   have hrow:=HO.out.row;have c2:wr.cell? ⟨g,i*6+2,none⟩=some (.int .i64 p.nd.t):=by
    have:=hrow.cells (g:=g) rfl _ _ ((iJ fZ L i p hp 2 dU).trans rfl);rw[fT,jY]at this;exact this
   have c3:wr.cell? ⟨g,i*6+3,none⟩=some (.int .i64 p.nd.u):=by
    have:=hrow.cells (g:=g) rfl _ _ ((iJ fZ L i p hp 3 dU).trans rfl);rw[fT,jY]at this;exact this
   obtain⟨g',cap',hv,-,hfz,-,-⟩:=jf hrow mP;have e1:=(lX hv).1;injection e1 with e1
   injection e1 with e1
   subst e1;have f2:=hfz (i*6+2);have d3:=yX (o:=i*6+2) (v:=.int .i64 (max p.nd.t jC)) dS c3;have e3:=eP d3;have hx:(L.map Ln.nd)[i]?=some p.nd:=by rw[kS,hp];rfl
   have hu:=HG.out.up i p.nd hx;have hst:=Fp (L.map Ln.nd) i jC p.nd HG.out dS P4;rw[jd]at hst;have hO2:=HO.out.set i 2 p {p with nd:={p.nd with t:=max p.nd.t jC }} (.int .i64 (max p.nd.t jC)) hp rfl dU ((HO.out.kids p (gW hp)).nd _ rfl);have hmap:(L.set i {p with nd:={p.nd with t:=max p.nd.t jC }}).map Ln.nd=(L.map Ln.nd).set i {p.nd with t:=max p.nd.t jC }:=by rw[Gj]
   obtain⟨L2,hL2⟩:=eu (L.set i {p with nd:={p.nd with t:=max p.nd.t jC }});rw[hL2]at hO2 hmap;have xm:=dY hO2.drew;have HG2:=dY (show Ar.dR (L2.map Ln.nd)by rw[hmap];exact wN HG.out i p.nd hx _ (OX _ _));have HR2:=dY (show gY (L2.map Ln.nd) p.nd.u jC=R by rw[hmap,<-hst];exact HR.out);have aA:=dY (show L2.length=n by rw[<-hL2,nQ];exact HN.out);have HB2:=dY (afA (Km HB.out (.inl rfl) (i*6+2) (.int .i64 (max p.nd.t jC))));have ct:=ay.out;have cg:=az.out;have ae:=dY (eP (mQ (o:=i*6+2) (v:=.int .i64 (max p.nd.t jC)) ht1 ct));have af:=dY (eP (mQ (o:=i*6+2) (v:=.int .i64 (max p.nd.t jC)) ht2 cg));have hi2:(i:Int)<(n:Int):=dS
   have hup:¬((i:Int)<=p.nd.u):=dS
   clear hrow hv hfz hx hst hO2 hmap hL2 hp;go_upto_region 4 with fail
   go_region
   obtain⟨w2,hw2⟩:=eu ((wr.setCell ⟨g,i*6+2,none⟩ (.int .i64 (max p.nd.t jC))).drew);rw[hw2]at xm HB2 ae af e3;rw[hw2];clear hw2 d3 c2 c3 f2 ct cg;go_wp2_with fail
   go_roundw
   case rel=>exact⟨p.nd.u,L2,rfl,dS,dS,xm,HG2,HR2,aA,HB2,ae,af⟩
   case measure=>simp[intOf];omega
end
section
open Go.RowKit
open Sq
open Ar
section
variable {w0 w w6:World}{rb:Nat}{tv nv dv:Value}{l:List Tk}{L:List Ln}{D:List Fl.Dg}{o:Obj}
theorem RM.push{v6:Value}{p:Ln}(h:RM w0 w rb tv nv dv l L D)(hv:p.val=.slice none 0 0)(hks:p.nd.ks=[])(hg:(w.alloc o).grownBy w6 nv.ownBlock)(hown:w6.ownsRow w0.heap.size 38 6 v6 (L++[p]).length (fZ.all (L++[p])))
 (hat:v6.ownBlock=nv.ownBlock\/v6.ownBlock=some (w.alloc o).heap.size):
 Below w0.heap.size w0 w6/\w6.heap[rb]?=some (.cells #[tv,nv,dv] 154 (0,0))/\
 RM w0 (w6.setCell ⟨rb,1,none⟩ v6) rb tv v6 dv l (L++[p]) D/\FP w (w6.setCell ⟨rb,1,none⟩ v6) rb (jX nv dv L) (jX v6 dv (L++[p])):=by
 have hsz:(w.alloc o).heap.size=w.heap.size+1:=size_alloc w o;have hoff:nv.ownBlock≠some rb:=eU h.nodes.row h.box dU;have aa:w6.heap[rb]?=some (.cells #[tv,nv,dv] 154 (0,0)):=
  ((hg.block rb P5 (λe=>hoff e.symm)).trans ((dZ w o).block rb h.lt)).trans h.box
 have hO:=h.nodes.push (p:=p) (by rw[hks,hv];exact kX encI _ _) (λj q _ gg hgg=>by rw[hv]at hgg;cases hgg) hg hown;have hT:=(h.told.alloc o).kept hg (nE (eX h.nodes.row h.told dU));have hb6:Below w0.heap.size w0 w6:=(h.kL.alloc h.kL.size o).grown hg P6 (λq hq=>(h.nodes.row.lt q hq).1);refine⟨hb6,aa,h.afv hb6 aa hO hT,?_,λk hk1 hk2 hn=>?_,λk hk=>?_⟩
 ·have h1:=hg.size;have h2:(w6.setCell ⟨rb,1,none⟩ v6).heap.size=w6.heap.size:=by simp
  omega
 ·rw[jo _ _ _ _ hk2,hg.block k dS (λe=>hn (.inl e.symm)),(dZ w o).block k hk1]
 ·rcases hk with hk|hk|⟨q,hq,hk⟩
  ·rcases hat with e|e
   ·exact .inl (.inl (e▸hk))
   ·rw[e]at hk;injection hk with hk
    exact .inr dS
  ·exact yV
  ·rw[kC]at hq;rcases hq with hq|hq
   ·exact .inl (.inr (.inr ⟨q,hq,hk⟩))
   ·simp at hq;subst hq;rw[hv]at hk;cases hk
theorem RM.kid{g n cap i:Nat}{p:Ln}{a':Option Addr}{n' c':Nat}(h:RM w0 w rb tv (.slice (some ⟨g,0,none⟩) n cap) dv l L D)(hp:L[i]?=some p)(z:Int)(hg:(w.alloc o).grownBy w6 p.val.ownBlock)
 (hown:w6.ownsRow w0.heap.size 3 1 (.slice a' n' c') (p.nd.ks++[z]).length (encI.all (p.nd.ks++[z]))) (hat:(Value.slice a' n' c').ownBlock=p.val.ownBlock\/(Value.slice a' n' c').ownBlock=some (w.alloc o).heap.size):
 w6.heap[rb]?=w.heap[rb]?/\w6.heap[g]?=w.heap[g]? /\
 RM w0 (w6.setCell ⟨g,i*6+4,none⟩ (.slice a' n' c')) rb tv (.slice (some ⟨g,0,none⟩) n cap) dv l (L.set i ⟨{p.nd with ks:=p.nd.ks++[z]},a',n',c'⟩) D/\
 FP w (w6.setCell ⟨g,i*6+4,none⟩ (.slice a' n' c')) rb (jX (.slice (some ⟨g,0,none⟩) n cap) dv L) (jX (.slice (some ⟨g,0,none⟩) n cap) dv (L.set i ⟨{p.nd with ks:=p.nd.ks++[z]},a',n',c'⟩)):=by
 have hsz:(w.alloc o).heap.size=w.heap.size+1:=size_alloc w o;have hpk:=h.nodes.kids i p hp;have hoff:p.val.ownBlock≠some rb:=eU hpk h.box dU;have hgr:=h.rows (.inl rfl:jX (.slice (some ⟨g,0,none⟩) n cap) dv L g);have aa:p.val.ownBlock≠some g:=λe=>eX hpk h.nodes.row dU g e rfl
 have b1:w6.heap[rb]?=w.heap[rb]?:=(hg.block rb P5 (λe=>hoff e.symm)).trans ((dZ w o).block rb h.lt);have b2:w6.heap[g]?=w.heap[g]?:=(hg.block g (by rw[hsz];exact Nat.lt_succ_of_lt hgr.2.1) (λe=>aa e.symm)).trans ((dZ w o).block g hgr.2.1);have st:∀k,k≠g->(w6.setCell ⟨g,i*6+4,none⟩ (.slice a' n' c')).heap[k]?=w6.heap[k]?:=λk hk=>jo _ _ _ _ hk
 have hb6:Below w0.heap.size w0 w6:=(h.kL.alloc h.kL.size o).grown hg P6 (λq hq=>(hpk.lt q hq).1);have hT:=(h.told.alloc o).kept hg (nE (eX hpk h.told dU));have hdg:dv.ownBlock≠some g:=λe=>eX h.nodes.row h.told dU g rfl e
 refine⟨b1,b2,⟨hb6.setCell (p:=⟨g,i*6+4,none⟩) hgr.1 _,h.toks,h.size,h.low,((st rb (λe=>hgr.2.2 e.symm)).trans b1).trans h.box,h.nodes.kid hp z hg hown hat,fE hT (λk hk=>st k (λe=>hdg (e▸hk)))⟩,?_,λk hk1 hk2 hn=>?_,λk hk=>?_⟩
 ·have h1:=hg.size;have h2:(w6.setCell ⟨g,i*6+4,none⟩ (.slice a' n' c')).heap.size=w6.heap.size:=by simp
  omega
 ·rw[st k (λe=>hn (.inl (by rw[e];rfl))),hg.block k dS (λe=>hn (.inr (.inr ⟨p,gW hp,e.symm⟩))),(dZ w o).block k hk1]
 ·rcases hk with hk|hk|⟨q,hq,hk⟩
  ·exact wH
  ·exact yV
  ·obtain⟨j,hj⟩:=jy hq;rw[oI]at hj;split at hj
   ·split at hj
    ·injection hj with hj
     subst hj;rcases hat with e|e
     ·exact .inl (.inr (.inr ⟨p,gW hp,e▸hk⟩))
     ·have hk:(Value.slice a' n' c').ownBlock=some k:=hk;rw[e]at hk;injection hk with hk
      exact .inr dS
    ·cases hj
   ·exact .inl (.inr (.inr ⟨q,gW hj,hk⟩))
theorem RM.more{v6:Value}{x:Fl.Dg}(h:RM w0 w rb tv nv dv l L D)(hg:(w.alloc o).grownBy w6 dv.ownBlock)(hown:w6.ownsRow w0.heap.size 40 3 v6 (D++[x]).length (fK.all (D++[x])))
 (hat:v6.ownBlock=dv.ownBlock\/v6.ownBlock=some (w.alloc o).heap.size):
 Below w0.heap.size w0 w6/\w6.heap[rb]?=some (.cells #[tv,nv,dv] 154 (0,0))/\
 RM w0 (w6.setCell ⟨rb,2,none⟩ v6) rb tv nv v6 l L (D++[x])/\FP w (w6.setCell ⟨rb,2,none⟩ v6) rb (jX nv dv L) (jX nv v6 L):=by
 have hsz:(w.alloc o).heap.size=w.heap.size+1:=size_alloc w o;have hoff:dv.ownBlock≠some rb:=eU h.told h.box dU;have aa:w6.heap[rb]?=some (.cells #[tv,nv,dv] 154 (0,0)):=
  ((hg.block rb P5 (λe=>hoff e.symm)).trans ((dZ w o).block rb h.lt)).trans h.box
 have hO:OT w6 w0.heap.size nv L:=⟨(h.nodes.row.alloc o).kept hg (nE (eX h.told h.nodes.row dU)),λi p hp=>((h.nodes.kids i p hp).alloc o).kept hg (nE (eX h.told (h.nodes.kids i p hp) dU)),h.nodes.apart⟩
 have hb6:Below w0.heap.size w0 w6:=(h.kL.alloc h.kL.size o).grown hg P6 (λq hq=>(h.told.lt q hq).1);refine⟨hb6,aa,h.ai3 hb6 aa hO hown,?_,λk hk1 hk2 hn=>?_,λk hk=>?_⟩
 ·have h1:=hg.size;have h2:(w6.setCell ⟨rb,2,none⟩ v6).heap.size=w6.heap.size:=by simp
  omega
 ·rw[jo _ _ _ _ hk2,hg.block k dS (λe=>hn (.inr (.inl e.symm))),(dZ w o).block k hk1]
 ·rcases hk with hk|hk|⟨q,hq,hk⟩
  ·exact wH
  ·rcases hat with e|e
   ·exact .inl (.inr (.inl (e▸hk)))
   ·rw[e]at hk;injection hk with hk
    exact .inr dS
  ·exact .inl (.inr (.inr ⟨q,hq,hk⟩))
end
end
section
open Go.RowKit
open Sg
open Sq
def abl(x:Rw.R):List Value:=[.int .i64 x.kind,.int .i64 x.from',.int .i64 x.bu,.int .i64 x.eT]
def encR:mW Rw.R:=⟨abl,4,dU,λ_=>rfl,λx u hu=>by
 cases hu with
 |head=>rfl
 |tail _ hu=>cases hu with
  |head=>rfl
  |tail _ hu=>cases hu with
   |head=>rfl
   |tail _ hu=>cases hu with
    |head=>rfl
    |tail _ hu=>cases hu⟩
abbrev Vj(x:Rw.R):Value:=.agg #[.int .i64 x.kind,.int .i64 x.from',.int .i64 x.bu,.int .i64 x.eT]
theorem tyR:Ty prog encR 53 61 32:=Ty.of (z:=.agg #[.int .i64 0,.int .i64 0,.int .i64 0,.int .i64 0]) underlying53 dV dV rfl (λw=>dV)
def abm(x:Rw.E):List Value:=[.bool x.dash,.int .i64 x.eT,.int .i64 x.from',.int .i64 x.bu]
def uK:mW Rw.E:=⟨abm,4,dU,λ_=>rfl,λx u hu=>by
 cases hu with
 |head=>rfl
 |tail _ hu=>cases hu with
  |head=>rfl
  |tail _ hu=>cases hu with
   |head=>rfl
   |tail _ hu=>cases hu with
    |head=>rfl
    |tail _ hu=>cases hu⟩
theorem tyE:Ty prog uK 93 97 32:=Ty.of (z:=.agg #[.bool false,.int .i64 0,.int .i64 0,.int .i64 0]) underlying93 dV dV rfl (λw=>dV)
theorem EJ{w:World}{a:Option Addr}{cap:Nat}{l:List Rw.R}(h:Reads encR w (.slice a l.length cap) l)(j:Nat)(x:Rw.R)(hj:l[j]?=some x):
 ∃b off,a=some ⟨b,off,none⟩/\w.cell? ⟨b,off+j*4,none⟩=some (.int .i64 x.kind)/\w.cell? ⟨b,off+j*4+1,none⟩=some (.int .i64 x.from')/\w.cell? ⟨b,off+j*4+2,none⟩=some (.int .i64 x.bu)/\w.cell? ⟨b,off+j*4+3,none⟩=some (.int .i64 x.eT):=by
 obtain⟨b,off,h1,h2⟩:=h.at_ j x hj;exact⟨b,off,h1,h2 0 _ rfl,h2 1 _ rfl,h2 2 _ rfl,h2 3 _ rfl⟩
theorem afB{w:World}{a:Option Addr}{cap:Nat}{l:List Rw.E}(h:Reads uK w (.slice a l.length cap) l)(j:Nat)(x:Rw.E)(hj:l[j]?=some x):
 ∃b off,a=some ⟨b,off,none⟩/\w.cell? ⟨b,off+j*4,none⟩=some (.bool x.dash)/\w.cell? ⟨b,off+j*4+1,none⟩=some (.int .i64 x.eT)/\w.cell? ⟨b,off+j*4+2,none⟩=some (.int .i64 x.from')/\w.cell? ⟨b,off+j*4+3,none⟩=some (.int .i64 x.bu):=by
 obtain⟨b,off,h1,h2⟩:=h.at_ j x hj;exact⟨b,off,h1,h2 0 _ rfl,h2 1 _ rfl,h2 2 _ rfl,h2 3 _ rfl⟩
def Rj(L:List Rw.R)(w:World)(e:Ending)(w':World):Prop:=
 ∃u,e=.returned u/\w'.ownsRow w.heap.size 61 4 u L.length (encR.all L)/\Below w.heap.size w w'
def Rk(t:TypeId)(L:List Rw.E)(n:Nat)(w:World)(e:Ending)(w':World):Prop:=
 ∃u,e=.returned (.tuple #[u,.int .i64 n])/\w'.ownsRow w.heap.size t 4 u L.length (uK.all L)/\Below w.heap.size w w'
end
section
open Go.RowKit
open Sq
open Ar
def aif(R:List Nd)(B g:Nat)(w:World)(e:Ending)(w':World):Prop:=
 ∃u,e=.returned (.agg #[u])/\(∃L,L.map Ln.nd=R/\PT w' B u L)/\w.grownBy w' (some g)
theorem FH(w:World)(o1 o2 o3:Obj):∃w1,((w.alloc o1).alloc o2).alloc o3=w1/\Below w.heap.size w w1/\w1.heap[w.heap.size]?=some o1/\w1.heap[w.heap.size+1]?=some o2/\w1.heap[w.heap.size+2]?=some o3:=by
 refine⟨_,rfl,gD (gD (dZ w _) _) _,?_,?_,?_⟩
 ·exact(I1 _ _ _ eQ).trans ((I1 _ _ _ eG).trans (lz _ _))
 ·have h:=lz (w.alloc o1) o2;rw[size_alloc]at h;exact(I1 _ _ _ eG).trans h
 ·have h:=lz ((w.alloc o1).alloc o2) o3;rw[size_alloc,size_alloc]at h;exact h
theorem acu(w:World)(z:Int):∀j c,(encI.all [z])[j]?=some c->(w.alloc (.cells #[.int .i64 z] 3)).drew.cell? ⟨w.heap.size,j,none⟩=some c:=by
 intro j c hj;show(w.alloc (.cells #[.int .i64 z] 3)).cell? ⟨w.heap.size,j,none⟩=some c;rw[yJ]
 simpa [mW.all,encI]using hj
theorem full_of{w:World}{B:Nat}{p:Ln}(h:GQ w B p)(hf:p.c=p.n):Full encI w p.val p.nd.ks:=by
 have hn:=KD h.reads;exact⟨h.reads,p.a,by show Value.slice p.a p.n p.c=_;rw[hf,hn]⟩
theorem alV(g cap B N i:Nat)(L:List Ln)(kind f t:Int)(w:World)(h:PT w B (.slice (some ⟨g,0,none⟩) N cap) L)(hf:∀p∈L,p.c=p.n)(hn:L.length=N)(hN:N<=20000)(p:Ln)(hp:L[i]?=some p)(hpk:p.nd.ks.length<=20000):
 Calls prog 186 #[.agg #[.slice (some ⟨g,0,none⟩) N cap],.agg #[.int .i64 i,.int .i64 t,.int .i64 kind,.int .i64 f]] w
  (aif (((L.map Ln.nd)++[(⟨kind,f,t,(i:Int),[],false⟩:Nd)]).set i {p.nd with ks:=p.nd.ks++[(N:Int)]}) B g w):=by
 obtain⟨R,hR⟩:=eu (((L.map Ln.nd)++[(⟨kind,f,t,(i:Int),[],false⟩:Nd)]).set i {p.nd with ks:=p.nd.ks++[(N:Int)]});rw[hR];have HQ:=dY (λu w'=>show((∃L,L.map Ln.nd=R/\PT w' B u L)/\w.grownBy w' (some g))->aif R B g w (.returned (.agg #[u])) w' from λh=>⟨u,rfl,h⟩);obtain⟨Q,hQ⟩:=eu (aif R B g w);rw[hQ]at HQ⊢;have hi:i<N:=by rw[<-hn];exact(eY.1 hp).1
 have hcap:=uW h.row;simp only[maxLen]at hcap;obtain⟨-,hc1,hc2⟩:=hcap;obtain⟨hgl,hgw⟩:B<=g/\g<w.heap.size:=h.row.lt g rfl
 obtain⟨w1,hw1,hb1,bT,bA,bR⟩:=FH w (.cells #[.slice (some ⟨g,0,none⟩) N cap] 31) (.cells #[.int .i64 i,.int .i64 t,.int .i64 kind,.int .i64 f] 188) (.cells #[.slice none 0 0] 31);obtain⟨Bt,pW⟩:=eu (w.heap.size);obtain⟨Ba,hBa⟩:=eu (w.heap.size+1);obtain⟨Br,hBr⟩:=eu (w.heap.size+2);rw[pW]at bT;rw[hBa]at bA;rw[hBr]at bR;have ht1:Bt≠g:=dS
 have ht2:Ba≠g:=dS
 have ht3:Br≠g:=dS
 have bG:B<=Bt:=dS
 have aG:w.heap.size<=Bt:=dS
 have aH:w.heap.size<=Br:=dS
 have bH:B<=Br:=dS
 have bn:Bt≠Br:=dS
 obtain⟨wx,hwx⟩:=eu ((w1.alloc (.cells #[.int .i64 (N:Int)] 3)).drew);have hbx:Below w1.heap.size w1 wx:=by rw[<-hwx];exact(dZ w1 _).drew
 have hX:=(h.below hb1).below hbx;have hBw1:B<=w1.heap.size:=by have:=hb1.size;omega
 have aI:B<=wx.heap.size:=by have:=hbx.size;omega
 have hnew:=acu w1 (N:Int);rw[hwx]at hnew;have hpm:=gW hp;have hfu:=full_of (hX.kids p hpm) (hf p hpm);obtain⟨aJ,mE,HX,L5⟩:=oK hfu hnew hX hwx;have aa:=dY (show w.grownBy wx (some g)from KJ (um hb1 (some g)) hbx);have xT:=(hbx.block Bt (gK bT)).trans bT;have xA:=(hbx.block Ba (gK bA)).trans bA;have xR:=(hbx.block Br (gK bR)).trans bR;obtain⟨ah,ai,aj⟩:=je xT xA xR;have c4:w1.cell? ⟨g,i*6+4,none⟩=some p.val:=by
  have:=(h.below hb1).row.cells (g:=g) rfl _ _ ((iJ fZ L i p hp 4 dU).trans rfl);rw[fT,jY]at this;exact this
 obtain⟨a4,bq,hv4⟩:=hfu.1.shape;obtain⟨n4,ak⟩:=eu (p.nd.ks.length);have hm1:n4+1<=maxLen:=qV
 have hm2:(n4+1)*8<=140737488355328:=dS
 have bz:=dY (show p.nd.ks.length+1<=maxLen by rw[ak];exact hm1);have qx:=dY (show(p.nd.ks.length+1)*8<=140737488355328 by rw[ak];exact hm2);rw[ak]at hv4;have bI:=dY hv4;rw[hv4]at c4 aJ;have ct:=jh bT;have aK:=λo=>iL (o:=o) c4
 have aL:=λo=>iL (o:=o) ct
 have aM:=fq bA 0;obtain⟨HP,HN,HR,HW1,rJ,yn⟩:=kG hp hn hR hw1 pW hBa;have ng:=dY hBr;have hii:(i:Int)<(N:Int):=dS
 clear h hf hn hp hpk hR hQ hw1 hb1 bT bA bR pW hBa hBr hX hbx hnew hpm hfu hwx xT xA xR hv4 ak hm1 hm2
 go_enter func186,ntmps186
 go_upto_region 1 with fail
 rw[HW1.out,ng.out,yn.out,rJ.out];clear HW1 ng yn rJ;go_upto_region 2 with fail
 go_cut [] (λwz=>∃L3,Hid (PT wz B (.slice (some ⟨g,0,none⟩) N cap) L3)/\Hid (L3.map Ln.nd++[(⟨kind,f,t,(i:Int),[],false⟩:Nd)]=R)/\Hid (L3.length=N)/\Hid (wz.heap[Bt]?=some (.cells #[.slice (some ⟨g,0,none⟩) N cap] 31 (0,0)))/\Hid (wz.heap[Ba]?=some (.cells #[.int .i64 i,.int .i64 t,.int .i64 kind,.int .i64 f] 188 (0,0)))/\Hid (wz.heap[Br]?=some (.cells #[.slice none 0 0] 31 (0,0)))/\Hid (w.grownBy wz (some g)))
 case first=>
  go_region_law ((refine BS tyI rfl (.tmp 16) (.tmp 20) rfl (.slice a4 n4 bq) p.nd.ks rfl (by rw[L5.out];exact aJ.out) w1.heap.size 1 [(N:Int)] rfl dU rfl (by rw[L5.out];exact mE.out) bz.out qx.out ?_;rw[L5.out];intro v2 w2 hown2 hg2;obtain⟨a2,c2,hv2⟩:=(Reads.fo (E:=encI) hown2).shape;obtain⟨n2,hn2⟩:∃n2,(p.nd.ks++[(N:Int)]).length=n2:=⟨_,rfl⟩;rw[hn2]at hv2;clear hn2;subst hv2;have xm:=dY hown2;have o9:=dY (HX.out.keep (HX.out.row.kept hg2 (.inr (by simp[Value.ownBlock]))) (FC hg2));have aN:=dY ((hg2.block Bt (gK ah.out) (λe=>uP)).trans ah.out);have aO:=dY ((hg2.block Ba (gK ai.out) (λe=>uP)).trans ai.out);have aP:=dY ((hg2.block Br (gK aj.out) (λe=>uP)).trans aj.out);have HB2:=dY (aa.out.trans (ai9 hg2 (some g)));have d4:w2.cell? ⟨g,i*6+4,none⟩=some p.val:=(by have h5:=o9.out.row.cells (g:=g) rfl _ _ ((iJ fZ L i p HP.out 4 dU).trans rfl);rw[fT,jY]at h5;exact h5);obtain⟨gx,bJ,aQ,-,hfx,-,-⟩:=jf (E:=fZ) o9.out.row mP;have ex:=(lX aQ).1;injection ex with ex;injection ex with ex;have bB:w2.frozen? ⟨g,i*6+4,none⟩=false:=Jl;clear hown2 hg2 aQ hfx ex))
  all_goals
   obtain⟨p',hp'⟩:∃p':Ln,(⟨{p.nd with ks:=p.nd.ks++[(N:Int)]},a2,n2,c2⟩:Ln)=p':=⟨_,rfl⟩
   have ay:GQ w2 B p':=by
    rw[<-hp'];exact GQ.own (x:={p.nd with ks:=p.nd.ks++[(N:Int)]}) (lK xm.out aI)
   have hp3:=o9.out.set i 4 p p' (.slice a2 n2 c2) HP.out (by rw[<-hp'];rfl) dU ay;have hL3:(L.set i p').map Ln.nd++[(⟨kind,f,t,(i:Int),[],false⟩:Nd)]=R:=by
    rw[<-HR.out,Gj,<-hp',aez _ _ (by rw[jl,HN.out];exact hi)]
   have aD:(L.set i p').length=N:=by rw[nQ];exact HN.out
   obtain⟨L3,az⟩:=eu (L.set i p');rw[az]at hp3 hL3 aD;obtain⟨w3,hw3⟩:=eu (w2.setCell ⟨g,i*6+4,none⟩ (.slice a2 n2 c2));have aR:w3.heap[Bt]?=some (.cells #[.slice (some ⟨g,0,none⟩) N cap] 31 (0,0)):=by rw[<-hw3,jo _ _ _ _ ht1];exact aN.out
   have aS:w3.heap[Ba]?=some (.cells #[.int .i64 i,.int .i64 t,.int .i64 kind,.int .i64 f] 188 (0,0)):=by rw[<-hw3,jo _ _ _ _ ht2];exact aO.out
   have aT:w3.heap[Br]?=some (.cells #[.slice none 0 0] 31 (0,0)):=by rw[<-hw3,jo _ _ _ _ ht3];exact aP.out
   have HB3:=dY (Km HB2.out (.inl rfl) (i*6+4) (.slice a2 n2 c2));rw[hw3]at hp3 HB3;obtain⟨HT3,af,HR3,PE,HL3,av⟩:=kG aR aS aT hp3 hL3 aD;clear hp' ay hp3 hL3 aD az d4 bB aN aO aP o9 xm aR aS aT HX ah ai aj aa HB2 c4 ct aM aK aL;rw[hw3];clear hw3;go_wp2_with fail
   go_meet
   exact⟨L3,PE,HL3,av,HT3,af,HR3,HB3⟩
 case rest=>
 obtain⟨L3,PE,HL3,av,HT3,af,HR3,HB3⟩:=hcut
 rename World=>w3
 clear HX ah ai aj aa c4 ct aM aK aL;have bC:=jh HT3.out;have aU:=fq af.out 0;have aV:=fq af.out 1;have aW:=fq af.out 2;have aX:=fq af.out 3;have hs3:B<=w3.heap.size:=by have h1:=gK HT3.out;omega
 have F9:=dY (show L3.length+1<=maxLen by rw[av.out];simp only[maxLen];omega);have HL2:=dY (show(L3.length+1)*64<=140737488355328 by rw[av.out];omega);have aY:=dY (show w3.ownsRow B 38 fZ.k (.slice (some ⟨g,0,none⟩) N cap) L3.length (fZ.all L3)from PE.out.row);have aA:=dY (λo=>PE.out.below (dZ w3 o));have aB:=dY (λo=>(I1 w3 o Bt (gK HT3.out)).trans HT3.out);have aC:=dY (λo=>(I1 w3 o Br (gK HR3.out)).trans HR3.out);have aZ:=dY (λo=>KJ HB3.out (dZ w3 o));go_upto_region 4 with(at_builtin;go_must (refine rD OV rfl (.tmp 25) (.tmp 37) rfl B _ L3 (⟨⟨kind,f,t,(i:Int),[],false⟩,none,0,0⟩:Ln) _ rfl rfl aY.out rfl F9.out HL2.out hs3 ?_;intro v4 w4 ae hg4;obtain⟨a5,k5,hv4⟩:=(Reads.fo (E:=fZ) ae).shape;obtain⟨M5,bf⟩:∃M5,(L3++[(⟨⟨kind,f,t,(i:Int),[],false⟩,none,0,0⟩:Ln)]).length=M5:=⟨_,rfl⟩;rw[bf]at hv4;clear bf;subst hv4;have HP4:=dY ((aA.out _).push (GQ.nil _ _ ⟨kind,f,t,(i:Int),[],false⟩ rfl) (xh (aA.out _).row hg4) ae);have ax:=dY ((hg4.block Bt (gK (aB.out _)) (λe=>ht1 (iG e))).trans (aB.out _));have HR4:=dY ((hg4.block Br (gK (aC.out _)) (λe=>ht3 (iG e))).trans (aC.out _));have qQ:=dY ((aZ.out _).trans hg4);have bD:=jh ax.out;have bE:=Dx ax.out;clear ae hg4))
 have bg:=dY (HP4.out.box ax.out dU dU 0 (.slice a5 M5 k5));have tY:=dY (Km (b:=Bt) qQ.out (.inr aG) 0 (.slice a5 M5 k5));have aF:=Pj (u:=.slice a5 M5 k5) ax.out;have ag:=(jo w4 ⟨Bt,0,none⟩ (.slice a5 M5 k5) Br (λe=>bn e.symm)).trans HR4.out;obtain⟨w5,zC⟩:=eu (w4.setCell ⟨Bt,0,none⟩ (.slice a5 M5 k5));rw[zC]at bg tY aF ag;rw[zC];have bK:=jh aF;have bF:=jh ag;have bL:=Dx ag;have HD:=dY (HQ.out (.slice a5 M5 k5) (w5.setCell ⟨Br,0,none⟩ (.slice a5 M5 k5)) ⟨⟨_,by rw[yF];exact HL3.out,bg.out.box ag dU dU 0 _⟩,Km (b:=Br) tY.out (.inr aH) 0 _⟩);clear zC aF ag bC aU aV aW aX bD bE;go_wp2_with fail
 refine vK (v:=.agg #[.slice a5 M5 k5]) ?_ rfl HD.out;simp[results,results186,go_sem,bF,ig]
end
section
open Go.RowKit
open Sg
open Sq
theorem afC(k:Nat)(w:World):
 Calls prog 59 #[.int .i64 k] w λe w'=>e=.returned (.bool (Sc.counts k))/\w=w':=by
 go_enter func59,ntmps59
 go_wp2;all_goals
  go_ret;refine⟨?_,rfl⟩;refine congrArg (λb=>Ending.returned (.bool b)) ?_;rw[qb];simp[Sc.counts]at*;try omega
theorem afD(k:Nat)(w:World):
 Calls prog 58 #[.int .i64 k] w λe w'=>e=.returned (.bool (Rw.yZ k))/\w=w':=by
 go_enter func58,ntmps58
 go_wp2;all_goals
  go_ret;refine⟨?_,rfl⟩;refine congrArg (λb=>Ending.returned (.bool b)) ?_;rw[qb];simp[Rw.yZ]at*;try omega
theorem Rl(v:Value)(ts:List Tk)(w:World)(h:Reads iQ w v ts)(hs:ts.length<=1000000):
 Calls prog 37 #[v] w λe w'=>e=.returned (.int .i64 (Rw.gJ ts))/\Below w.heap.size w w':=by
 obtain⟨a,cap,rfl⟩:=h.shape;obtain⟨H,HL⟩:=fw h (Rw.afp ts);obtain⟨R,hR⟩:=eu (Rw.gJ ts);rw[hR]at HL⊢;obtain⟨N,hN⟩:=eu (ts.length);have HN:=dY hN;rw[hN]at hs;rw[hN];clear h hN hR
 go_enter func37,ntmps37
 go_wp2_with fail
 go_loopw [7] (λiv wr=>∃k:Nat,iv=.int .i64 k/\k<=N/\Hid (∀j x,j<k->ts[j]?=some x->Sc.counts x.1=false)/\Below w.heap.size w wr) (λiv _=>N-(intOf iv).toNat)
 case atStart=>exact⟨0,rfl,fP _,dY (λj x h=>absurd h (pK j)),fD _ w⟩
 case round=>
  obtain⟨k,rfl,hk,HA,hb⟩:=hrel;by_cases hlt:k<N
  ·obtain⟨x,hx⟩:∃x,ts[k]?=some x:=⟨_,fu sO⟩
   obtain⟨b,off,rfl,c0,c1,c2⟩:=iY (H.out.below hb) k x hx;have hi:(k:Int)<(N:Int):=dS
   have HB:=dY hb;have hc:=λW=>afC x.1 W
   cases hq:Sc.counts x.1 with
   |true=>
    rw[hq]at hc;have hres:=HL.out k HA.out (.inr ⟨x,hx,hq⟩);subst hres;have HC:=dY hc;clear hc hq HA hx HL hb H HN;go_wp2_with fail
    refine(HC.out _).mono ?_;rintro e w2 ⟨rfl,rfl⟩;go_wp2_with fail
    go_ret;exact⟨rfl,eD HB.out (dZ _ _)⟩
   |false=>
    rw[hq]at hc
    have HA2:=dY (λj y (hj:j<k+1)(hy:ts[j]?=some y)=>show Sc.counts y.1=false by
     rcases akm.1 hj with h|h
     ·exact HA.out j y h hy
     ·subst h;rw[hx]at hy;injection hy with hy;subst hy;exact hq)
    have HC:=dY hc;clear hc hq HA hx HL hb H HN;go_wp2_with fail
    refine(HC.out _).mono ?_;rintro e w2 ⟨rfl,rfl⟩;go_wp2_with fail
    exact QM
  ·obtain rfl:k=N:=by omega
   have hne:¬((k:Int)<(k:Int)):=dS
   have hres:=HL.out k HA.out (.inl HN.out.symm);subst hres;have HB:=dY hb;clear HA HL hb H HN hlt;go_wp2_with fail
   exact uR
end
namespace Rw
theorem FI(ts:List Tk):(gJ ts=ts.length/\jZ ts=none)\/∃x,ts[gJ ts]?=some x/\jZ ts=some x:=by
 induction ts with
 |nil=>exact .inl ⟨rfl,rfl⟩
 |cons y r ih=>
  by_cases hc:Sc.counts y.1=true
  ·right;refine⟨y,?_,?_⟩
   ·rw[gJ,dX hc];rfl
   ·rw[jZ,dX hc]
  ·rcases ih with⟨h1,h2⟩|⟨x,h1,h2⟩
   ·left;refine⟨?_,?_⟩
    ·rw[gJ,dW hc,h1];rfl
    ·rw[jZ,dW hc,h2]
   ·right;refine⟨x,?_,?_⟩
    ·rw[gJ,dW hc,Vd];exact h1
    ·rw[jZ,dW hc,h2]
theorem VZ(ts:List Tk)(x:Tk)(h:ts[0]?=some x):B6 ts=x.2.1:=by
 cases ts with
 |nil=>simp at h
 |cons y r=>
  obtain rfl:y=x:=kU
  rfl
theorem Hq(ts:List Tk)(x:Tk)(h:ts[0]?=some x):jS ts=x.1:=by
 cases ts with
 |nil=>simp at h
 |cons y r=>
  obtain rfl:y=x:=kU
  rfl
theorem rE(ts:List Tk)(i:Nat)(x:Tk)(h:ts[i]?=some x):jS (ts.drop i)=x.1:=by
 refine Hq _ x ?_;rw[sW];exact h
def qJ(ts:List Tk)(a:Nat):Int:=if a=ts.length then -1 else(wK ts a:Int)-(B6 ts:Int)
theorem V2(ts:List Tk):qJ ts (gJ ts)=vH ts:=by
 unfold qJ vH;rcases FI ts with⟨h1,h2⟩|⟨x,h1,h2⟩
 ·rw[dX h1,h2]
 ·have:=(eY.1 h1).1;rw[dW dS,h2,vv _ _ _ h1]
end Rw
section
open Go.RowKit
open Sg
open Sq
theorem V3(v:Value)(ts:List Tk)(w:World)(h:Reads iQ w v ts)(hs:ts.length<=1000000):
 Calls prog 34 #[v] w λe w'=>∃u,e=.returned u/\Reads iQ w u (ts.take (Rw.jm ts))/\Below w.heap.size w w':=by
 obtain⟨a,cap,rfl⟩:=h.shape;obtain⟨H,HL⟩:=fw h (Rw.TW ts);have h0:ts=[]->Rw.jm ts=0:=λe=>by rw[e];rfl
 have Ja:=dY h0;obtain⟨R,hR⟩:=eu (Rw.jm ts);rw[hR]at HL Ja⊢;have HC:=dY (λn (hn:n<=ts.length)=>ag5 (P:=prog) tyT h hn);obtain⟨N,hN⟩:=eu (ts.length);rw[hN]at HC;have HN:=dY hN;have hcp:=h.wL;rw[hN]at hcp hs;unfold maxLen at hcp;have HR:=dY (show Reads iQ w (.slice a N cap) ts by rw[<-hN];exact h);rw[hN];clear h hN hR h0
 go_enter func34,ntmps34
 go_wp2_with fail
 go_loopw [7] (λiv wr=>∃k:Nat,iv=.int .i64 k/\k<=N/\Hid (∀j x,j<k->ts[j]?=some x->Rw.ends x=false)/\Below w.heap.size w wr) (λiv _=>N-(intOf iv).toNat)
 case atStart=>exact⟨0,rfl,fP _,dY (λj x h=>absurd h (pK j)),fD _ w⟩
 case round=>
  obtain⟨k,rfl,hk,HA,hb⟩:=hrel;by_cases hlt:k<N
  ·obtain⟨x,hx⟩:∃x,ts[k]?=some x:=⟨_,fu sO⟩
   obtain⟨b,off,rfl,c0,c1,c2⟩:=iY (H.out.below hb) k x hx;have hi:(k:Int)<(N:Int):=dS
   have HB:=dY hb;cases hq:Rw.ends x with
   |true=>
    have hres:=HL.out (k+1) dS (λj y hj hy=>HA.out j y dS hy) (.inr ⟨x,jJ,hq⟩);subst hres;obtain⟨u,hu,Gq⟩:=HC.out (k+1) dS;rw[show((k+1:Nat):Int)=(k:Int)+1 from dS]at hu;have HRu:=dY Gq;have hk1:x.1=1\/x.1=19:=by simpa [Rw.ends]using hq
    rcases hk1 with q|q
    ·have g:((x.1:Int)==1)=true:=by simp;omega
     exact aap
    ·have g:((x.1:Int)==1)=false:=by simp;omega
     have g2:((x.1:Int)==19)=true:=eQ
     exact aap
   |false=>
    have hk1:¬x.1=1/\¬x.1=19:=by simpa [Rw.ends]using hq
    have HA2:=dY (λj y (hj:j<k+1)(hy:ts[j]?=some y)=>show Rw.ends y=false by
     rcases akm.1 hj with h|h
     ·exact HA.out j y h hy
     ·subst h;rw[hx]at hy;injection hy with hy;subst hy;exact hq)
    have g:((x.1:Int)==1)=false:=eQ
    have g2:((x.1:Int)==19)=false:=eQ
    clear hq HA hx HL hb H HN HC Ja HR hk1 hcp;go_wp2_with fail
    exact QM
  ·obtain rfl:k=N:=by omega
   have hne:¬((k:Int)<(k:Int)):=dS
   have hres:R=k:=by
    rcases rP k with h|h
    ·rw[h];exact Ja.out (l9 (by rw[HN.out];exact h))
    ·exact HL.out k h (λj y hj hy=>HA.out j y dS hy) (.inl HN.out.symm)
   subst hres;have HRu:=dY (show Reads iQ w (.slice a R cap) (ts.take R)by rw[zw wD];exact HR.out);have HB:=dY hb;clear HA HL hb H HN hlt HC Ja HR hcp;go_wp2_with fail
   go_ret;exact⟨_,rfl,HRu.out,HB.out⟩
theorem Uk(v:Value)(ts:List Tk)(p:Nat)(w:World)(h:Reads iQ w v ts)(hs:ts.length<=1000000)(hp:p<=ts.length)(hf:∀x∈ts,x.2.1<=1000000):
 Calls prog 36 #[v,.int .i64 p] w λe w'=>e=.returned (.int .i64 (Rw.qJ ts p))/\Below w.heap.size w w':=by
 obtain⟨a,cap,rfl⟩:=h.shape;by_cases hpl:p=ts.length
 ·have hr:Rw.qJ ts p=-1:=by unfold Rw.qJ;rw[dX hpl]
  rw[hr,hpl];clear hr hpl hp hf h
  go_enter func36,ntmps36
  go_wp2_with fail
  go_ret;exact⟨rfl,fD _ _⟩
 ·obtain⟨x,hx⟩:∃x,ts[p]?=some x:=⟨_,fu dS⟩
  obtain⟨y,hy⟩:∃y,ts[0]?=some y:=⟨_,fu dS⟩
  obtain⟨b,off,rfl,c0,c1,c2⟩:=iY h p x hx;obtain⟨b',off',he,d0,d1,d2⟩:=iY h 0 y hy;injection he with he
  injection he with e1 e2
  subst e1 e2;have hr:Rw.qJ ts p=(x.2.1:Int)-(y.2.1:Int):=by
   unfold Rw.qJ;rw[dW hpl,Rw.vv _ _ _ hx,Rw.VZ _ _ hy]
  rw[hr];have hx1:=hf x (gW hx);have hy1:=hf y (gW hy);obtain⟨N,hN⟩:=eu (ts.length);have g:((p:Int)==(N:Int))=false:=eQ
  have hi:(p:Int)<(N:Int):=dS
  have hi0:(0:Int)<(N:Int):=dS
  simp only[O5,oW]at d0 d1 d2;rw[hN]at hs⊢;clear hr hN hpl hp hf h hx hy c0 c2 d0 d2
  go_enter func36,ntmps36
  exact aao
theorem akO(v:Value)(ts:List Tk)(bg:Bool)(w:World)(h:Reads iQ w v ts)(hs:ts.length<=1000000)(h0:ts≠[]):
 Calls prog 35 #[v,.bool bg] w λe w'=>e=.returned (.int .i64 (Rw.kindOf bg ts:Nat))/\Below w.heap.size w w':=by
 have hF:=Rl v ts w h hs;obtain⟨a,cap,rfl⟩:=h.shape;obtain⟨HF,H⟩:=fw hF h;have hpos:0<ts.length:=aes.2 h0
 obtain⟨y,hy⟩:∃y,ts[0]?=some y:=⟨_,fu hpos⟩
 have hk0:=Rw.Hq ts y hy;obtain⟨K,hK⟩:=eu (Rw.kindOf bg ts);rw[hK];unfold Rw.kindOf at hK;rw[hk0]at hK;have hA:=Rw.FI ts;obtain⟨A,ae⟩:=eu (Rw.gJ ts);rw[ae]at hA HF;obtain⟨N,hN⟩:=eu (ts.length);have HY:=dY hy;have hi0:(0:Int)<(N:Int):=dS
 have hAt:=dY (λW (hb:Below w.heap.size w W) j x (hj:ts[j]?=some x)=>iY (h.below hb) j x hj);rw[hN]at HF hA hs⊢;have aa:=dY hN;clear h hF hN hy hk0 h0 hpos ae;rcases hA with⟨rfl,hf⟩|⟨x,hx,hf⟩
 ·rw[hf]at hK;dsimp only at hK;have hne:¬((A:Int)<(A:Int)):=by omega
  clear hf
  go_enter func35,ntmps35
  go_wp2_with fail
  refine HF.out.mono ?_;rintro e w2 ⟨rfl,hb⟩;obtain⟨b,off,rfl,c0,-,-⟩:=hAt.out w2 hb 0 y HY.out;simp only[O5,oW]at c0;have HB:=dY hb;clear hb HF H HY hAt aa;by_cases q:y.1=19
  ·rw[dX q]at hK;subst hK;have g:((y.1:Int)==19)=true:=by simp;omega
   clear q;go_wp2_with fail
   exact uR
  ·rw[dW q]at hK;have g:((y.1:Int)==19)=false:=by simp;omega
   clear q;cases bg with
   |true=>
    obtain rfl:K=3:=D5
    clear hK;go_wp2_with fail
    exact uR
   |false=>
    obtain rfl:K=1:=D5
    clear hK;go_wp2_with fail
    exact uR
 ·rw[hf]at hK;dsimp only at hK;have hlt:A<N:=by have:=(eY.1 hx).1;have:=aa.out;omega
  have hi:(A:Int)<(N:Int):=dS
  have HX:=dY hx;have hm:=λW=>afD x.1 W
  have gN:((A:Int)==(N:Int))=false:=eQ
  clear hf hx
  go_enter func35,ntmps35
  go_wp2_with fail
  refine HF.out.mono ?_;rintro e w2 ⟨rfl,hb⟩;obtain⟨b,off,rfl,c0,-,-⟩:=hAt.out w2 hb 0 y HY.out;obtain⟨b',off',he,d0,-,-⟩:=hAt.out w2 hb A x HX.out;injection he with he
  injection he with e1 e2
  subst e1 e2;simp only[O5,oW]at c0;have HB:=dY hb;clear hb HF H HY hAt aa HX;by_cases q:y.1=19
  ·rw[dX q]at hK;subst hK;have g:((y.1:Int)==19)=true:=by simp;omega
   clear q hm d0;go_wp2_with fail
   exact uR
  ·rw[dW q]at hK;have g:((y.1:Int)==19)=false:=by simp;omega
   clear q;cases hq:Rw.yZ x.1 with
   |true=>
    rw[hq]at hm hK;obtain rfl:K=4:=D5
    have HM:=dY hm;clear hK hm hq;go_wp2_with fail
    exact Q4
   |false=>
    rw[hq]at hm hK;have HM:=dY hm;clear hm hq;cases bg with
    |true=>
     obtain rfl:K=3:=D5
     clear hK;go_wp2_with fail
     exact Q4
    |false=>
     obtain rfl:K=5:=D5
     clear hK;go_wp2_with fail
     exact Q4
end
namespace Rw
theorem drop_one(ts:List Tk)(k:Nat)(x:Tk)(h:ts[k]?=some x):ts.drop k=x::ts.drop (k+1):=by
 have hi:=(eY.1 h).1;have e:=(eY.1 h).2;rw[xz hi,e]
theorem V4(ts:List Tk)(k:Nat)(x:Tk)(h:ts[k]?=some x):blanks (ts.drop k)=if x.1=3 then blanks (ts.drop (k+1))+1 else 0:=by
 rw[drop_one ts k x h,blanks]
theorem Sf(ts:List Tk)(k:Nat)(h:ts.length<=k):blanks (ts.drop k)=0:=by
 rw[oG h];rfl
theorem kN(ts:List Tk)(k:Nat)(h:k<=ts.length):k+blanks (ts.drop k)<=ts.length:=by
 have:=Vz (ts.drop k);rw[ky]at this;omega
theorem acv(l:List Tk)(h:isProp (jS l)=true):pO l=(pO (l.drop (blanks (l.drop 1)+1))).map (·+(blanks (l.drop 1)+1)):=by
 have hp:=VF l h;obtain⟨n,hn⟩:=eu (blanks (l.drop 1)+1);rw[hn]at hp⊢;unfold pO sQ;rw[hp];obtain⟨m,hm⟩:=eu (nV (l.drop n).length (l.drop n));rw[hm];have e1:l.drop (m+n)=(l.drop n).drop m:=by rw[nP,Nat.add_comm]
 rw[e1];obtain⟨s,hs⟩:=eu (zz ((l.drop n).drop m));rw[hs];have e2:l.drop (m+n+s)=(l.drop n).drop (m+s):=by rw[nP];congr 1;omega
 rw[e2];by_cases hk:jS ((l.drop n).drop (m+s))=6
 ·rw[dX hk,dX hk,AB];congr 1;omega
 ·rw[dW hk,dW hk,Option.map_none]
theorem Ul(l:List Tk)(h:isProp (jS l)=false):pO l=if jS (l.drop (zz l))=6 then some (zz l+1)else none:=by
 unfold pO sQ;rw[VG l h,lM,jY]
def vN(ts:List Tk)(p:Nat):Int:=match pO (ts.drop p)with
 |some n=>((p+n:Nat):Int)
 |none=>-1
def LV(ts:List Tk)(q:Nat):Int:=if jS (ts.drop q)=6 then((q+1:Nat):Int)else -1
theorem yf(ts:List Tk)(p:Nat)(x:Tk)(hx:ts[p]?=some x)(h:isProp x.1=true):vN ts p=vN ts (p+1+blanks (ts.drop (p+1))):=by
 unfold vN;rw[acv (ts.drop p) (by rw[rE ts p x hx];exact h),nP,nP];rw[show p+(blanks (ts.drop (p+1))+1)=p+1+blanks (ts.drop (p+1))from dS];cases pO (ts.drop (p+1+blanks (ts.drop (p+1))))with
 |none=>rfl
 |some n=>show((p+(n+(blanks (ts.drop (p+1))+1)):Nat):Int)=_;congr 1;omega
theorem xS(ts:List Tk)(p:Nat)(x:Tk)(hx:ts[p]?=some x)(h:isProp x.1=false)(hs:gX x.1=true):vN ts p=LV ts (p+1+blanks (ts.drop (p+1))):=by
 have hk:=rE ts p x hx;unfold vN LV;rw[Ul (ts.drop p) (by rw[hk];exact h)];have e:zz (ts.drop p)=blanks (ts.drop (p+1))+1:=by unfold zz;rw[hk,dX hs,nP]
 rw[e,nP,show p+(blanks (ts.drop (p+1))+1)=p+1+blanks (ts.drop (p+1))from dS];by_cases hc:jS (ts.drop (p+1+blanks (ts.drop (p+1))))=6
 ·rw[dX hc,dX hc];show((p+(blanks (ts.drop (p+1))+1+1):Nat):Int)=_;congr 1;omega
 ·rw[dW hc,dW hc]
theorem RE(ts:List Tk)(p:Nat)(x:Tk)(hx:ts[p]?=some x)(h:isProp x.1=false)(hs:gX x.1=false):vN ts p=LV ts p:=by
 have hk:=rE ts p x hx;unfold vN LV;rw[Ul (ts.drop p) (by rw[hk];exact h)];have e:zz (ts.drop p)=0:=by unfold zz;rw[hk,dW (by rw[hs];decide)]
 rw[e,nP,oW];by_cases hc:jS (ts.drop p)=6
 ·rw[dX hc,dX hc]
 ·rw[dW hc,dW hc]
theorem abO(ts:List Tk)(p:Nat)(h:ts.length<=p):vN ts p=-1:=by
 unfold vN;rw[oG h];rfl
theorem abN(ts:List Tk)(p:Nat)(h:ts.length<=p):LV ts p=-1:=by
 unfold LV;rw[oG h];rfl
theorem TP(ts:List Tk)(p:Nat)(x:Tk)(hx:ts[p]?=some x):LV ts p=if x.1=6 then((p+1:Nat):Int)else -1:=by
 unfold LV;rw[rE ts p x hx]
end Rw
section
open Go.RowKit
open Sg
open Sq
theorem ahg(v:Value)(ts:List Tk)(p:Nat)(w:World)(h:Reads iQ w v ts)(hs:ts.length<=1000000)(hp:p<=ts.length):
 Calls prog 99 #[v,.int .i64 p] w λe w'=>e=.returned (.int .i64 (p+Rw.blanks (ts.drop p):Nat))/\w=w':=by
 obtain⟨a,cap,rfl⟩:=h.shape;have H:=dY (λj x (hj:ts[j]?=some x)=>iY h j x hj);obtain⟨yn,aa⟩:=fw (Rw.V4 ts) (Rw.Sf ts);obtain⟨T,hT⟩:=eu (p+Rw.blanks (ts.drop p));rw[hT];have HT:=dY hT;obtain⟨N,hN⟩:=eu (ts.length);have HN:=dY hN;rw[hN]at hs hp;rw[hN];clear h hN hT
 go_enter func99,ntmps99
 go_wp2_with fail
 go_loopw [1] (λiv wr=>∃k:Nat,iv=.int .i64 k/\k<=N/\Hid (k+Rw.blanks (ts.drop k)=T)/\w=wr) (λiv _=>N-(intOf iv).toNat)
 case atStart=>exact⟨p,rfl,hp,HT,rfl⟩
 case round=>
  obtain⟨k,rfl,hk,HK,rfl⟩:=hrel;by_cases hlt:k<N
  ·obtain⟨x,hx⟩:∃x,ts[k]?=some x:=⟨_,fu sO⟩
   obtain⟨b,off,rfl,c0,c1,c2⟩:=H.out k x hx;have hi:(k:Int)<(N:Int):=dS
   have hb:=yn.out k x hx;obtain⟨K,hK⟩:=eu (x.1);rw[hK]at c0 hb;by_cases q:K=3
   ·rw[dX q]at hb;have qj:=dY (show k+1+Rw.blanks (ts.drop (k+1))=T by have:=HK.out;rw[hb]at this;omega);have g:((K:Int)==3)=true:=by simp;omega
    clear hb hx hK H yn aa HK HT HN q;go_wp2_with fail
    go_roundw
    case rel=>exact⟨k+1,fH,dS,qj,trivial⟩
    case measure=>simp[intOf];omega
   ·rw[dW q]at hb;obtain rfl:T=k:=by have:=HK.out;rw[hb]at this;omega
    have g:((K:Int)==3)=false:=eQ
    clear hb hx hK H yn aa HK HT HN q;go_wp2_with fail
    exact pz
  ·obtain rfl:k=N:=by omega
   have hne:¬((k:Int)<(k:Int)):=dS
   obtain rfl:T=k:=by have:=HK.out;rw[aa.out k wD]at this;omega
   clear yn aa HK HT HN H hlt;go_wp2_with fail
   exact pz
end
end Go.Proofs.YtmkkdjpebbdikaaGreatDoor

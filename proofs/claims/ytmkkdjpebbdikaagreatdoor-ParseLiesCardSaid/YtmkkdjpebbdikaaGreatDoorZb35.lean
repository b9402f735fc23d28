import Derived.Test.YtmkkdjpebbdikaaGreatDoorZb34
set_option linter.all false
set_option maxHeartbeats 16000000
set_option maxRecDepth 100000
namespace Go.Proofs.YtmkkdjpebbdikaaGreatDoor
open Go.RowKit Go.Proofs.Tryz
section
open Go.RowKit
open Sg
open Sq
open Ar
theorem OD(x n:Int)(w:World)(h1:1<=n)(h2:n<=100000):
 Calls prog 13 #[.int .i64 x,.int .i64 n] w λe w'=>e=.returned (.int .i64 (wit x n))/\w=w':=by
 have hb1:=Lx x (show 0<n by omega);have hb2:-n<x.tmod n:=by
  have:=Lx (-x) (show 0<n by omega);rw[aek]at this;omega
 have hz:(n==0)=false:=eQ
 have hn1:n≠0:=dS
 unfold wit;by_cases hc:x.tmod n<0
 ·rw[dX hc]
  go_enter func13,ntmps13
  exact Ef
 ·rw[dW hc]
  go_enter func13,ntmps13
  exact Ef
theorem sJ(x:Int)(n:Nat)(m:Int)(hm:m=(n:Int))(h1:1<=n)(h2:n<=100000):∃k:Nat,k<n/\∀w:World,Calls prog 13 #[.int .i64 x,.int .i64 m] w λe w'=>e=.returned (.int .i64 (k:Int))/\w=w':=by
 subst hm;have hb:=ai0 x n dS;refine⟨(wit x n).toNat,dS,λw=>?_⟩;have:=OD x n w dS dS;rw[show((wit x n).toNat:Int)=wit x n from dS];exact this
abbrev Ru:Array Value:=#[.int .u8 97,.int .u8 58,.int .u8 32,.int .u8 49,.int .u8 10,.int .u8 98,.int .u8 58,.int .u8 32,.int .u8 50]
theorem Bl(w:World)(hT:oZ w):
 Calls prog 9 #[] w λe w'=>e=.returned (.bool true)/\Below w.heap.size w w':=by
 have HQ:=dY (λw'=>show Below w.heap.size w w'->(λe (w':World)=>e=Ending.returned (.bool true)/\Below w.heap.size w w') (.returned (.bool true)) w' from λh=>⟨rfl,h⟩);obtain⟨Q,hQ⟩:=eu ((λe (w':World)=>e=Ending.returned (.bool true)/\Below w.heap.size w w'));rw[hQ]at HQ⊢;have hB:=ac2 w [97,58,32,49,10,98,58,32,50] Ru 9 (9,10) rfl dU rfl;have hA:=dZ w (.cells Ru 5 (9,10));have hTr:=DJ _ _ _ 20 hB (hT.below hA) dU dU dU;rw[show Sc.eH ⟨([97,58,32,49,10,98,58,32,50]:List UInt8).toArray⟩=[97,58,32,49,10,98,58,32,50]from rfl]at hTr;have hk:=Ps.acf;obtain⟨X,hX⟩:=eu (Ps.tree [97,58,32,49,10,98,58,32,50] 20);rw[hX]at hk hTr;obtain⟨k1,k2,k3,k4⟩:=hk;obtain⟨x2,hx2,ek,es⟩:∃x,X.2.1[2]?=some x/\x.k=5/\x.ks.length=2:=by
  cases h:X.2.1[2]? with
  |none=>rw[h]at k4;cases k4
  |some x=>
   rw[h]at k4;have:=iG k4;exact⟨x,rfl,congrArg Prod.fst this,congrArg Prod.snd this⟩
 obtain⟨PD,HA,K1,K2,K3⟩:=vV hTr hA k1 k2 k3;have KX:=dY (And.intro hx2 (And.intro ek es));have hcs:=Lib.run_convert_bytes_const (P:=prog) w 23 5 Ru 9 9 underlying23 underlying5;clear hB hTr hA hT k1 k2 k3 k4 hx2 ek es hX hQ
 go_enter func9,ntmps9
 go_wp2_with fail
 refine PD.out.mono ?_;rintro e w1 ⟨tv,nv,dv,L,rfl,ht,hO,hL,hd,hb⟩;obtain⟨ta,tc,rfl⟩:=(Reads.fo (E:=iQ) ht).shape;obtain⟨da,dc,rfl⟩:=(Reads.fo (E:=fK) hd).shape;have hN:=hO.nodes;rw[hL]at hN;obtain⟨na,nc,rfl⟩:=hN.shape;obtain⟨hx2,ek,es⟩:=KX.out;obtain⟨b,off,ka,kc,rfl,q1,-,-,-,q4,-⟩:=hN.at_ 2 x2 hx2;rw[ek]at q1;rw[es]at q4;rw[K1.out,K2.out,K3.out];have hlt:=lt_of_cell q1;have HB1:=dY (eD HA.out hb);have q1:=iL (o:=.cells #[.slice (some ⟨b,off,none⟩) 9 nc] 31) q1;have q4:=iL (o:=.cells #[.slice (some ⟨b,off,none⟩) 9 nc] 31) q4;have m1:(w1.alloc (.cells #[.slice (some ⟨b,off,none⟩) 9 nc] 31)).cell? ⟨w1.heap.size,0,none⟩=some (.slice (some ⟨b,off,none⟩) 9 nc):=at_new rfl;have HD:=dY (HQ.out _ (eD HB1.out (dZ w1 (.cells #[.slice (some ⟨b,off,none⟩) 9 nc] 31))));clear ht hO hL hd hb hN hx2 ek es hlt hcs;go_upto_region 2 with fail
 generalize w1.alloc (.cells #[.slice (some ⟨b,off,none⟩) 9 nc] 31)=W4 at*;go_wp2_with fail
 try simp only[Exit.jump]
 exact HD.out
end
section
open Go.RowKit
open Sq
open Ar
def Three(X:List Tk×List Nd×List Fl.Dg)(w:World)(B:Nat)(tv nv dv:Value):Prop:=
 w.ownsRow B 45 3 tv X.1.length (iQ.all X.1)/\(∃L,L.map Ln.nd=X.2.1/\OT w B nv L)/\w.ownsRow B 40 3 dv X.2.2.length (fK.all X.2.2)
section
variable {X:List Tk×List Nd×List Fl.Dg}{w w':World}{B:Nat}{tv nv dv:Value}
theorem zb.three{e:Ending}(h:zb X w e w'):∃tv nv dv,e=.returned (.tuple #[tv,.agg #[nv],dv])/\Three X w' w.heap.size tv nv dv/\Below w.heap.size w w':=by
 obtain⟨tv,nv,dv,L,e1,h1,h2,h3,h4,h5⟩:=h;exact⟨tv,nv,dv,e1,⟨h1,⟨L,h3,h2⟩,h4⟩,h5⟩
theorem Three.below(h:Three X w B tv nv dv)(hb:Below w.heap.size w w'):Three X w' B tv nv dv:=by
 obtain⟨h1,⟨L,h2,h3⟩,h4⟩:=h;exact⟨eZ h1 hb,⟨L,h2,h3.below hb⟩,eZ h4 hb⟩
theorem Three.low{B':Nat}(h:Three X w B tv nv dv)(hB:B'<=B):Three X w B' tv nv dv:=by
 obtain⟨h1,⟨L,h2,h3⟩,h4⟩:=h;exact⟨lK h1 hB,⟨L,h2,h3.base hB⟩,lK h4 hB⟩
theorem Three.set(h:Three X w B tv nv dv){b:Nat}{C:Array Value}{fr:Nat×Nat}(hb:w.heap[b]?=some (.cells C 31 fr))(o:Nat)(u:Value):Three X (w.setCell ⟨b,o,none⟩ u) B tv nv dv:=by
 obtain⟨h1,⟨L,h2,h3⟩,h4⟩:=h;have st:∀g,g≠b->(w.setCell ⟨b,o,none⟩ u).heap[g]?=w.heap[g]?:=λg hg=>jo _ _ _ _ hg
 refine⟨fE h1 (λg hg=>st g (λe=>eU h1 hb dU (e▸hg))),⟨L,h2,?_⟩,fE h4 (λg hg=>st g (λe=>eU h4 hb dU (e▸hg)))⟩;refine OT.same h3 (λg hg=>st g (λe=>?_));rcases hg with hg|⟨p,hp,hg⟩
 ·exact eU h3.row hb dU (e▸hg)
 ·obtain⟨i,hi⟩:=jy hp;exact eU (h3.kids i p hi) hb dU (e▸hg)
theorem Three.shapes(h:Three X w B tv nv dv){a b c:Nat}(ha:X.1.length=a)(hb:X.2.1.length=b)(hc:X.2.2.length=c):
 ∃ta tc na nc da dc,tv=.slice ta a tc/\nv=.slice na b nc/\dv=.slice da c dc:=by
 obtain⟨h1,⟨L,h2,h3⟩,h4⟩:=h;subst ha hb hc;obtain⟨ta,tc,e1⟩:=(Reads.fo (E:=iQ) h1).shape;obtain⟨na,nc,e2⟩:=(Reads.fo (E:=fZ) h3.row).shape;obtain⟨da,dc,e3⟩:=(Reads.fo (E:=fK) h4).shape;have hl:L.length=X.2.1.length:=by rw[<-h2,jl]
 rw[hl]at e2;exact⟨ta,tc,na,nc,da,dc,e1,e2,e3⟩
theorem Three.reads(h:Three X w B tv nv dv):Reads iQ w tv X.1/\iC w nv X.2.1/\Reads fK w dv X.2.2:=by
 obtain⟨h1,⟨L,h2,h3⟩,h4⟩:=h;exact⟨Reads.fo (E:=iQ) h1,by rw[<-h2];exact h3.nodes,Reads.fo (E:=fK) h4⟩
theorem Three.var(h:Three X w B tv nv dv){b:Nat}(hb:w.heap[b]?=some (.cells #[.slice none 0 0] 31 (0,0)))(u:Value):
 Three X (w.setCell ⟨b,0,none⟩ u) B tv nv dv/\(w.setCell ⟨b,0,none⟩ u).heap[b]?=some (.cells #[u] 31 (0,0)):=
 ⟨h.set hb 0 u,sw hb u⟩
end
def yw(X:List Tk×List Nd×List Fl.Dg)(wr wx:World)(tv nv dv:Value)(bt:Nat):Prop:=
 Three X wx wr.heap.size tv nv dv/\wx.heap[bt]?=some (.cells #[nv] 31 (0,0))/\Below wr.heap.size wr wx
theorem yw.mk'{X:List Tk×List Nd×List Fl.Dg}{wr wx:World}{B bt:Nat}{tv nv dv:Value}(h:Three X wx B tv nv dv)(hB:wr.heap.size<=B)(hb:wx.heap[bt]?=some (.cells #[.slice none 0 0] 31 (0,0)))(hl:wr.heap.size<=bt)(hw:Below wr.heap.size wr wx):
 yw X wr (wx.setCell ⟨bt,0,none⟩ nv) tv nv dv bt:=
 ⟨(h.var hb nv).1.low hB,(h.var hb nv).2,hw.setCell (p:=⟨bt,0,none⟩) hl _⟩
end
end Go.Proofs.YtmkkdjpebbdikaaGreatDoor

import Derived.Test.YtmkkdjpebbdikaaGreatDoorZn29
set_option linter.all false
set_option maxHeartbeats 16000000
set_option maxRecDepth 100000
namespace Go.Proofs.YtmkkdjpebbdikaaGreatDoor
open Go.RowKit Go.Proofs.Tryz
section
open Go.RowKit
open Sg
open Sq
open Ar
theorem Hd(x n:Int)(w:World)(h1:1<=n)(h2:n<=100000):
 Calls prog 13 #[.int .i64 x,.int .i64 n] w λe w'=>e=.returned (.int .i64 (UF x n))/\w=w':=by
 have hb1:=Rh x (show 0<n by omega);have hb2:-n<x.tmod n:=by
  have:=Rh (-x) (show 0<n by omega);rw[Int.neg_tmod]at this;omega
 have hz:(n==0)=false:=by simp;omega
 have hn1:n≠0:=by omega
 unfold UF;by_cases hc:x.tmod n<0
 ·rw[eY hc]
  go_enter func13,ntmps13
  go_wp2;go_ret;exact⟨rfl,rfl⟩
 rw[eX hc]
 go_enter func13,ntmps13
 go_wp2;go_ret;exact⟨rfl,rfl⟩
theorem uS(x:Int)(n:Nat)(m:Int)(hm:m=(n:Int))(h1:1<=n)(h2:n<=100000):∃k:Nat,k<n/\∀w:World,Calls prog 13 #[.int .i64 x,.int .i64 m] w λe w'=>e=.returned (.int .i64 (k:Int))/\w=w':=by
 subst hm;have hb:=Wn x n (by omega);refine⟨(UF x n).toNat,by omega,λw=>?_⟩;have:=Hd x n w (by omega) (by omega);rw[show((UF x n).toNat:Int)=UF x n from by omega];exact this
abbrev ID:Array Value:=#[.int .u8 97,.int .u8 58,.int .u8 32,.int .u8 49,.int .u8 10,.int .u8 98,.int .u8 58,.int .u8 32,.int .u8 50]
theorem IE(w:World)(hT:oO w):
 Calls prog 9 #[] w λe w'=>e=.returned (.bool true)/\Below w.heap.size w w':=by
 have HQ:=eZ (λw'=>show Below w.heap.size w w'->(λe (w':World)=>e=Ending.returned (.bool true)/\Below w.heap.size w w') (.returned (.bool true)) w' from λh=>⟨rfl,h⟩);obtain⟨Q,hQ⟩:=fq ((λe (w':World)=>e=Ending.returned (.bool true)/\Below w.heap.size w w'));rw[hQ]at HQ⊢;have hB:=Pk w [97,58,32,49,10,98,58,32,50] ID 9 (9,10) rfl (by decide) rfl;have hA:=fo w (.cells ID 5 (9,10));have hTr:=NG _ _ _ 20 hB (hT.below hA) (by decide) (by decide) (by decide);rw[show Sc.fw ⟨([97,58,32,49,10,98,58,32,50]:List UInt8).toArray⟩=[97,58,32,49,10,98,58,32,50]from rfl]at hTr;have hk:=Ps.Pq;obtain⟨X,hX⟩:=fq (Ps.tree [97,58,32,49,10,98,58,32,50] 20);rw[hX]at hk hTr;obtain⟨k1,k2,k3,k4⟩:=hk;obtain⟨x2,hx2,ek,es⟩:∃x,X.2.1[2]?=some x/\x.k=5/\x.ks.length=2:=by
  cases h:X.2.1[2]? with
  |none=>rw[h]at k4;cases k4
  |some x=>
   rw[h]at k4;have:=jl k4;exact⟨x,rfl,congrArg Prod.fst this,congrArg Prod.snd this⟩
 obtain⟨aa,HA,K1,K2,K3⟩:=sP hTr hA k1 k2 k3;have KX:=eZ (And.intro hx2 (And.intro ek es));have hcs:=Lib.run_convert_bytes_const (P:=prog) w 23 5 ID 9 9 underlying23 underlying5;clear hB hTr hA hT k1 k2 k3 k4 hx2 ek es hX hQ
 go_enter func9,ntmps9
 go_wp2_with fail
 refine aa.out.mono ?_;rintro e w1 ⟨tv,nv,dv,L,rfl,ht,hO,hL,hd,hb⟩;obtain⟨ta,tc,rfl⟩:=(Reads.fJ (E:=iU) ht).shape;obtain⟨da,dc,rfl⟩:=(Reads.fJ (E:=ib) hd).shape;have hN:=hO.nodes;rw[hL]at hN;obtain⟨na,nc,rfl⟩:=hN.shape;obtain⟨hx2,ek,es⟩:=KX.out;obtain⟨b,off,ka,kc,rfl,q1,-,-,-,q4,-⟩:=hN.at_ 2 x2 hx2;rw[ek]at q1;rw[es]at q4;rw[K1.out,K2.out,K3.out];have hlt:=lt_of_cell q1;have HB1:=eZ (fD HA.out hb);have q1:=gI (o:=.cells #[.slice (some ⟨b,off,none⟩) 9 nc] 31) q1;have q4:=gI (o:=.cells #[.slice (some ⟨b,off,none⟩) 9 nc] 31) q4;have m1:(w1.alloc (.cells #[.slice (some ⟨b,off,none⟩) 9 nc] 31)).cell? ⟨w1.heap.size,0,none⟩=some (.slice (some ⟨b,off,none⟩) 9 nc):=at_new rfl;have HD:=eZ (HQ.out _ (fD HB1.out (fo w1 (.cells #[.slice (some ⟨b,off,none⟩) 9 nc] 31))));clear ht hO hL hd hb hN hx2 ek es hlt hcs;go_upto_region 2 with fail
 generalize w1.alloc (.cells #[.slice (some ⟨b,off,none⟩) 9 nc] 31)=W4 at*;go_wp2_with fail
 try simp only[Exit.jump]
 exact HD.out
end
section
open Go.RowKit
open Sq
open Ar
def Three(X:List Tk×List Nd×List Fl.Dg)(w:World)(B:Nat)(tv nv dv:Value):Prop:=
 w.ownsRow B 45 3 tv X.1.length (iU.all X.1)/\(∃L,L.map Ln.nd=X.2.1/\OT w B nv L)/\w.ownsRow B 40 3 dv X.2.2.length (ib.all X.2.2)
section
variable {X:List Tk×List Nd×List Fl.Dg}{w w':World}{B:Nat}{tv nv dv:Value}
theorem vP.three{e:Ending}(h:vP X w e w'):∃tv nv dv,e=.returned (.tuple #[tv,.agg #[nv],dv])/\Three X w' w.heap.size tv nv dv/\Below w.heap.size w w':=by
 obtain⟨tv,nv,dv,L,e1,h1,h2,h3,h4,h5⟩:=h;exact⟨tv,nv,dv,e1,⟨h1,⟨L,h3,h2⟩,h4⟩,h5⟩
theorem Three.shapes(h:Three X w B tv nv dv){a b c:Nat}(ha:X.1.length=a)(hb:X.2.1.length=b)(hc:X.2.2.length=c):
 ∃ta tc na nc da dc,tv=.slice ta a tc/\nv=.slice na b nc/\dv=.slice da c dc:=by
 obtain⟨h1,⟨L,h2,h3⟩,h4⟩:=h;subst ha hb hc;obtain⟨ta,tc,e1⟩:=(Reads.fJ (E:=iU) h1).shape;obtain⟨na,nc,e2⟩:=(Reads.fJ (E:=gP) h3.row).shape;obtain⟨da,dc,e3⟩:=(Reads.fJ (E:=ib) h4).shape;have hl:L.length=X.2.1.length:=by rw[<-h2,jD]
 rw[hl]at e2;exact⟨ta,tc,na,nc,da,dc,e1,e2,e3⟩
theorem Three.reads(h:Three X w B tv nv dv):Reads iU w tv X.1/\iM w nv X.2.1/\Reads ib w dv X.2.2:=by
 obtain⟨h1,⟨L,h2,h3⟩,h4⟩:=h;exact⟨Reads.fJ (E:=iU) h1,by rw[<-h2];exact h3.nodes,Reads.fJ (E:=ib) h4⟩
end
end
end Go.Proofs.YtmkkdjpebbdikaaGreatDoor

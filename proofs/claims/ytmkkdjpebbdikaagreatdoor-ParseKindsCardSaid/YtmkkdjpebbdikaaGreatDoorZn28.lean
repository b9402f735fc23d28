import Derived.Test.YtmkkdjpebbdikaaGreatDoorZn25
set_option linter.all false
set_option maxHeartbeats 16000000
set_option maxRecDepth 100000
namespace Go.Proofs.YtmkkdjpebbdikaaGreatDoor
open Go.RowKit Go.Proofs.Tryz
section
open Go.RowKit
open Sg
open Sq
theorem Uu(v:Value)(s:ByteArray)(w:World)(hv:xF w v s)(hT:oO w):
 Calls prog 18 #[v] w (Gives (Sc.fw s) w):=by
 have hm:=hv.size_le;simp only[maxLen]at hm;have hln:=Sc.gJ s;have hcv:=qT hv;obtain⟨a,cap,hsh⟩:∃a cap,v=.slice a s.size cap:=by
  rcases hv with⟨h1,h2⟩|⟨b,off,cap,h1,_⟩
  ·exact⟨none,0,by rw[h1,h2]⟩
  exact⟨_,_,h1⟩
 subst hsh;by_cases hlong:16384<s.size
 ·have hI:(16384:Int)<(s.size:Int):=by omega
  have hE:Sc.tokens (Sc.fw s)=[]:=by rw[Sc.yl,eY (by rw[hln];exact hlong)]
  have HD:=eZ (show Gives (Sc.fw s) w (.returned (.slice none 0 0)) w from⟨_,rfl,by rw[hE];exact H6 w _ _ _,fI _ _⟩);clear hE hv hT hcv hln
  go_enter func18,ntmps18
  go_wp2_with fail
  go_ret;exact HD.out
 have hI:¬((16384:Int)<(s.size:Int)):=by omega
 obtain⟨af,aa⟩:=fq (Sc.tokens (Sc.fw s));have hG0:Sc.tC (Sc.fw s) af [] 0 (-1) 0:=⟨by rw[<-aa,Sc.yl,eX (by rw[hln];omega)];rfl,fB _,jq _,ic _⟩
 have hg1:0<w.heap.size:=lt_of_cell (hT.1 0 (by decide))
 have hg2:1<w.heap.size:=lt_of_cell (hT.2 0 (by decide)).1
 obtain⟨av,ax,HT⟩:=jF hG0 aa hT;clear hv hT hG0 aa
 go_enter func18,ntmps18
 go_wp2_with fail
 have hM0:Mem (w.alloc (.cells #[.string s,.slice none 0 0,.int .i64 0,.int .i64 0,.int .i64 0,.int .i64 0,.int .i64 0,.int .i64 (-1),.bool false] 67)) w.heap.size s (.slice none 0 0) (0:Nat) (0:Nat) (0:Nat) (0:Nat) 0 (-1) false:=j5 w _;have ay:=eZ hM0;clear hM0
 go_loopg [] s.size (λgf wr=>∃(v1:Value)(l1:List Tk)(p row en op:Nat)(base least:Int)(dash:Bool),Hid (Mem wr w.heap.size s v1 p row en op base least dash)/\Hid (Row wr w.heap.size v1 l1)/\Hid (Sc.tC (Sc.fw s) af l1 op least p)/\Hid (Below w.heap.size w wr)/\p<=s.size/\s.size<=p+gf)
 case atStart=>exact⟨_,[],0,0,0,0,0,-1,false,ay,eZ (H6 _ _ _ _),av,eZ (fo w _),ic _,by omega⟩
 case round=>
  obtain⟨v1,l1,p,row,en,op,base,least,dash,ag,HOr,ah,ae,hps,hgf⟩:=hrel;obtain⟨c0,c1,c2,c3,c4,c5,c6,c7,c8⟩:=ag.out.c;clear c3 c4 c5 c6 c7 c8 ay av;by_cases hlt:p<s.size
  ·obtain⟨g',rfl⟩:∃g',gk=g'+1:=⟨gk-1,by omega⟩
   have aB:(p:Int)<(s.size:Int):=by omega
   have HR:=eZ (QL w.heap.size s v1 p row en op base least dash l1 af wr ag.out HOr.out (HT.out.below ae.out) hg1 hg2 (by omega) hlt ah.out);clear ag HOr ah c1;go_wp2_with fail
   refine HR.out.mono ?_;rintro e w2 ⟨rfl,v2,l2,p2,az,aC,aD,aj,ai,ak,hM2,hO2,hG2,hp1,hp2,hB2⟩;obtain⟨aF,aG,aH,HB2⟩:=oN hM2 hO2 hG2 (ae.out.trans hB2);clear hM2 hO2 hG2 hB2 HR ae c0 c2;go_wp2_with fail
   go_roundg g'
   case measure=>omega
   case rel=>exact⟨v2,l2,p2,az,aC,aD,aj,ai,ak,aF,aG,aH,HB2,hp2,by omega⟩
  have aB:¬((p:Int)<(s.size:Int)):=by omega
  have aA:l1=af:=by
   have h:=ah.out.tot;rw[Sc.drop_nil s p (by omega),Sc.yj,mP]at h;exact h
  have HD:=eZ (show Gives (Sc.fw s) w (.returned v1) wr from⟨v1,rfl,by rw[ax.out,<-aA];exact lq HOr.out (RF _),ae.out⟩);clear aA ag HOr ah ae ax;go_wp2_with fail
  go_ret;exact HD.out
end
end Go.Proofs.YtmkkdjpebbdikaaGreatDoor

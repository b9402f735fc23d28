import Derived.Test.YtmkkdjpebbdikaaGreatDoorZn03
import Derived.Test.YtmkkdjpebbdikaaGreatDoorZn04
import Derived.Test.YtmkkdjpebbdikaaGreatDoorZn05
import Derived.ArgAppend
import Derived.Deep.CutBlock
import Derived.Deep.DeepCutAuto
import Derived.Deep.DeepMust
import Derived.Deep.LoopGhost
import Derived.Deep.QuietTactic
import Derived.Laws.IdiomStrings
import Derived.Lib.AppendStr
import Derived.Lib.ConvBytes
import Derived.Lib.EndianMore
import Derived.Lib.Hide
import Derived.Lib.OthersKept
import Derived.Lib.OwnKind
import Derived.Lib.SlBytesConst
import Derived.LoopN
import Derived.LoopTactic
import Derived.Maps.AppendAt
import Derived.OpenShut
import Derived.Outline
import Derived.ProofKit
import Derived.WalkLawsBesides
import Derived.WalkSmall
import Derived.WalkSpells
set_option linter.all false
set_option maxHeartbeats 16000000
set_option maxRecDepth 100000
namespace Go.Proofs.YtmkkdjpebbdikaaGreatDoor
open Go.RowKit Tryz
def fI:=@Below.refl
def VD:=@World.cell?_setCell_other
def vH:=@World.cell?_alloc_mark
def H8:=@ownsRow_setCell_below
def xM:=@World.iter_heap
def BF:=@Lib.run_next_any_at
def qK:=@Lib.below_iterAt
def BG:=@Lib.run_next_ascii_at
def vI:=@Lib.iterAt_heap
def xN:=@Lib.run_next_end_at
def VE:=@Sem.run_bind
def VF:=@Sem.run_pure
def VG:=@Result.andThen_ok
def Na:=@ByteArray.toList_eq
section
open Go.RowKit
open Sg
theorem addr_add(b off j:Nat):(⟨b,off,none⟩:Addr).add j=⟨b,off+j,none⟩:=by
 unfold Addr.add;split
 ·rename_i h;subst h;rfl
 rfl
theorem AR(b off cap:Nat)(s:ByteArray)(w:World)(hp:∀j,j<s.size->w.cell? ⟨b,off+j,none⟩=some (.int .u8 (s.get! j).toNat)):
 (convert 23 9 (.slice (some ⟨b,off,none⟩) s.size cap)).run prog w=.ok (.string s) w:=by
 have h:=run_convert_bytes_back (P:=prog) w 23 9 5 ⟨b,off,none⟩ cap s.data.toList underlying23 underlying5 underlying9 (λj hj=>by
  have hj':j<s.size:=by rw[rE];exact hj
  have e:=hp j hj';have e2:s.data.toList[j]=s.get! j:=by
   rw[<-BD];rw[yI,mR hj];rfl
  rw[e2];rw[addr_add]
  exact e)
 rw[<-rE]at h
 simpa using h
theorem Fz(w:World)(c:Nat):(convert 23 9 (.slice none 0 c)).run prog w=.ok (.string ⟨#[]⟩) w:=by
 rw[run_convert_bytes_string w 23 9 5 none 0 c underlying23 underlying5 underlying9];simp[Conv.bytesToString];rfl
theorem xB{w:World}{B e size n k pos:Nat}{v:Value}{xs:List Value}{s:ByteArray}(h:w.ownsRow B e size v n xs)(hk:w.heap[k]?=some (.stringIter s pos)):v.ownBlock≠some k:=λe=>by
 rcases h.2 with⟨h1,_⟩|⟨g,cap,cur,h1,_,h3,_⟩
 ·rw[h1]at e;cases e
 rw[h1]at e;obtain rfl:g=k:=jl e;rw[h3]at hk;cases hk
theorem own_iterAt{w:World}{B e size n k pos:Nat}{v:Value}{xs:List Value}{s:ByteArray}(h:w.ownsRow B e size v n xs)(hk:w.heap[k]?=some (.stringIter s pos))(pos':Nat):(w.iterAt k s pos').ownsRow B e size v n xs:=
 h.kept (row:=some k) ⟨rfl,rfl,rfl,Nat.le_of_eq (Lib.iterAt_size w k s pos').symm,λj _ hj=>Lib.iterAt_other w k j s pos' (λe=>hj (by rw[e]))⟩ (.inr (xB h hk))
theorem own_ne_iter{w:World}{B e size n k pos:Nat}{v:Value}{xs:List Value}{s:ByteArray}(h:w.ownsRow B e size v n xs)(hk:w.heap[k]?=some (.stringIter s pos)):some k≠v.ownBlock:=λe=>xB h hk e.symm
theorem fQ{w w':World}{B e size n:Nat}{v:Value}{xs:List Value}(h:w.ownsRow B e size v n xs)(hb:Below w.heap.size w w'):w'.ownsRow B e size v n xs:=by
 refine⟨h.1,?_⟩;rcases h.2 with h0|⟨g,cap,cur,hv,hbg,hg,rest⟩
 ·exact .inl h0
 have hlt:g<w.heap.size:=(xI.1 hg).1
 exact .inr ⟨g,cap,cur,hv,hbg,(hb.block g hlt).trans hg,rest⟩
def places(l:List Nat):List Value:=l.map fun(p:Nat)=>Value.int .i64 (p:Int)
theorem yP(l:List Nat)(p:Nat):places (l++[p])=places l++[.int .i64 (p:Int)]:=by simp[places]
theorem JK:(prog.info? 3).map (λi=>(i.zero,i.size,i.bytes))=some (some (.int .i64 0),1,8):=by kernel_rfl
end
section
open Go.RowKit
theorem size_alloc(w:World)(o:Obj):(w.alloc o).heap.size=w.heap.size+1:=by simp
theorem fo(w:World)(o:Obj):Below w.heap.size w (w.alloc o):=(fI _ w).alloc (fB _) o
theorem gX{a w:World}(h:Below a.heap.size a w)(o:Obj):Below a.heap.size a (w.alloc o):=h.alloc h.size o
theorem gU(w:World)(a:Addr)(v:Value)(h:(w.cell? a).isSome=true):(w.setCell a v).cell? a=some v:=by
 obtain⟨u,hu⟩:=Option.isSome_iff_exists.1 h;exact World.cell?_setCell_same w a v hu
theorem nJ(w:World)(b o o':Nat)(v:Value)(h:o≠o'):(w.setCell ⟨b,o,none⟩ v).cell? ⟨b,o',none⟩=w.cell? ⟨b,o',none⟩:=
 VD w _ _ v (λe=>h (by injection e))
theorem Et(w:World)(b o b' o':Nat)(v:Value)(h:b≠b'):(w.setCell ⟨b,o,none⟩ v).cell? ⟨b',o',none⟩=w.cell? ⟨b',o',none⟩:=
 VD w _ _ v (λe=>h (by injection e))
theorem fu{W w':World}{p:Addr}{u:Value}(hb:Below W.heap.size W w')(h:W.cell? p=some u):w'.cell? p=some u:=by rw[hb.cell (lt_of_cell h)];exact h
theorem tQ{W:World}{b o o':Nat}{v u:Value}(hne:o≠o')(h:W.cell? ⟨b,o',none⟩=some u):(W.setCell ⟨b,o,none⟩ v).cell? ⟨b,o',none⟩=some u:=by rw[nJ _ _ _ _ _ hne];exact h
theorem jL{W:World}{b o b' o':Nat}{v u:Value}(hne:b≠b')(h:W.cell? ⟨b',o',none⟩=some u):(W.setCell ⟨b,o,none⟩ v).cell? ⟨b',o',none⟩=some u:=by rw[Et _ _ _ _ _ _ hne];exact h
theorem gI{W:World}{o:Obj}{p:Addr}{u:Value}(h:W.cell? p=some u):(W.alloc o).cell? p=some u:=by rw[(fo W o).cell (lt_of_cell h)];exact h
theorem at_new{W:World}{C:Array Value}{t:TypeId}{k:Nat}{u:Value}(h:C[k]?=some u):(W.alloc (.cells C t)).cell? ⟨W.heap.size,k,none⟩=some u:=by rw[vH];exact h
theorem fE{W:World}{p:Addr}{u:Value}(h:W.cell? p=some u):W.drew.cell? p=some u:=h
end
section
open Go.RowKit
open Sg
open Sq
abbrev Tk:=Nat×Nat×Nat
def JL(x:Tk):List Value:=[.int .i64 x.1,.int .i64 x.2.1,.int .i64 x.2.2]
def iU:mr Tk:=⟨JL,3,by decide,λ_=>rfl,λx u hu=>by
 cases hu with
 |head=>rfl
 |tail _ hu=>cases hu with
  |head=>rfl
  |tail _ hu=>cases hu with
   |head=>rfl
   |tail _ hu=>cases hu⟩
theorem Q9:Ty prog iU 28 45 24:=Ty.of (z:=.agg #[.int .i64 0,.int .i64 0,.int .i64 0]) underlying28 (by kernel_rfl) (by kernel_rfl) rfl (λw=>by kernel_rfl)
theorem iZ{w:World}{a:Option Addr}{cap:Nat}{l:List Tk}(h:Reads iU w (.slice a l.length cap) l)(j:Nat)(x:Tk)(hj:l[j]?=some x):
 ∃b off,a=some ⟨b,off,none⟩/\w.cell? ⟨b,off+j*3,none⟩=some (.int .i64 x.1)/\w.cell? ⟨b,off+j*3+1,none⟩=some (.int .i64 x.2.1)/\w.cell? ⟨b,off+j*3+2,none⟩=some (.int .i64 x.2.2):=by
 obtain⟨b,off,h1,h2⟩:=h.at_ j x hj;exact⟨b,off,h1,h2 0 _ rfl,h2 1 _ rfl,h2 2 _ rfl⟩
section
variable {w w':World}{b:Nat}{v:Value}
abbrev Row(w:World)(b:Nat)(v:Value)(l:List Tk):Prop:=w.ownsRow (b+1) 45 3 v l.length (iU.all l)
theorem iw{l:List Tk}(h:Row w b v l)(o:Nat)(u:Value):Row (w.setCell ⟨b,o,none⟩ u) b v l:=H8 h (a:=⟨b,o,none⟩) (by simp) u
theorem iy{B:Nat}{a:World}(h:Below B a w)(hB:B<=b)(o:Nat)(u:Value):Below B a (w.setCell ⟨b,o,none⟩ u):=h.setCell (p:=⟨b,o,none⟩) hB u
theorem Tc(W:World)(x:Tk)(t:TypeId):∀j c,(iU.all [x])[j]?=some c->(W.alloc (.cells #[.int .i64 x.1,.int .i64 x.2.1,.int .i64 x.2.2] t)).cell? ⟨W.heap.size,j,none⟩=some c:=by
 intro j c hj;rw[vH]
 simpa [mr.all,iU,JL]using hj
theorem _root_.Go.RowKit.Below.mE{B C:Nat}{a m c:World}(h:Below B a m)(hC:C<=B)(h2:Below C m c):Below C a c:=(h.mono hC).trans h2
end
def Gives(L:List Nat)(w:World)(e:Ending)(w':World):Prop:=
 ∃u,e=.returned u/\w'.ownsRow w.heap.size 45 3 u (Sc.tokens L).length (iU.all (Sc.tokens L))/\Below w.heap.size w w'
end
section
open Go.RowKit
open Sq
namespace Fl
def kx(l:List Tk)(i:Nat):Nat:=if i<l.length then raw l i else 21
theorem rM{l:List Tk}{i:Nat}{x:Tk}(h:l[i]?=some x):raw l i=x.1:=by unfold raw;rw[h]
theorem XX{l:List Tk}{i:Nat}{x:Tk}(h:l[i]?=some x):kx l i=x.1:=by unfold kx;rw[eY (gD.1 h).1,rM h]
theorem nD(p:Nat->Bool)(n i:Nat)(h:i<n):iQ p (n-i) i=if p i=true then iQ p (n-(i+1)) (i+1)else i:=by
 rw[show n-i=(n-(i+1))+1 by omega,iQ]
theorem qg(p:Nat->Bool)(n:Nat):iQ p (n-n) n=n:=by rw[uC,iQ]
theorem B5{l:List Tk}{i:Nat}(h:i<=l.length):kd l l.length i=if kx l i=20\/kx l i=21 then 0 else kx l i:=by
 unfold kd kx;by_cases hi:i<l.length
 ·rw[eY hi];by_cases h2:raw l i=20\/raw l i=21
  ·rw[eY (.inr h2),eY h2]
  rw[eX (λh3=>h3.elim (by omega) h2),eX h2]
 rw[eX hi,eY (.inl (by omega)),eY (.inr rfl)]
def mk(k:Nat):Bool:=k==20||k==21
end Fl
open Fl (raw kx iQ nD qg cnt ends opens ig gW begins kd back)
abbrev RP(rb:Nat):Value:=.pointer (some ⟨rb,0,none⟩)
theorem E7(rb:Nat)(v:Value)(l:List Tk)(i:Nat)(w:World)(hc:w.cell? ⟨rb,0,none⟩=some v)(h:Reads iU w v l)(hi:i<=l.length)(hs:l.length<=100000):
 Calls prog 153 #[RP rb,.int .i64 i] w λe w'=>e=.returned (.int .i64 (kx l i:Nat))/\w=w':=by
 obtain⟨a,cap,rfl⟩:=h.shape;by_cases he:i<l.length
 ·obtain⟨x,hx⟩:=jB l i he;rw[Fl.XX hx];obtain⟨b,off,rfl,c0,-,-⟩:=iZ h i x hx;obtain⟨N,hN⟩:=fq (l.length);rw[hN]at hc he hs;have g:((i:Int)==(N:Int))=false:=by simp;omega
  have gi:(i:Int)<(N:Int):=by omega
  clear h hi hx hN he
  go_enter func153,ntmps153
  go_wp2_with fail
  go_ret;exact⟨rfl,rfl⟩
 obtain rfl:i=l.length:=by omega
 have hk:kx l l.length=21:=by unfold kx;rw[eX (sO _)]
 rw[hk];obtain⟨N,hN⟩:=fq (l.length);rw[hN]at hc⊢;clear h hi hN he hk hs
 go_enter func153,ntmps153
 go_wp2_with fail
 go_ret;exact⟨rfl,rfl⟩
theorem V5(k:Nat)(w:World):Calls prog 152 #[.int .i64 k] w λe w'=>e=.returned (.bool (k==3))/\w=w':=by
 go_enter func152,ntmps152
 go_wp2;all_goals (go_ret;refine⟨congrArg (λb=>Ending.returned (.bool b)) ?_,rfl⟩)
 all_goals (rw[nP];simp at*;try omega)
theorem XY(k:Nat)(w:World):Calls prog 167 #[.int .i64 k] w λe w'=>e=.returned (.bool (k==19))/\w=w':=by
 go_enter func167,ntmps167
 go_wp2;all_goals (go_ret;refine⟨congrArg (λb=>Ending.returned (.bool b)) ?_,rfl⟩)
 all_goals (rw[nP];simp at*;try omega)
theorem XZ(k:Nat)(w:World):Calls prog 166 #[.int .i64 k] w λe w'=>e=.returned (.bool (k==3||k==4))/\w=w':=by
 go_enter func166,ntmps166
 go_wp2;all_goals (go_ret;refine⟨congrArg (λb=>Ending.returned (.bool b)) ?_,rfl⟩)
 all_goals (rw[nP];simp at*;try omega)
theorem UM(k:Nat)(w:World):Calls prog 172 #[.int .i64 k] w λe w'=>e=.returned (.bool (!cnt k))/\w=w':=by
 go_enter func172,ntmps172
 go_wp2;all_goals (go_ret;refine⟨congrArg (λb=>Ending.returned (.bool b)) ?_,rfl⟩)
 all_goals (rw[nP];simp[cnt]at*;try omega)
theorem XI(k:Nat)(w:World):Calls prog 173 #[.int .i64 k] w λe w'=>e=.returned (.bool (ends k))/\w=w':=by
 go_enter func173,ntmps173
 go_wp2;all_goals (go_ret;refine⟨congrArg (λb=>Ending.returned (.bool b)) ?_,rfl⟩)
 all_goals (rw[nP];simp[ends]at*;try omega)
theorem Nl(k:Nat)(w:World):Calls prog 169 #[.int .i64 k] w λe w'=>e=.returned (.bool (Fl.mk k))/\w=w':=by
 go_enter func169,ntmps169
 go_wp2;all_goals (go_ret;refine⟨congrArg (λb=>Ending.returned (.bool b)) ?_,rfl⟩)
 all_goals (rw[nP];simp[Fl.mk]at*;try omega)
theorem JM(k:Nat)(w:World):Calls prog 183 #[.int .i64 k] w λe w'=>e=.returned (.bool (begins k))/\w=w':=by
 go_enter func183,ntmps183
 go_wp2;all_goals (go_ret;refine⟨congrArg (λb=>Ending.returned (.bool b)) ?_,rfl⟩)
 all_goals (rw[nP];simp[opens,ig,gW,begins]at*;try omega)
theorem IM(rb:Nat)(v:Value)(l:List Tk)(p:Nat)(w:World)(hc:w.cell? ⟨rb,0,none⟩=some v)(h:Reads iU w v l)(hp:p<=l.length)(hs:l.length<=100000):
 Calls prog 151 #[RP rb,.int .i64 p,.func (.func 152) #[] #[]] w λe w'=>e=.returned (.int .i64 (iQ (λj=>(λk=>k==3) (raw l j)) (l.length-p) p:Nat))/\w=w':=by
 have HK:=eZ (λi (hi:i<=l.length)=>E7 rb v l i w hc h hi hs);obtain⟨P,hP⟩:∃P:Nat->Bool,(λj=>(λk=>k==3) (raw l j))=P:=⟨_,rfl⟩
 have HX:=eZ (λi (hi:i<l.length)=>show(λk=>k==3) (kx l i)=P i by unfold kx;rw[eY hi,<-hP]);have HE:=eZ (show(λk=>k==3) (kx l l.length)=false by unfold kx;rw[eX (sO _)];rfl);have HC:=eZ (λk=>V5 k w);rw[hP];obtain⟨T,hT⟩:=fq (iQ P (l.length-p) p);rw[hT];obtain⟨N,hN⟩:=fq (l.length);rw[hN]at hp hs hT HK HX HE;have HT:=eZ hT;clear h hN hT hc hP
 go_enter func151,ntmps151
 go_wp2_with fail
 go_loopw [1] (λiv wr=>∃k:Nat,iv=.int .i64 k/\k<=N/\Hid (iQ P (N-k) k=T)/\w=wr) (λiv _=>N-(intOf iv).toNat)
 case atStart=>exact⟨p,rfl,hp,HT,rfl⟩
 case round=>
  obtain⟨k,rfl,hk,aa,rfl⟩:=hrel;have hcall:=HK.out k hk;by_cases hlt:k<N
  ·have hx:=HX.out k hlt;have hst:=nD P N k hlt;obtain⟨K,hK⟩:=fq (kx l k);rw[hK]at hcall hx;have hcl:=HC.out K;cases q:P k with
   |true=>
    rw[q]at hst hx;rw[eY rfl]at hst;have ag:=eZ (show iQ P (N-(k+1)) (k+1)=T by rw[<-aa.out];exact hst.symm);have e:(K==3)=true:=hx;rw[e]at hcl;obtain⟨ae,af⟩:=fT hcall hcl;clear hcall hcl hst hx hK q e HX HE HC HK aa HT;go_wp2_with fail
    refine ae.out.mono ?_;rintro e w1 ⟨rfl,rfl⟩;go_wp2_with fail
    refine af.out.mono ?_;rintro e w1 ⟨rfl,rfl⟩;go_wp2_with fail
    go_roundw
    case rel=>exact⟨k+1,by go_num,by omega,ag,trivial⟩
    case measure=>simp[intOf];omega
   |false=>
    rw[q]at hst hx;rw[eX (by decide)]at hst;obtain rfl:T=k:=by rw[<-aa.out];exact hst
    have e:(K==3)=false:=hx;rw[e]at hcl;obtain⟨ae,af⟩:=fT hcall hcl;clear hcall hcl hst hx hK q e HX HE HC HK aa HT;go_wp2_with fail
    refine ae.out.mono ?_;rintro e w1 ⟨rfl,rfl⟩;go_wp2_with fail
    refine af.out.mono ?_;rintro e w1 ⟨rfl,rfl⟩;go_wp2_with fail
    go_ret;exact⟨rfl,rfl⟩
  obtain rfl:k=N:=by omega
  obtain rfl:T=k:=by rw[<-aa.out];exact qg P k
  have hx:=HE.out;obtain⟨K,hK⟩:=fq (kx l T);rw[hK]at hcall hx;have hcl:=HC.out K;have e:(K==3)=false:=hx;rw[e]at hcl;obtain⟨ae,af⟩:=fT hcall hcl;clear hcall hcl hx hK e HX HE HC HK aa HT hlt;go_wp2_with fail
  refine ae.out.mono ?_;rintro e w1 ⟨rfl,rfl⟩;go_wp2_with fail
  refine af.out.mono ?_;rintro e w1 ⟨rfl,rfl⟩;go_wp2_with fail
  go_ret;exact⟨rfl,rfl⟩
theorem Ld(rb:Nat)(v:Value)(l:List Tk)(p:Nat)(w:World)(hc:w.cell? ⟨rb,0,none⟩=some v)(h:Reads iU w v l)(hp:p<=l.length)(hs:l.length<=100000):
 Calls prog 151 #[RP rb,.int .i64 p,.func (.func 167) #[] #[]] w λe w'=>e=.returned (.int .i64 (iQ (λj=>(λk=>k==19) (raw l j)) (l.length-p) p:Nat))/\w=w':=by
 have HK:=eZ (λi (hi:i<=l.length)=>E7 rb v l i w hc h hi hs);obtain⟨P,hP⟩:∃P:Nat->Bool,(λj=>(λk=>k==19) (raw l j))=P:=⟨_,rfl⟩
 have HX:=eZ (λi (hi:i<l.length)=>show(λk=>k==19) (kx l i)=P i by unfold kx;rw[eY hi,<-hP]);have HE:=eZ (show(λk=>k==19) (kx l l.length)=false by unfold kx;rw[eX (sO _)];rfl);have HC:=eZ (λk=>XY k w);rw[hP];obtain⟨T,hT⟩:=fq (iQ P (l.length-p) p);rw[hT];obtain⟨N,hN⟩:=fq (l.length);rw[hN]at hp hs hT HK HX HE;have HT:=eZ hT;clear h hN hT hc hP
 go_enter func151,ntmps151
 go_wp2_with fail
 go_loopw [1] (λiv wr=>∃k:Nat,iv=.int .i64 k/\k<=N/\Hid (iQ P (N-k) k=T)/\w=wr) (λiv _=>N-(intOf iv).toNat)
 case atStart=>exact⟨p,rfl,hp,HT,rfl⟩
 case round=>
  obtain⟨k,rfl,hk,aa,rfl⟩:=hrel;have hcall:=HK.out k hk;by_cases hlt:k<N
  ·have hx:=HX.out k hlt;have hst:=nD P N k hlt;obtain⟨K,hK⟩:=fq (kx l k);rw[hK]at hcall hx;have hcl:=HC.out K;cases q:P k with
   |true=>
    rw[q]at hst hx;rw[eY rfl]at hst;have ag:=eZ (show iQ P (N-(k+1)) (k+1)=T by rw[<-aa.out];exact hst.symm);have e:(K==19)=true:=hx;rw[e]at hcl;obtain⟨ae,af⟩:=fT hcall hcl;clear hcall hcl hst hx hK q e HX HE HC HK aa HT;go_wp2_with fail
    refine ae.out.mono ?_;rintro e w1 ⟨rfl,rfl⟩;go_wp2_with fail
    refine af.out.mono ?_;rintro e w1 ⟨rfl,rfl⟩;go_wp2_with fail
    go_roundw
    case rel=>exact⟨k+1,by go_num,by omega,ag,trivial⟩
    case measure=>simp[intOf];omega
   |false=>
    rw[q]at hst hx;rw[eX (by decide)]at hst;obtain rfl:T=k:=by rw[<-aa.out];exact hst
    have e:(K==19)=false:=hx;rw[e]at hcl;obtain⟨ae,af⟩:=fT hcall hcl;clear hcall hcl hst hx hK q e HX HE HC HK aa HT;go_wp2_with fail
    refine ae.out.mono ?_;rintro e w1 ⟨rfl,rfl⟩;go_wp2_with fail
    refine af.out.mono ?_;rintro e w1 ⟨rfl,rfl⟩;go_wp2_with fail
    go_ret;exact⟨rfl,rfl⟩
  obtain rfl:k=N:=by omega
  obtain rfl:T=k:=by rw[<-aa.out];exact qg P k
  have hx:=HE.out;obtain⟨K,hK⟩:=fq (kx l T);rw[hK]at hcall hx;have hcl:=HC.out K;have e:(K==19)=false:=hx;rw[e]at hcl;obtain⟨ae,af⟩:=fT hcall hcl;clear hcall hcl hx hK e HX HE HC HK aa HT hlt;go_wp2_with fail
  refine ae.out.mono ?_;rintro e w1 ⟨rfl,rfl⟩;go_wp2_with fail
  refine af.out.mono ?_;rintro e w1 ⟨rfl,rfl⟩;go_wp2_with fail
  go_ret;exact⟨rfl,rfl⟩
theorem Le(rb:Nat)(v:Value)(l:List Tk)(p:Nat)(w:World)(hc:w.cell? ⟨rb,0,none⟩=some v)(h:Reads iU w v l)(hp:p<=l.length)(hs:l.length<=100000):
 Calls prog 151 #[RP rb,.int .i64 p,.func (.func 166) #[] #[]] w λe w'=>e=.returned (.int .i64 (iQ (λj=>(λk=>k==3||k==4) (raw l j)) (l.length-p) p:Nat))/\w=w':=by
 have HK:=eZ (λi (hi:i<=l.length)=>E7 rb v l i w hc h hi hs);obtain⟨P,hP⟩:∃P:Nat->Bool,(λj=>(λk=>k==3||k==4) (raw l j))=P:=⟨_,rfl⟩
 have HX:=eZ (λi (hi:i<l.length)=>show(λk=>k==3||k==4) (kx l i)=P i by unfold kx;rw[eY hi,<-hP]);have HE:=eZ (show(λk=>k==3||k==4) (kx l l.length)=false by unfold kx;rw[eX (sO _)];rfl);have HC:=eZ (λk=>XZ k w);rw[hP];obtain⟨T,hT⟩:=fq (iQ P (l.length-p) p);rw[hT];obtain⟨N,hN⟩:=fq (l.length);rw[hN]at hp hs hT HK HX HE;have HT:=eZ hT;clear h hN hT hc hP
 go_enter func151,ntmps151
 go_wp2_with fail
 go_loopw [1] (λiv wr=>∃k:Nat,iv=.int .i64 k/\k<=N/\Hid (iQ P (N-k) k=T)/\w=wr) (λiv _=>N-(intOf iv).toNat)
 case atStart=>exact⟨p,rfl,hp,HT,rfl⟩
 case round=>
  obtain⟨k,rfl,hk,aa,rfl⟩:=hrel;have hcall:=HK.out k hk;by_cases hlt:k<N
  ·have hx:=HX.out k hlt;have hst:=nD P N k hlt;obtain⟨K,hK⟩:=fq (kx l k);rw[hK]at hcall hx;have hcl:=HC.out K;cases q:P k with
   |true=>
    rw[q]at hst hx;rw[eY rfl]at hst;have ag:=eZ (show iQ P (N-(k+1)) (k+1)=T by rw[<-aa.out];exact hst.symm);have e:(K==3||K==4)=true:=hx;rw[e]at hcl;obtain⟨ae,af⟩:=fT hcall hcl;clear hcall hcl hst hx hK q e HX HE HC HK aa HT;go_wp2_with fail
    refine ae.out.mono ?_;rintro e w1 ⟨rfl,rfl⟩;go_wp2_with fail
    refine af.out.mono ?_;rintro e w1 ⟨rfl,rfl⟩;go_wp2_with fail
    go_roundw
    case rel=>exact⟨k+1,by go_num,by omega,ag,trivial⟩
    case measure=>simp[intOf];omega
   |false=>
    rw[q]at hst hx;rw[eX (by decide)]at hst;obtain rfl:T=k:=by rw[<-aa.out];exact hst
    have e:(K==3||K==4)=false:=hx;rw[e]at hcl;obtain⟨ae,af⟩:=fT hcall hcl;clear hcall hcl hst hx hK q e HX HE HC HK aa HT;go_wp2_with fail
    refine ae.out.mono ?_;rintro e w1 ⟨rfl,rfl⟩;go_wp2_with fail
    refine af.out.mono ?_;rintro e w1 ⟨rfl,rfl⟩;go_wp2_with fail
    go_ret;exact⟨rfl,rfl⟩
  obtain rfl:k=N:=by omega
  obtain rfl:T=k:=by rw[<-aa.out];exact qg P k
  have hx:=HE.out;obtain⟨K,hK⟩:=fq (kx l T);rw[hK]at hcall hx;have hcl:=HC.out K;have e:(K==3||K==4)=false:=hx;rw[e]at hcl;obtain⟨ae,af⟩:=fT hcall hcl;clear hcall hcl hx hK e HX HE HC HK aa HT hlt;go_wp2_with fail
  refine ae.out.mono ?_;rintro e w1 ⟨rfl,rfl⟩;go_wp2_with fail
  refine af.out.mono ?_;rintro e w1 ⟨rfl,rfl⟩;go_wp2_with fail
  go_ret;exact⟨rfl,rfl⟩
theorem Lg(rb:Nat)(v:Value)(l:List Tk)(p:Nat)(w:World)(hc:w.cell? ⟨rb,0,none⟩=some v)(h:Reads iU w v l)(hp:p<=l.length)(hs:l.length<=100000):
 Calls prog 151 #[RP rb,.int .i64 p,.func (.func 172) #[] #[]] w λe w'=>e=.returned (.int .i64 (iQ (λj=>(λk=>!cnt k) (raw l j)) (l.length-p) p:Nat))/\w=w':=by
 have HK:=eZ (λi (hi:i<=l.length)=>E7 rb v l i w hc h hi hs);obtain⟨P,hP⟩:∃P:Nat->Bool,(λj=>(λk=>!cnt k) (raw l j))=P:=⟨_,rfl⟩
 have HX:=eZ (λi (hi:i<l.length)=>show(λk=>!cnt k) (kx l i)=P i by unfold kx;rw[eY hi,<-hP]);have HE:=eZ (show(λk=>!cnt k) (kx l l.length)=false by unfold kx;rw[eX (sO _)];rfl);have HC:=eZ (λk=>UM k w);rw[hP];obtain⟨T,hT⟩:=fq (iQ P (l.length-p) p);rw[hT];obtain⟨N,hN⟩:=fq (l.length);rw[hN]at hp hs hT HK HX HE;have HT:=eZ hT;clear h hN hT hc hP
 go_enter func151,ntmps151
 go_wp2_with fail
 go_loopw [1] (λiv wr=>∃k:Nat,iv=.int .i64 k/\k<=N/\Hid (iQ P (N-k) k=T)/\w=wr) (λiv _=>N-(intOf iv).toNat)
 case atStart=>exact⟨p,rfl,hp,HT,rfl⟩
 case round=>
  obtain⟨k,rfl,hk,aa,rfl⟩:=hrel;have hcall:=HK.out k hk;by_cases hlt:k<N
  ·have hx:=HX.out k hlt;have hst:=nD P N k hlt;obtain⟨K,hK⟩:=fq (kx l k);rw[hK]at hcall hx;have hcl:=HC.out K;cases q:P k with
   |true=>
    rw[q]at hst hx;rw[eY rfl]at hst;have ag:=eZ (show iQ P (N-(k+1)) (k+1)=T by rw[<-aa.out];exact hst.symm);have e:(!cnt K)=true:=hx;rw[e]at hcl;obtain⟨ae,af⟩:=fT hcall hcl;clear hcall hcl hst hx hK q e HX HE HC HK aa HT;go_wp2_with fail
    refine ae.out.mono ?_;rintro e w1 ⟨rfl,rfl⟩;go_wp2_with fail
    refine af.out.mono ?_;rintro e w1 ⟨rfl,rfl⟩;go_wp2_with fail
    go_roundw
    case rel=>exact⟨k+1,by go_num,by omega,ag,trivial⟩
    case measure=>simp[intOf];omega
   |false=>
    rw[q]at hst hx;rw[eX (by decide)]at hst;obtain rfl:T=k:=by rw[<-aa.out];exact hst
    have e:(!cnt K)=false:=hx;rw[e]at hcl;obtain⟨ae,af⟩:=fT hcall hcl;clear hcall hcl hst hx hK q e HX HE HC HK aa HT;go_wp2_with fail
    refine ae.out.mono ?_;rintro e w1 ⟨rfl,rfl⟩;go_wp2_with fail
    refine af.out.mono ?_;rintro e w1 ⟨rfl,rfl⟩;go_wp2_with fail
    go_ret;exact⟨rfl,rfl⟩
  obtain rfl:k=N:=by omega
  obtain rfl:T=k:=by rw[<-aa.out];exact qg P k
  have hx:=HE.out;obtain⟨K,hK⟩:=fq (kx l T);rw[hK]at hcall hx;have hcl:=HC.out K;have e:(!cnt K)=false:=hx;rw[e]at hcl;obtain⟨ae,af⟩:=fT hcall hcl;clear hcall hcl hx hK e HX HE HC HK aa HT hlt;go_wp2_with fail
  refine ae.out.mono ?_;rintro e w1 ⟨rfl,rfl⟩;go_wp2_with fail
  refine af.out.mono ?_;rintro e w1 ⟨rfl,rfl⟩;go_wp2_with fail
  go_ret;exact⟨rfl,rfl⟩
end
section
open Go.RowKit
open Es
def zI:Option Int->Value
 |some v=>.tuple #[.int .i32 v,.bool true]
 |none=>.tuple #[.int .i32 0,.bool false]
theorem Co(c:Int)(w:World)(h0:0<=c)(h1:c<256):
 Calls prog 136 #[.int .u8 c] w λe w'=>e=.returned (zI (pI c))/\w=w':=by
 go_enter func136,ntmps136
 go_wp2;all_goals
  go_ret2;refine⟨?_,rfl⟩;simp only[uD,iW,ne_eq]at*;simp[pI,zI, *]
theorem IP(c v:Int)(w:World)(h0:0<=c)(h1:c<256)(h:pI c=some v):
 Calls prog 136 #[.int .u8 c] w λe w'=>e=.returned (.tuple #[.int .i32 v,.bool true])/\w=w':=by
 have:=Co c w h0 h1;rw[h]at this;exact this
theorem kH(c:Int)(w:World)(h0:0<=c)(h1:c<256)(h:pI c=none):
 Calls prog 136 #[.int .u8 c] w λe w'=>e=.returned (.tuple #[.int .i32 0,.bool false])/\w=w':=by
 have:=Co c w h0 h1;rw[h]at this;exact this
theorem IQ(c:Int)(w:World):
 Calls prog 137 #[.int .u8 c] w λe w'=>e=.returned (.int .i64 (jZ c))/\w=w':=by
 go_enter func137,ntmps137
 go_wp2;all_goals
  go_ret;refine⟨?_,rfl⟩;simp only[uD,iW,ne_eq]at*;simp[jZ, *]
theorem Cq(c:Int)(w:World)(h0:0<=c)(h1:c<=2147483647):
 Calls prog 160 #[.int .i32 c] w λe w'=>e=.returned (zI (zH c))/\w=w':=by
 go_enter func160,ntmps160
 go_wp2;all_goals
  go_ret2;refine⟨?_,rfl⟩;simp only[zH]
  (repeat' split)<;>first|rfl|(simp[zI];omega)|omega
theorem AU(c d:Int)(w:World)(h0:0<=c)(h1:c<=2147483647)(h:zH c=some d):
 Calls prog 160 #[.int .i32 c] w λe w'=>e=.returned (.tuple #[.int .i32 d,.bool true])/\w=w':=by
 have:=Cq c w h0 h1;rw[h]at this;exact this
theorem IU(c:Int)(w:World)(h0:0<=c)(h1:c<=2147483647)(h:zH c=none):
 Calls prog 160 #[.int .i32 c] w λe w'=>e=.returned (.tuple #[.int .i32 0,.bool false])/\w=w':=by
 have:=Cq c w h0 h1;rw[h]at this;exact this
theorem yn(c:Int)(w:World)(h1:c<=2147483647):
 Calls prog 145 #[.int .i32 c] w λe w'=>e=.returned (.bool (Utf8.valid c))/\w=w':=by
 go_enter func145,ntmps145
 go_wp2;all_goals
  go_ret;refine⟨?_,rfl⟩;simp[Utf8.valid];omega
theorem Lh(c:Int)(w:World)(h1:c<=2147483647)(h:Utf8.valid c=true):
 Calls prog 145 #[.int .i32 c] w λe w'=>e=.returned (.bool true)/\w=w':=by
 have:=yn c w h1;rw[h]at this;exact this
theorem Pf(c:Int)(w:World)(h1:c<=2147483647)(h:Utf8.valid c=false):
 Calls prog 145 #[.int .i32 c] w λe w'=>e=.returned (.bool false)/\w=w':=by
 have:=yn c w h1;rw[h]at this;exact this
end
section
open Go.RowKit
open Es
theorem drop_at(t:ByteArray)(p:Nat)(h:p<t.size):t.data.toList.drop p=t[p]::t.data.toList.drop (p+1):=by
 have hl:p<t.data.toList.length:=by rw[<-rE];exact h
 rw[vZ hl];rfl
theorem Pg(t:ByteArray)(p:Nat)(h:t.size<=p):t.data.toList.drop p=[]:=mI (by rw[<-rE];exact h)
def Ij(r v:Int):Prop:=(r=v/\v<2147483648)\/(r<0/\2147483648<=v)
theorem GH{l:List UInt8}{v:Int}(h:num l 0=some v):sign l=if Utf8.valid v then some v else none:=by rw[sign,h]
theorem Eu{l:List UInt8}(h:num l 0=none):sign l=none:=by rw[sign,h]
theorem Ev{r v:Int}(h:Ij r v):Utf8.valid r=Utf8.valid v:=by
 rcases h with⟨rfl,_⟩|⟨h1,h2⟩
 ·rfl
 have a:Utf8.valid r=false:=by simp[Utf8.valid];omega
 have b:Utf8.valid v=false:=by simp[Utf8.valid];omega
 rw[a,b]
theorem Li(v:Int)(pos:Nat)(hp:pos<=7)(h:v<16^pos):v<268435456:=by
 have h2:(16:Int)^pos<=16^7:=by
  have:=Nat.pow_le_pow_right (n:=16) (by decide) hp
  exact_mod_cast this
 omega
theorem Ph(v d:Int)(pos:Nat)(hd:d<=15)(h:v<16^pos):16*v+d<16^(pos+1):=by
 rw[Int.pow_succ];omega
theorem Lj{r v:Int}(h:Ij r v):r<=2147483647:=by
 rcases h with⟨rfl,_⟩|⟨h1,h2⟩<;>omega
theorem vR(t:ByteArray)(w:World)(ht:t.size<=8):
 Calls prog 138 #[.string t] w λe w'=>e=.returned (zI (sign t.data.toList))/\Below w.heap.size w w':=by
 go_enter func138,ntmps138
 go_wp2
 go_loopg [4] t.size (λgf r wr=>∃(pos:Nat)(x v:Int),r=.int .i32 x/\wr.heap[w.heap.size]?=some (.stringIter t pos)/\Below w.heap.size w wr/\num t.data.toList 0=num (t.data.toList.drop pos) v/\pos<=t.size/\t.size<=pos+gf/\0<=v/\v<16^pos/\Ij x v)
 case atStart=>exact⟨0,0,0,rfl,xM w t 0,(fI _ w).alloc (fB _) _,rfl,ic _,by omega,by omega,by decide,.inl ⟨rfl,by decide⟩⟩
 case round=>
  obtain⟨pos,x,v,rfl,hit,hbw,hn,hp,hf,hv0,hv1,hst⟩:=hrel;by_cases hlt:pos<t.size
  ·obtain⟨g',rfl⟩:∃g',gk=g'+1:=⟨gk-1,by omega⟩
   have hv2:=Li v pos (by omega) hv1;obtain⟨rfl,_⟩:x=v/\v<2147483648:=by rcases hst with h|h<;>omega
   rw[drop_at t pos hlt]at hn;cases hx:zH (t[pos]).toNat with
   |none=>
    have hd:num t.data.toList 0=none:=by rw[hn,num,hx]
    have hR:zH (Utf8.decode t pos).1=none:=by
     by_cases ha:(t[pos]).toNat<128
     ·rw[decode_ascii t pos hlt ha];exact hx
     exact K8 (by have:=(decode_high t pos hlt (by omega)).1;omega)
    have hR2:=decode_le t pos;have hnx:∀ty,(Instr.next (.pointer (some ⟨w.heap.size,0,none⟩)) true ty).run prog wr=_:=λty=>BF wr w.heap.size t pos ty hit hlt
    have hb2:=qK hbw (k:=w.heap.size) (fB _) t (pos+(Utf8.decode t pos).2);have HS:=eZ (Eu hd);generalize (Utf8.decode t pos).1=R at*;generalize wr.iterAt w.heap.size t (pos+(Utf8.decode t pos).2)=W at*;have HR:=eZ hR;clear hit hbw hn hx hd hR hst;go_wp2_with fail
    refine(IU _ _ (by omega) (by omega) HR.out).mono ?_;rintro e w1 ⟨rfl,rfl⟩;go_wp2;go_ret2;exact⟨by rw[HS.out];rfl,hb2⟩
   |some d=>
    have aa:=SA hx;have ha:(t[pos]).toNat<128:=by omega
    have hd:num t.data.toList 0=num (t.data.toList.drop (pos+1)) (16*x+d):=by rw[hn,num,hx]
    have hnx:∀ty,(Instr.next (.pointer (some ⟨w.heap.size,0,none⟩)) true ty).run prog wr=_:=λty=>BG wr w.heap.size t pos ty hit hlt ha
    have hit2:=vI wr w.heap.size t pos (pos+1) hit;have hb2:=qK hbw (k:=w.heap.size) (fB _) t (pos+1);have hp2:=Ph x d pos (by omega) hv1;generalize wr.iterAt w.heap.size t (pos+1)=W at*;generalize (t[pos]).toNat=b at*;obtain⟨HX,HD,HI⟩:=jF hx hd hit2;clear hit hbw hn hx hd hst hit2;by_cases hs:x<134217728
    ·have o1:=VY x d hv0 hs (by omega) (by omega);have o2:=O5 x hv0 hs;go_wp2_with fail
     refine(AU _ d _ (by omega) (by omega) HX.out).mono ?_;rintro e w1 ⟨rfl,rfl⟩;go_wp2
     go_roundg g'
     case measure=>omega
     case rel=>exact⟨pos+1,16*x+d,16*x+d,by rw[Int.mul_comm 16 x],HI.out,hb2,HD.out,by omega,by omega,by omega,hp2,.inl ⟨rfl,by omega⟩⟩
    have o1:=SB x d (by omega) hv2 (by omega) (by omega);rw[show IntKind.i32.wrap (x*16)=wrap32 (x*16)from IntWalk.i32_left _]at o1;go_wp2_with fail
    refine(AU _ d _ (by omega) (by omega) HX.out).mono ?_;rintro e w1 ⟨rfl,rfl⟩;go_wp2
    go_roundg g'
    case measure=>omega
    case rel=>exact⟨pos+1,_,16*x+d,rfl,HI.out,hb2,HD.out,by omega,by omega,by omega,hp2,.inr ⟨o1,by omega⟩⟩
  rw[Pg t pos (by omega)]at hn;have hnx:∀ty,(Instr.next (.pointer (some ⟨w.heap.size,0,none⟩)) true ty).run prog wr=_:=λty=>xN wr w.heap.size t pos ty hit hlt
  have hs:=GH hn;have hval:=Ev hst;have hle:=Lj hst;cases hb:Utf8.valid v with
  |false=>
   rw[hb]at hs hval;obtain⟨HS,HV⟩:=fT hs hval;clear hs hval hn hit hb hst;go_wp2_with fail
   refine(Pf _ _ hle HV.out).mono ?_;rintro e w1 ⟨rfl,rfl⟩;go_wp2;go_ret2;exact⟨by rw[HS.out];rfl,hbw⟩
  |true=>
   obtain rfl:x=v:=by
    rcases hst with h|h
    ·exact h.1
    simp[Utf8.valid]at hb;omega
   rw[hb]at hs;obtain⟨HS,HV⟩:=fT hs hb;clear hs hval hn hit hb hst;go_wp2_with fail
   refine(Lh _ _ hle HV.out).mono ?_;rintro e w1 ⟨rfl,rfl⟩;go_wp2;go_ret2;exact⟨by rw[HS.out];rfl,hbw⟩
end
section
open Go.RowKit
open Es
def Nb(o:Option (Int×Nat)):Value:=.tuple #[.string (XV o),.int .i64 (lenOf o)]
theorem nU(n:Int)(w:World):(convert 21 9 (.int .i32 n)).run prog w=.ok (.string (Utf8.encode n)) w:=by
 simp[convert,run_underlying underlying21,run_underlying underlying9,Conv.intToString]
theorem IV(s:ByteArray)(w:World)(hs:s.size<=maxLen):
 Calls prog 106 #[.string s] w λe w'=>e=.returned (Nb (esc s.data.toList))/\Below w.heap.size w w':=by
 unfold maxLen at hs;have hl:s.data.toList.length=s.size:=(rE s).symm;by_cases h2:2<=s.size
 ·have hlt:decide ((s.size:Int)<2)=false:=by simp;omega
  have i0:0<s.size:=wC (by decide) h2
  have i1:1<s.size:=h2
  have hL:=O6 s h2;have hr:(s.data.toList.drop 2).length=s.size-2:=by rw[iT,hl]
  have hb0:(s[1]'i1).toNat<256:=KP _
  by_cases h9:(s[0]'i0).toNat=92
  ·have g9:(((s[0]'i0).toNat:Int) !=92)=false:=by rw[h9];rfl
   cases hs1:pI (s[1]'i1).toNat with
   |some v=>
    have hE:=AP (r:=s.data.toList.drop 2) h9 hs1;rw[<-hL]at hE;have hE2:Nb (esc s.data.toList)=.tuple #[.string (Utf8.encode v),.int .i64 2]:=by rw[hE];rfl
    obtain⟨HS,H1⟩:=fT hE2 hs1;have hcv:=nU v w;clear hE hE2 hs1 hL hl hr h9;generalize Utf8.encode v=V at*
    go_enter func106,ntmps106
    go_wp2_with fail
    refine(IP _ v w (by omega) (by omega) H1.out).mono ?_;rintro e w1 ⟨rfl,rfl⟩;go_wp2;go_ret2;exact⟨by rw[HS.out];rfl,fI _ _⟩
   |none=>
    have HN:=eZ hs1;have hdg:=IQ (s[1]'i1).toNat w;rcases O4 (s[1]'i1).toNat with hd|hd|hd|hd
    ·have hE:=rq (r:=s.data.toList.drop 2) h9 hs1 (.inl hd);rw[<-hL]at hE;have HS:=eZ hE;rw[hd]at hdg;have HD:=eZ hdg;clear hE hs1 hL hl hr h9 hd hdg
     go_enter func106,ntmps106
     go_wp2_with fail
     refine(kH _ w (by omega) (by omega) HN.out).mono ?_;rintro e w1 ⟨rfl,rfl⟩;go_wp2_with fail
     refine HD.out.mono ?_;rintro e w1 ⟨rfl,rfl⟩;go_wp2;go_ret2;exact⟨by rw[HS.out];rfl,fI _ _⟩
    ·by_cases h3:s.size<4
     ·have hE:=rq (r:=s.data.toList.drop 2) h9 hs1 (.inr (by rw[hd,hr];omega));rw[<-hL]at hE;have HS:=eZ hE;rw[hd]at hdg;have HD:=eZ hdg;have hlt2:((s.size:Int))<4:=by omega
      clear hE hs1 hL hl hr h9 hd hdg h3
      go_enter func106,ntmps106
      go_wp2_with fail
      refine(kH _ w (by omega) (by omega) HN.out).mono ?_;rintro e w1 ⟨rfl,rfl⟩;go_wp2_with fail
      refine HD.out.mono ?_;rintro e w1 ⟨rfl,rfl⟩;go_wp2;go_ret2;exact⟨by rw[HS.out];rfl,fI _ _⟩
     have hle2:(4:Int)<=s.size:=by omega
     have hln:jZ (s[1]'i1).toNat<=(s.data.toList.drop 2).length:=by rw[hd,hr];omega
     have htk:(s.data.toList.drop 2).take (jZ (s[1]'i1).toNat)=(s.extract 2 4).data.toList:=by rw[hd,ext_list]
     have htz:(s.extract 2 4).size<=8:=by rw[nV];omega
     have hnb:=vR (s.extract 2 4) w htz;cases hsn:sign (s.extract 2 4).data.toList with
     |none=>
      have hE:=ze (r:=s.data.toList.drop 2) h9 hs1 (by rw[hd];decide) hln (by rw[htk];exact hsn);rw[<-hL]at hE;have HS:=eZ hE;rw[hd]at hdg;rw[hsn]at hnb;obtain⟨HD,HB⟩:=fT hdg hnb;clear hE hs1 hL hl hr h9 hd hdg h3 hnb hsn htz htk hln
      go_enter func106,ntmps106
      go_wp2_with fail
      refine(kH _ w (by omega) (by omega) HN.out).mono ?_;rintro e w1 ⟨rfl,rfl⟩;go_wp2_with fail
      refine HD.out.mono ?_;rintro e w1 ⟨rfl,rfl⟩;go_wp2_with fail
      refine HB.out.mono ?_;rintro e w1 ⟨rfl,hb⟩;unfold zI;go_wp2;go_ret2;exact⟨by rw[HS.out];rfl,hb⟩
     |some v=>
      have hE:=wU (r:=s.data.toList.drop 2) h9 hs1 (by rw[hd];decide) hln (by rw[htk];exact hsn);rw[<-hL,hd]at hE;have hE2:Nb (esc s.data.toList)=.tuple #[.string (Utf8.encode v),.int .i64 4]:=by rw[hE];rfl
      have HS:=eZ hE2;rw[hd]at hdg;rw[hsn]at hnb;obtain⟨HD,HB⟩:=fT hdg hnb;have hcv:=nU v;clear hE hE2 hs1 hL hl hr h9 hd hdg h3 hnb hsn htz htk hln;generalize Utf8.encode v=V at*
      go_enter func106,ntmps106
      go_wp2_with fail
      refine(kH _ w (by omega) (by omega) HN.out).mono ?_;rintro e w1 ⟨rfl,rfl⟩;go_wp2_with fail
      refine HD.out.mono ?_;rintro e w1 ⟨rfl,rfl⟩;go_wp2_with fail
      refine HB.out.mono ?_;rintro e w1 ⟨rfl,hb⟩;unfold zI;go_wp2;go_ret2;exact⟨by rw[HS.out];rfl,hb⟩
    ·by_cases h3:s.size<6
     ·have hE:=rq (r:=s.data.toList.drop 2) h9 hs1 (.inr (by rw[hd,hr];omega));rw[<-hL]at hE;have HS:=eZ hE;rw[hd]at hdg;have HD:=eZ hdg;have hlt2:((s.size:Int))<6:=by omega
      clear hE hs1 hL hl hr h9 hd hdg h3
      go_enter func106,ntmps106
      go_wp2_with fail
      refine(kH _ w (by omega) (by omega) HN.out).mono ?_;rintro e w1 ⟨rfl,rfl⟩;go_wp2_with fail
      refine HD.out.mono ?_;rintro e w1 ⟨rfl,rfl⟩;go_wp2;go_ret2;exact⟨by rw[HS.out];rfl,fI _ _⟩
     have hle2:(6:Int)<=s.size:=by omega
     have hln:jZ (s[1]'i1).toNat<=(s.data.toList.drop 2).length:=by rw[hd,hr];omega
     have htk:(s.data.toList.drop 2).take (jZ (s[1]'i1).toNat)=(s.extract 2 6).data.toList:=by rw[hd,ext_list]
     have htz:(s.extract 2 6).size<=8:=by rw[nV];omega
     have hnb:=vR (s.extract 2 6) w htz;cases hsn:sign (s.extract 2 6).data.toList with
     |none=>
      have hE:=ze (r:=s.data.toList.drop 2) h9 hs1 (by rw[hd];decide) hln (by rw[htk];exact hsn);rw[<-hL]at hE;have HS:=eZ hE;rw[hd]at hdg;rw[hsn]at hnb;obtain⟨HD,HB⟩:=fT hdg hnb;clear hE hs1 hL hl hr h9 hd hdg h3 hnb hsn htz htk hln
      go_enter func106,ntmps106
      go_wp2_with fail
      refine(kH _ w (by omega) (by omega) HN.out).mono ?_;rintro e w1 ⟨rfl,rfl⟩;go_wp2_with fail
      refine HD.out.mono ?_;rintro e w1 ⟨rfl,rfl⟩;go_wp2_with fail
      refine HB.out.mono ?_;rintro e w1 ⟨rfl,hb⟩;unfold zI;go_wp2;go_ret2;exact⟨by rw[HS.out];rfl,hb⟩
     |some v=>
      have hE:=wU (r:=s.data.toList.drop 2) h9 hs1 (by rw[hd];decide) hln (by rw[htk];exact hsn);rw[<-hL,hd]at hE;have hE2:Nb (esc s.data.toList)=.tuple #[.string (Utf8.encode v),.int .i64 6]:=by rw[hE];rfl
      have HS:=eZ hE2;rw[hd]at hdg;rw[hsn]at hnb;obtain⟨HD,HB⟩:=fT hdg hnb;have hcv:=nU v;clear hE hE2 hs1 hL hl hr h9 hd hdg h3 hnb hsn htz htk hln;generalize Utf8.encode v=V at*
      go_enter func106,ntmps106
      go_wp2_with fail
      refine(kH _ w (by omega) (by omega) HN.out).mono ?_;rintro e w1 ⟨rfl,rfl⟩;go_wp2_with fail
      refine HD.out.mono ?_;rintro e w1 ⟨rfl,rfl⟩;go_wp2_with fail
      refine HB.out.mono ?_;rintro e w1 ⟨rfl,hb⟩;unfold zI;go_wp2;go_ret2;exact⟨by rw[HS.out];rfl,hb⟩
    by_cases h3:s.size<10
    ·have hE:=rq (r:=s.data.toList.drop 2) h9 hs1 (.inr (by rw[hd,hr];omega));rw[<-hL]at hE;have HS:=eZ hE;rw[hd]at hdg;have HD:=eZ hdg;have hlt2:((s.size:Int))<10:=by omega
     clear hE hs1 hL hl hr h9 hd hdg h3
     go_enter func106,ntmps106
     go_wp2_with fail
     refine(kH _ w (by omega) (by omega) HN.out).mono ?_;rintro e w1 ⟨rfl,rfl⟩;go_wp2_with fail
     refine HD.out.mono ?_;rintro e w1 ⟨rfl,rfl⟩;go_wp2;go_ret2;exact⟨by rw[HS.out];rfl,fI _ _⟩
    have hle2:(10:Int)<=s.size:=by omega
    have hln:jZ (s[1]'i1).toNat<=(s.data.toList.drop 2).length:=by rw[hd,hr];omega
    have htk:(s.data.toList.drop 2).take (jZ (s[1]'i1).toNat)=(s.extract 2 10).data.toList:=by rw[hd,ext_list]
    have htz:(s.extract 2 10).size<=8:=by rw[nV];omega
    have hnb:=vR (s.extract 2 10) w htz;cases hsn:sign (s.extract 2 10).data.toList with
    |none=>
     have hE:=ze (r:=s.data.toList.drop 2) h9 hs1 (by rw[hd];decide) hln (by rw[htk];exact hsn);rw[<-hL]at hE;have HS:=eZ hE;rw[hd]at hdg;rw[hsn]at hnb;obtain⟨HD,HB⟩:=fT hdg hnb;clear hE hs1 hL hl hr h9 hd hdg h3 hnb hsn htz htk hln
     go_enter func106,ntmps106
     go_wp2_with fail
     refine(kH _ w (by omega) (by omega) HN.out).mono ?_;rintro e w1 ⟨rfl,rfl⟩;go_wp2_with fail
     refine HD.out.mono ?_;rintro e w1 ⟨rfl,rfl⟩;go_wp2_with fail
     refine HB.out.mono ?_;rintro e w1 ⟨rfl,hb⟩;unfold zI;go_wp2;go_ret2;exact⟨by rw[HS.out];rfl,hb⟩
    |some v=>
     have hE:=wU (r:=s.data.toList.drop 2) h9 hs1 (by rw[hd];decide) hln (by rw[htk];exact hsn);rw[<-hL,hd]at hE;have hE2:Nb (esc s.data.toList)=.tuple #[.string (Utf8.encode v),.int .i64 10]:=by rw[hE];rfl
     have HS:=eZ hE2;rw[hd]at hdg;rw[hsn]at hnb;obtain⟨HD,HB⟩:=fT hdg hnb;have hcv:=nU v;clear hE hE2 hs1 hL hl hr h9 hd hdg h3 hnb hsn htz htk hln;generalize Utf8.encode v=V at*
     go_enter func106,ntmps106
     go_wp2_with fail
     refine(kH _ w (by omega) (by omega) HN.out).mono ?_;rintro e w1 ⟨rfl,rfl⟩;go_wp2_with fail
     refine HD.out.mono ?_;rintro e w1 ⟨rfl,rfl⟩;go_wp2_with fail
     refine HB.out.mono ?_;rintro e w1 ⟨rfl,hb⟩;unfold zI;go_wp2;go_ret2;exact⟨by rw[HS.out];rfl,hb⟩
  have HS:=eZ (Cj (c:=s[1]'(by omega)) (r:=s.data.toList.drop 2) h9);rw[<-hL]at HS;have g9:(((s[0]'i0).toNat:Int) !=92)=true:=by rw[KR];omega
  clear hL hl hr h9
  go_enter func106,ntmps106
  go_wp2;all_goals
   go_ret2;exact⟨by rw[HS.out];rfl,fI _ _⟩
 have HS:=eZ (K9 (s:=s.data.toList) (by omega));have hlt:decide ((s.size:Int)<2)=true:=by simp;omega
 clear hl
 go_enter func106,ntmps106
 go_wp2;all_goals
  go_ret2;exact⟨by rw[HS.out];rfl,fI _ _⟩
end
section
open Go.RowKit
open Sg
theorem xF.fJ{w:World}{base:Nat}{v:Value}{s:ByteArray}(h:w.ownsRow base 5 1 v s.size (s.data.toList.map fun(x:UInt8)=>Value.int .u8 x.toNat)):xF w v s:=by
 rcases h.2 with⟨h1,h2⟩|⟨g,cap,cur,h1,h2,h3,h4,h5,h6,h7⟩
 ·exact .inl ⟨h1,h2⟩
 refine .inr ⟨g,0,cap,h1,h4,h5,λj hj=>?_⟩;have hj':j<s.data.toList.length:=by rw[<-rE];exact hj
 have hc:=h.cells (g:=g) (by rw[h1];rfl) j (.int .u8 ((s.data.toList[j]).toNat:Int)) (by rw[lS,mR hj'];rfl);rw[addr_add]at hc;rw[hc,<-BD,yI,mR hj'];rfl
theorem infoByte:(prog.info? 5).map (λi=>(i.zero,i.size,i.bytes))=some (some (.int .u8 0),1,1):=by kernel_rfl
def cellsOf(s:ByteArray):List Value:=s.data.toList.map fun(x:UInt8)=>Value.int .u8 (x.toNat:Int)
theorem xF.shape{w:World}{v:Value}{s:ByteArray}(h:xF w v s):∃a cap,v=.slice a s.size cap:=by
 rcases h with⟨h1,h2⟩|⟨b,off,cap,h1,_⟩
 ·exact⟨none,0,by rw[h1,h2]⟩
 exact⟨_,_,h1⟩
end
section
open Go.RowKit
structure Ik(w:World)(g:Nat)(s:ByteArray)(cap:Nat):Prop where
 le:s.size<=cap
 max:cap<=maxLen
 at':∃C fr,w.heap[g]?=some (.cells C 5 fr)/\C.size=cap/\C.size<=fr.1
 cell:∀j,j<s.size->w.cell? ⟨g,j,none⟩=some (.int .u8 (s.get! j).toNat)
theorem Ik.YB{w:World}{g:Nat}{s:ByteArray}{cap:Nat}(h:Ik w g s cap):xF w (.slice (some ⟨g,0,none⟩) s.size cap) s:=
 .inr ⟨g,0,cap,rfl,h.le,h.max,λj hj=>by rw[kU];exact h.cell j hj⟩
theorem wV(s:ByteArray)(w:World)(hs:s.size<=maxLen):
 ∃cap w',(convert 9 23 (.string s)).run prog w=.ok (.slice (some ⟨w.heap.size,0,none⟩) s.size cap) w'/\Ik w' w.heap.size s cap/\Below w.heap.size w w':=by
 refine⟨grownCap w s.size 0 5,Lib.bytesWorld w 5 s,Lib.run_convert_string_bytes w 9 23 5 s underlying9 underlying23 underlying5,?_,?_⟩
 ·have hge:=grownCap_ge w s.size 0 5;have hC:(Lib.bytesCells w 5 s).size=grownCap w s.size 0 5:=by
   have e:s.data.size=s.size:=rfl;simp[Lib.bytesCells,e];omega
  refine⟨hge,grownCap_le_maxLen _ _ _ _ hs,⟨_,_,Lib.bytesWorld_at_new w 5 s,hC,fB _⟩,λj hj=>?_⟩;rw[Lib.bytesWorld_cell w 5 s j hj,BD]
 exact⟨rfl,rfl,rfl,by rw[Lib.bytesWorld_size];omega,λi hi=>Lib.bytesWorld_at_old w 5 s i hi⟩
end
section
open Go.RowKit
open Sg
theorem Td{w:World}{a:Option Addr}{s:ByteArray}{cap lo hi:Nat}(h:xF w (.slice a s.size cap) s)(h1:lo<=hi)(h2:hi<=s.size):
 xF w (.slice (if cap=lo then a else a.map λx=>x.add lo) (hi-lo) (cap-lo)) (s.extract lo hi):=by
 have hz:=ext_size s lo hi h2;rcases h with⟨hv,h0⟩|⟨b,off,cap',hv,g2,g3,g4⟩
 ·obtain⟨rfl,-,rfl⟩:=ll hv;obtain rfl:lo=0:=by omega
  obtain rfl:hi=0:=by omega
  exact .inl ⟨rfl,hz⟩
 obtain⟨rfl,-,rfl⟩:=ll hv;by_cases hc:cap=lo
 ·rw[eY hc];refine .inr ⟨b,off,cap-lo,by rw[hz],by omega,by omega,λj hj=>?_⟩;rw[hz]at hj;omega
 rw[eX hc];refine .inr ⟨b,off+lo,cap-lo,?_,by omega,by omega,λj hj=>?_⟩
 ·rw[hz,yJ,addr_add]
 rw[hz]at hj;rw[ext_get s lo hi j (by omega),RB];exact g4 (lo+j) (by omega)
theorem qT{w:World}{v:Value}{s:ByteArray}(h:xF w v s):(convert 23 9 v).run prog w=.ok (.string s) w:=by
 rcases h with⟨rfl,h⟩|⟨b,off,cap,rfl,h2,h3,h4⟩
 ·rw[Fz];have:s=⟨#[]⟩:=by
   cases s with
   |mk d=>simp[ByteArray.size]at h;rw[h]
  rw[this]
 exact AR b off cap s w h4
theorem xF.vM{w:World}{a:Option Addr}{s:ByteArray}{cap:Nat}(h:xF w (.slice a s.size cap) s):s.size<=cap/\cap<=maxLen:=by
 rcases h with⟨hv,h0⟩|⟨b,off,cap',hv,g2,g3,g4⟩
 ·obtain⟨rfl,-,rfl⟩:=ll hv;exact⟨by omega,ic _⟩
 obtain⟨rfl,-,rfl⟩:=ll hv;exact⟨g2,g3⟩
theorem IW:prog.underlying 23=some (.slice (prog.elem 23)):=by kernel_rfl
theorem size_bytes(w:World):(sizeOf (prog.elem 23)).run prog w=.ok 1 w:=by kernel_rfl
theorem Te{w:World}{a:Option Addr}{s:ByteArray}{cap lo hi:Nat}(h:xF w (.slice a s.size cap) s)(h1:lo<=hi)(h2:hi<=s.size):
 ∃v,(∀W:World,(Instr.slice 23 (.slice a s.size cap) (some (.int .i64 (lo:Int))) (some (.int .i64 (hi:Int))) none).run prog W=.ok v W)/\xF w v (s.extract lo hi):=by
 have hb:=Td h h1 h2;have hc:=h.vM;refine⟨_,λW=>?_,hb⟩;rw[run_slice_lh W _ a s.size cap IW .i64 .i64 lo hi (by omega) (by omega) (by omega),size_bytes];simp[Result.andThen,sliced]
end
section
open Go.RowKit
open Sg
theorem GI(a b:ByteArray):cellsOf (a++b)=cellsOf a++cellsOf b:=by simp[cellsOf]
end
section
open Go.RowKit
theorem wpList_append_text{w:World}{ops:Array Oper}{rest:List Oper}{o:Oper}{a:Act}{Q:Exit->Act->World->Prop}(hgd:o.guard=none)(x y:Operand)
 (ho:o.op=.call {callee:=.builtin .append,args:=#[x,y],argTypes:=#[23,9]})
 (base:Nat) (v:Value) (n:Nat) (xs:List Value) (hs:a.eval x=v) (hown:w.ownsRow base 5 1 v n xs) (s:ByteArray) (hy:a.eval y=.string s)
 (hlen:n+s.size<=140737488355328) (hbase:base<=w.heap.size)
 (h:∀v' w',w'.ownsRow base 5 1 v' (n+s.size) (xs++cellsOf s)->w.grownBy w' v.ownBlock->wpList prog ops Q rest (a.put o.dst v') w'):wpList prog ops Q (o::rest) a w:=by
 obtain⟨i0,hi,hz0,hz1,hz2⟩:=M8 infoByte;refine wpList_plain hgd λK hK=>?_
 obtain⟨v',w',hr,h2,h3,h4⟩:=Lib.run_append_own_string (P:=prog) (w:=w) base 23 9 o.type 5 i0 underlying23 (by kernel_rfl) hi hz0 hz1 hz2 v n xs hown s (by simp only[maxLen];omega) hlen hbase;unfold Oper.wp execOp;simp only[ho,resolve,invoke,builtin,VE,VF,VG,Vr,wB,Ho,hs,hy,hr];exact hK _ _ (h v' w' h2 h3)
theorem Af{W:World}{B:Nat}{v:Value}{out x:ByteArray}(h:W.ownsRow B 5 1 v (out.size+x.size) (cellsOf out++cellsOf x)):W.ownsRow B 5 1 v (out++x).size (cellsOf (out++x)):=by
 rw[Sg.pM,GI];exact h
theorem uY{a w w':World}{B:Nat}{row:Option Nat}(h:Below B a w)(hg:w.grownBy w' row)(hr:∀k,row=some k->B<=k)(hB:B<=w.heap.size):Below B a w':=h.grown hg hB hr
end
section
open Go.RowKit
open Sg
theorem Dx(c:Nat)(w:World):
 Calls prog 82 #[.int .u8 c] w λe w'=>e=.returned (.bool (Sc.blk c))/\w=w':=by
 go_enter func82,ntmps82
 go_wp2;all_goals
  go_ret;refine⟨?_,rfl⟩;refine congrArg (λb=>Ending.returned (.bool b)) ?_;rw[nP];simp[Sc.blk]at*;try omega
theorem Nn(c:Nat)(w:World):
 Calls prog 125 #[.int .u8 c] w λe w'=>e=.returned (.bool (Sc.Dj c))/\w=w':=by
 go_enter func125,ntmps125
 go_wp2;all_goals
  go_ret;refine⟨?_,rfl⟩;refine congrArg (λb=>Ending.returned (.bool b)) ?_;rw[nP];simp[Sc.Dj]at*;try omega
theorem UN(c:Nat)(w:World):
 Calls prog 128 #[.int .u8 c] w λe w'=>e=.returned (.bool (Sc.EZ c))/\w=w':=by
 go_enter func128,ntmps128
 go_wp2;all_goals
  go_ret;refine⟨?_,rfl⟩;refine congrArg (λb=>Ending.returned (.bool b)) ?_;rw[nP];simp[Sc.EZ]at*;try omega
theorem NY(c:Nat)(w:World):
 Calls prog 83 #[.int .u8 c] w λe w'=>e=.returned (.bool (Sc.xX c))/\w=w':=by
 go_enter func83,ntmps83
 go_wp2;all_goals
  go_ret;refine⟨?_,rfl⟩;refine congrArg (λb=>Ending.returned (.bool b)) ?_;rw[nP];simp[Sc.xX]at*;try omega
theorem NZ(c:Nat)(w:World):
 Calls prog 124 #[.int .u8 c] w λe w'=>e=.returned (.bool (Sc.Ig c))/\w=w':=by
 by_cases h:c=33
 ·subst h
  go_enter func124,ntmps124
  go_wp2_with fail
  go_ret;exact⟨rfl,rfl⟩
 have hb:((c:Int)==33)=false:=by simp;omega
 have e:Sc.Ig c=Sc.Dj c:=by simp[Sc.Ig,h]
 rw[e];clear h e
 go_enter func124,ntmps124
 go_wp2_with fail
 refine(Nn c w).mono ?_;rintro e w1 ⟨rfl,rfl⟩;go_wp2;go_ret;exact⟨rfl,rfl⟩
theorem wM(s:ByteArray)(h:s.size=0):s=⟨#[]⟩:=by
 cases s with
 |mk d=>simp[ByteArray.size]at h;rw[h]
theorem zf(s:ByteArray)(h:0<s.size):s.data.toList.isEmpty=false:=by
 cases hl:s.data.toList with
 |nil=>rw[rE,hl]at h;exact absurd h (by decide)
 |cons=>rfl
theorem Tf(s:ByteArray)(h:0<s.size):Sc.part (Sc.fw s)=Sc.blk (s.get! 0).toNat:=by
 have:=Sc.drop_cons s 0 h;rw[lQ]at this;rw[this];rfl
theorem uM(s:ByteArray)(w:World)(hs:s.size<=maxLen):
 Calls prog 122 #[.string s] w λe w'=>e=.returned (.bool (Sc.part (Sc.fw s)))/\w=w':=by
 unfold maxLen at hs;by_cases h:s.size=0
 ·obtain rfl:=wM s h
  go_enter func122,ntmps122
  go_wp2_with fail
  go_ret;exact⟨rfl,rfl⟩
 have h0:0<s.size:=by omega
 have hP:=Tf s h0;have hB:=Dx (s.get! 0).toNat w;rw[<-hP]at hB;rw[<-Sc.lL s 0 h0]at hB;have HB:=eZ hB;have hne:s≠⟨#[]⟩:=λe=>by rw[e]at h;exact h rfl
 have hb:s.toList.isEmpty=false:=by rw[Na];exact zf s h0
 clear hP hB hne
 go_enter func122,ntmps122
 go_wp2_with fail
 refine HB.out.mono ?_;rintro e w1 ⟨rfl,rfl⟩;go_wp2;go_ret;exact⟨rfl,rfl⟩
end
section
open Go.RowKit
theorem AV(n:Int)(w:World):(convert 21 9 (.int .i32 n)).run prog w=.ok (.string (Utf8.encode n)) w:=by
 simp[convert,run_underlying underlying21,run_underlying underlying9,Conv.intToString]
theorem IX(c:Int)(w:World)(h1:c<=2147483647):
 Calls prog 145 #[.int .i32 c] w λe w'=>e=.returned (.bool (Utf8.valid c))/\w=w':=by
 go_enter func145,ntmps145
 go_wp2;all_goals
  go_ret;refine⟨?_,rfl⟩;simp[Utf8.valid];omega
theorem AX(c:Int)(w:World)(h1:c<=2147483647)(h:Utf8.valid c=true):
 Calls prog 145 #[.int .i32 c] w λe w'=>e=.returned (.bool true)/\w=w':=by
 have:=IX c w h1;rw[h]at this;exact this
end
section
open Go.RowKit
open Sg
theorem V6(c:Nat)(h:128<=c):Sc.blk c=false:=by simp[Sc.blk];omega
theorem N5(c:Nat)(h:128<=c):Sc.Dj c=false:=by
 rw[KG];intro hh;simp[Sc.Dj]at hh;omega
theorem V7(c:Nat)(h:128<=c):Sc.xX c=false:=by simp[Sc.xX];omega
theorem V8(c:Nat)(h:128<=c):Sc.Ig c=false:=by simp[Sc.Ig,N5 c h];omega
theorem qU(r:ByteArray)(w:World)(hr:r.size<=maxLen):
 Calls prog 81 #[.string r,.func (.func 82) #[] #[]] w λe w'=>e=.returned (.int .i64 (Sc.run Sc.blk (Sc.fw r)))/\Below w.heap.size w w':=by
 unfold maxLen at hr;have HR:=eZ (λk h1 h2=>Sc.run_end Sc.blk (Sc.fw r) k h1 h2)
 go_enter func81,ntmps81
 go_wp2
 go_loopg [] r.size (λgf wr=>∃(pos:Nat),wr.heap[w.heap.size]?=some (.stringIter r pos)/\Below w.heap.size w wr/\Hid (∀j,j<pos->Sc.blk ((Sc.fw r).getD j 0)=true)/\pos<=r.size/\r.size<=pos+gf)
 case atStart=>exact⟨0,xM w r 0,(fI _ w).alloc (fB _) _,eZ (λj h=>absurd h (qJ j)),ic _,by omega⟩
 case round=>
  obtain⟨pos,hit,hb,hall,hle,hf⟩:=hrel;by_cases hlt2:pos<r.size
  ·obtain⟨g',rfl⟩:∃g',gk=g'+1:=⟨gk-1,by omega⟩
   have hgd:=Sc.jo r pos;have hge:=Sc.lL r pos hlt2;cases hc:Sc.blk (r[pos]'hlt2).toNat with
   |true=>
    have ha:(r[pos]'hlt2).toNat<128:=by
     rcases kS (r[pos]'hlt2).toNat 128 with h|h
     ·exact h
     rw[V6 _ h]at hc;cases hc
    have hnx:∀ty,(Instr.next (.pointer (some ⟨w.heap.size,0,none⟩)) true ty).run prog wr=_:=λty=>BG wr w.heap.size r pos ty hit hlt2 ha
    have hit2:=vI wr w.heap.size r pos (pos+1) hit;have hb2:=qK hb (k:=w.heap.size) (fB _) r (pos+1);generalize wr.iterAt w.heap.size r (pos+1)=W at*;have hcall:=Dx (r[pos]'hlt2).toNat W;rw[hc]at hcall;have aa:∀j,j<pos+1->Sc.blk ((Sc.fw r).getD j 0)=true:=by
     intro j hj;rcases RG (RD hj)with h|h
     ·exact hall.out j h
     subst h;rw[hgd,<-hge];exact hc
    obtain⟨HC,HA⟩:=fT hcall aa;clear hall aa hcall hc hgd hge hit hb;go_wp2_with fail
    refine HC.out.mono ?_;rintro e w1 ⟨rfl,rfl⟩;go_wp2
    go_roundg g'
    case measure=>omega
    case rel=>exact⟨pos+1,hit2,hb2,HA,by omega,by omega⟩
   |false=>
    have hnx:∀ty,(Instr.next (.pointer (some ⟨w.heap.size,0,none⟩)) true ty).run prog wr=_:=λty=>BF wr w.heap.size r pos ty hit hlt2
    have hb2:=qK hb (k:=w.heap.size) (fB _) r (pos+(Utf8.decode r pos).2);generalize (Utf8.decode r pos).1=R at*;generalize wr.iterAt w.heap.size r (pos+(Utf8.decode r pos).2)=W at*;have hcall:=Dx (r[pos]'hlt2).toNat W;rw[hc]at hcall;have hres:=HR.out pos hall.out (.inr ⟨by rw[Sc.gJ];exact hlt2,by rw[hgd,<-hge];exact hc⟩);obtain⟨HC,HS⟩:=fT hcall hres;clear hall hcall hc hgd hge hit hb hres HR;go_wp2_with fail
    refine HC.out.mono ?_;rintro e w1 ⟨rfl,rfl⟩;go_wp2;go_ret;exact⟨by rw[HS.out];rfl,hb2⟩
  have hnx:∀ty,(Instr.next (.pointer (some ⟨w.heap.size,0,none⟩)) true ty).run prog wr=_:=λty=>xN wr w.heap.size r pos ty hit hlt2
  obtain rfl:pos=r.size:=by omega
  have hres:=HR.out r.size hall.out (.inl (Sc.gJ r).symm);have HS:=eZ hres;clear hall hit hres HR;go_wp2;go_ret;exact⟨by rw[HS.out];rfl,hb⟩
theorem Tg(r:ByteArray)(w:World)(hr:r.size<=maxLen):
 Calls prog 81 #[.string r,.func (.func 125) #[] #[]] w λe w'=>e=.returned (.int .i64 (Sc.run Sc.Dj (Sc.fw r)))/\Below w.heap.size w w':=by
 unfold maxLen at hr;have HR:=eZ (λk h1 h2=>Sc.run_end Sc.Dj (Sc.fw r) k h1 h2)
 go_enter func81,ntmps81
 go_wp2
 go_loopg [] r.size (λgf wr=>∃(pos:Nat),wr.heap[w.heap.size]?=some (.stringIter r pos)/\Below w.heap.size w wr/\Hid (∀j,j<pos->Sc.Dj ((Sc.fw r).getD j 0)=true)/\pos<=r.size/\r.size<=pos+gf)
 case atStart=>exact⟨0,xM w r 0,(fI _ w).alloc (fB _) _,eZ (λj h=>absurd h (qJ j)),ic _,by omega⟩
 case round=>
  obtain⟨pos,hit,hb,hall,hle,hf⟩:=hrel;by_cases hlt2:pos<r.size
  ·obtain⟨g',rfl⟩:∃g',gk=g'+1:=⟨gk-1,by omega⟩
   have hgd:=Sc.jo r pos;have hge:=Sc.lL r pos hlt2;cases hc:Sc.Dj (r[pos]'hlt2).toNat with
   |true=>
    have ha:(r[pos]'hlt2).toNat<128:=by
     rcases kS (r[pos]'hlt2).toNat 128 with h|h
     ·exact h
     rw[N5 _ h]at hc;cases hc
    have hnx:∀ty,(Instr.next (.pointer (some ⟨w.heap.size,0,none⟩)) true ty).run prog wr=_:=λty=>BG wr w.heap.size r pos ty hit hlt2 ha
    have hit2:=vI wr w.heap.size r pos (pos+1) hit;have hb2:=qK hb (k:=w.heap.size) (fB _) r (pos+1);generalize wr.iterAt w.heap.size r (pos+1)=W at*;have hcall:=Nn (r[pos]'hlt2).toNat W;rw[hc]at hcall;have aa:∀j,j<pos+1->Sc.Dj ((Sc.fw r).getD j 0)=true:=by
     intro j hj;rcases RG (RD hj)with h|h
     ·exact hall.out j h
     subst h;rw[hgd,<-hge];exact hc
    obtain⟨HC,HA⟩:=fT hcall aa;clear hall aa hcall hc hgd hge hit hb;go_wp2_with fail
    refine HC.out.mono ?_;rintro e w1 ⟨rfl,rfl⟩;go_wp2
    go_roundg g'
    case measure=>omega
    case rel=>exact⟨pos+1,hit2,hb2,HA,by omega,by omega⟩
   |false=>
    have hnx:∀ty,(Instr.next (.pointer (some ⟨w.heap.size,0,none⟩)) true ty).run prog wr=_:=λty=>BF wr w.heap.size r pos ty hit hlt2
    have hb2:=qK hb (k:=w.heap.size) (fB _) r (pos+(Utf8.decode r pos).2);generalize (Utf8.decode r pos).1=R at*;generalize wr.iterAt w.heap.size r (pos+(Utf8.decode r pos).2)=W at*;have hcall:=Nn (r[pos]'hlt2).toNat W;rw[hc]at hcall;have hres:=HR.out pos hall.out (.inr ⟨by rw[Sc.gJ];exact hlt2,by rw[hgd,<-hge];exact hc⟩);obtain⟨HC,HS⟩:=fT hcall hres;clear hall hcall hc hgd hge hit hb hres HR;go_wp2_with fail
    refine HC.out.mono ?_;rintro e w1 ⟨rfl,rfl⟩;go_wp2;go_ret;exact⟨by rw[HS.out];rfl,hb2⟩
  have hnx:∀ty,(Instr.next (.pointer (some ⟨w.heap.size,0,none⟩)) true ty).run prog wr=_:=λty=>xN wr w.heap.size r pos ty hit hlt2
  obtain rfl:pos=r.size:=by omega
  have hres:=HR.out r.size hall.out (.inl (Sc.gJ r).symm);have HS:=eZ hres;clear hall hit hres HR;go_wp2;go_ret;exact⟨by rw[HS.out];rfl,hb⟩
theorem FB(r:ByteArray)(w:World)(hr:r.size<=maxLen):
 Calls prog 81 #[.string r,.func (.func 83) #[] #[]] w λe w'=>e=.returned (.int .i64 (Sc.run Sc.xX (Sc.fw r)))/\Below w.heap.size w w':=by
 unfold maxLen at hr;have HR:=eZ (λk h1 h2=>Sc.run_end Sc.xX (Sc.fw r) k h1 h2)
 go_enter func81,ntmps81
 go_wp2
 go_loopg [] r.size (λgf wr=>∃(pos:Nat),wr.heap[w.heap.size]?=some (.stringIter r pos)/\Below w.heap.size w wr/\Hid (∀j,j<pos->Sc.xX ((Sc.fw r).getD j 0)=true)/\pos<=r.size/\r.size<=pos+gf)
 case atStart=>exact⟨0,xM w r 0,(fI _ w).alloc (fB _) _,eZ (λj h=>absurd h (qJ j)),ic _,by omega⟩
 case round=>
  obtain⟨pos,hit,hb,hall,hle,hf⟩:=hrel;by_cases hlt2:pos<r.size
  ·obtain⟨g',rfl⟩:∃g',gk=g'+1:=⟨gk-1,by omega⟩
   have hgd:=Sc.jo r pos;have hge:=Sc.lL r pos hlt2;cases hc:Sc.xX (r[pos]'hlt2).toNat with
   |true=>
    have ha:(r[pos]'hlt2).toNat<128:=by
     rcases kS (r[pos]'hlt2).toNat 128 with h|h
     ·exact h
     rw[V7 _ h]at hc;cases hc
    have hnx:∀ty,(Instr.next (.pointer (some ⟨w.heap.size,0,none⟩)) true ty).run prog wr=_:=λty=>BG wr w.heap.size r pos ty hit hlt2 ha
    have hit2:=vI wr w.heap.size r pos (pos+1) hit;have hb2:=qK hb (k:=w.heap.size) (fB _) r (pos+1);generalize wr.iterAt w.heap.size r (pos+1)=W at*;have hcall:=NY (r[pos]'hlt2).toNat W;rw[hc]at hcall;have aa:∀j,j<pos+1->Sc.xX ((Sc.fw r).getD j 0)=true:=by
     intro j hj;rcases RG (RD hj)with h|h
     ·exact hall.out j h
     subst h;rw[hgd,<-hge];exact hc
    obtain⟨HC,HA⟩:=fT hcall aa;clear hall aa hcall hc hgd hge hit hb;go_wp2_with fail
    refine HC.out.mono ?_;rintro e w1 ⟨rfl,rfl⟩;go_wp2
    go_roundg g'
    case measure=>omega
    case rel=>exact⟨pos+1,hit2,hb2,HA,by omega,by omega⟩
   |false=>
    have hnx:∀ty,(Instr.next (.pointer (some ⟨w.heap.size,0,none⟩)) true ty).run prog wr=_:=λty=>BF wr w.heap.size r pos ty hit hlt2
    have hb2:=qK hb (k:=w.heap.size) (fB _) r (pos+(Utf8.decode r pos).2);generalize (Utf8.decode r pos).1=R at*;generalize wr.iterAt w.heap.size r (pos+(Utf8.decode r pos).2)=W at*;have hcall:=NY (r[pos]'hlt2).toNat W;rw[hc]at hcall;have hres:=HR.out pos hall.out (.inr ⟨by rw[Sc.gJ];exact hlt2,by rw[hgd,<-hge];exact hc⟩);obtain⟨HC,HS⟩:=fT hcall hres;clear hall hcall hc hgd hge hit hb hres HR;go_wp2_with fail
    refine HC.out.mono ?_;rintro e w1 ⟨rfl,rfl⟩;go_wp2;go_ret;exact⟨by rw[HS.out];rfl,hb2⟩
  have hnx:∀ty,(Instr.next (.pointer (some ⟨w.heap.size,0,none⟩)) true ty).run prog wr=_:=λty=>xN wr w.heap.size r pos ty hit hlt2
  obtain rfl:pos=r.size:=by omega
  have hres:=HR.out r.size hall.out (.inl (Sc.gJ r).symm);have HS:=eZ hres;clear hall hit hres HR;go_wp2;go_ret;exact⟨by rw[HS.out];rfl,hb⟩
theorem Pj(r:ByteArray)(w:World)(hr:r.size<=maxLen):
 Calls prog 81 #[.string r,.func (.func 124) #[] #[]] w λe w'=>e=.returned (.int .i64 (Sc.run Sc.Ig (Sc.fw r)))/\Below w.heap.size w w':=by
 unfold maxLen at hr;have HR:=eZ (λk h1 h2=>Sc.run_end Sc.Ig (Sc.fw r) k h1 h2)
 go_enter func81,ntmps81
 go_wp2
 go_loopg [] r.size (λgf wr=>∃(pos:Nat),wr.heap[w.heap.size]?=some (.stringIter r pos)/\Below w.heap.size w wr/\Hid (∀j,j<pos->Sc.Ig ((Sc.fw r).getD j 0)=true)/\pos<=r.size/\r.size<=pos+gf)
 case atStart=>exact⟨0,xM w r 0,(fI _ w).alloc (fB _) _,eZ (λj h=>absurd h (qJ j)),ic _,by omega⟩
 case round=>
  obtain⟨pos,hit,hb,hall,hle,hf⟩:=hrel;by_cases hlt2:pos<r.size
  ·obtain⟨g',rfl⟩:∃g',gk=g'+1:=⟨gk-1,by omega⟩
   have hgd:=Sc.jo r pos;have hge:=Sc.lL r pos hlt2;cases hc:Sc.Ig (r[pos]'hlt2).toNat with
   |true=>
    have ha:(r[pos]'hlt2).toNat<128:=by
     rcases kS (r[pos]'hlt2).toNat 128 with h|h
     ·exact h
     rw[V8 _ h]at hc;cases hc
    have hnx:∀ty,(Instr.next (.pointer (some ⟨w.heap.size,0,none⟩)) true ty).run prog wr=_:=λty=>BG wr w.heap.size r pos ty hit hlt2 ha
    have hit2:=vI wr w.heap.size r pos (pos+1) hit;have hb2:=qK hb (k:=w.heap.size) (fB _) r (pos+1);generalize wr.iterAt w.heap.size r (pos+1)=W at*;have hcall:=NZ (r[pos]'hlt2).toNat W;rw[hc]at hcall;have aa:∀j,j<pos+1->Sc.Ig ((Sc.fw r).getD j 0)=true:=by
     intro j hj;rcases RG (RD hj)with h|h
     ·exact hall.out j h
     subst h;rw[hgd,<-hge];exact hc
    obtain⟨HC,HA⟩:=fT hcall aa;clear hall aa hcall hc hgd hge hit hb;go_wp2_with fail
    refine HC.out.mono ?_;rintro e w1 ⟨rfl,rfl⟩;go_wp2
    go_roundg g'
    case measure=>omega
    case rel=>exact⟨pos+1,hit2,hb2,HA,by omega,by omega⟩
   |false=>
    have hnx:∀ty,(Instr.next (.pointer (some ⟨w.heap.size,0,none⟩)) true ty).run prog wr=_:=λty=>BF wr w.heap.size r pos ty hit hlt2
    have hb2:=qK hb (k:=w.heap.size) (fB _) r (pos+(Utf8.decode r pos).2);generalize (Utf8.decode r pos).1=R at*;generalize wr.iterAt w.heap.size r (pos+(Utf8.decode r pos).2)=W at*;have hcall:=NZ (r[pos]'hlt2).toNat W;rw[hc]at hcall;have hres:=HR.out pos hall.out (.inr ⟨by rw[Sc.gJ];exact hlt2,by rw[hgd,<-hge];exact hc⟩);obtain⟨HC,HS⟩:=fT hcall hres;clear hall hcall hc hgd hge hit hb hres HR;go_wp2_with fail
    refine HC.out.mono ?_;rintro e w1 ⟨rfl,rfl⟩;go_wp2;go_ret;exact⟨by rw[HS.out];rfl,hb2⟩
  have hnx:∀ty,(Instr.next (.pointer (some ⟨w.heap.size,0,none⟩)) true ty).run prog wr=_:=λty=>xN wr w.heap.size r pos ty hit hlt2
  obtain rfl:pos=r.size:=by omega
  have hres:=HR.out r.size hall.out (.inl (Sc.gJ r).symm);have HS:=eZ hres;clear hall hit hres HR;go_wp2;go_ret;exact⟨by rw[HS.out];rfl,hb⟩
end
section
open Go.RowKit
open Sg
open Sq
theorem Pk(w:World)(l:List UInt8)(C:Array Value)(n:Nat)(fr:Nat×Nat)(hn:l.length=n)(hl:n<=1000)(hC:C=(l.map fun(x:UInt8)=>Value.int .u8 (x.toNat:Int)).toArray):xF (w.alloc (.cells C 5 fr)) (.slice (some ⟨w.heap.size,0,none⟩) n n) ⟨l.toArray⟩:=by
 subst hC;refine .inr ⟨w.heap.size,0,n,by rw[size_at,hn],by rw[size_at,hn];exact fB _,by simp only[maxLen];omega,λj hj=>?_⟩;rw[size_at]at hj;rw[vH,Sg.get_at,Vm,lS,kU,mR hj,yI,mR hj];rfl
end
section
open Go.ChangeShapes Go.WideShapes Go.ChangeAt Go.RowKit
theorem own:ownKnob prog.godebug=none:=by kernel_rfl
end
end Go.Proofs.YtmkkdjpebbdikaaGreatDoor

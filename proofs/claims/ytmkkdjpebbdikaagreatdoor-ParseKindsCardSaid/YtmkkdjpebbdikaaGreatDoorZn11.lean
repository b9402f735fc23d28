import Derived.Test.YtmkkdjpebbdikaaGreatDoorZn08
import Derived.Test.YtmkkdjpebbdikaaGreatDoorZn10
set_option linter.all false
set_option maxHeartbeats 16000000
set_option maxRecDepth 100000
namespace Go.Proofs.YtmkkdjpebbdikaaGreatDoor
open Go.RowKit Go.Proofs.Tryz
def qL:=@IntWalk.i64_in
def ji:=@Go.below_drewN
def Df:=@Below.heap_alloc
def Ic:=@one_setCell
def wD:=@free_of_one
def iF:=@cell_of_one
def BJ:=@wp_region_held_drew
def yM:=@wpAnyH_done
section
open Go.RowKit
open Sq
open Fl (raw kx cnt back)
theorem PK(rb:Nat)(v:Value)(l:List Tk)(p m:Nat)(w:World)(hc:w.cell? ⟨rb,0,none⟩=some v)(h:Reads iU w v l)(hp:p<=l.length)(hs:l.length<=100000)(hm0:0<m)(hmp:m<=p)(hm:∃z,m<=z/\z<=p/\cnt (raw l (z-1))=true):
 Calls prog 170 #[RP rb,.int .i64 p] w λe w'=>e=.returned (.int .i64 (back l p m:Nat))/\w=w':=by
 obtain⟨a,cap,rfl⟩:=h.shape;obtain⟨z,hz1,hz2,hz3⟩:=hm;have H:=eZ (λj x (hj:l[j]?=some x)=>iZ h j x hj);have HC:=eZ (λk=>UM k w)
 have HB:=eZ (λi (h1:z<=i)(h2:0<i)=>show back l i m=if cnt (raw l (i-1))=true then i else back l (i-1) m by
  obtain⟨i,rfl⟩:∃k,i=k+1:=⟨i-1,by omega⟩
  rw[back,jH];by_cases e:cnt (raw l i)=true
  ·rw[eX (λh=>by rw[e]at h;exact absurd h.2 (by decide)),eY e]
  rw[eX e];have hne:z≠i+1:=λh=>by rw[h,jH]at hz3;exact e hz3
  rw[eY ⟨by omega,by simpa using e⟩])
 obtain⟨T,hT⟩:=fq (back l p m);rw[hT];obtain⟨HT,HZ⟩:=fT hT hz3;obtain⟨N,hN⟩:=fq (l.length);have HN:=eZ hN;rw[hN]at hp hs hc;have hz0:0<z:=by omega
 clear h hN hT hz3 hmp
 go_enter func170,ntmps170
 go_wp2_with fail
 go_loopw [1] (λiv wr=>∃k:Nat,iv=.int .i64 k/\k<=N/\z<=k/\Hid (back l k m=T)/\w=wr) (λiv _=>(intOf iv).toNat)
 case atStart=>exact⟨p,rfl,hp,hz2,HT,rfl⟩
 case round=>
  obtain⟨k,rfl,hk,ae,aa,rfl⟩:=hrel;have hst:=HB.out k ae (by omega);obtain⟨i,rfl⟩:∃i,k=i+1:=⟨k-1,by omega⟩
  rw[jH]at hst;obtain⟨x,hx⟩:=jB l i (by rw[HN.out];omega);obtain⟨b,off,rfl,c0,-,-⟩:=H.out i x hx;have hr:=Fl.rM hx;obtain⟨K,hK⟩:=fq (x.1);rw[hK]at c0 hr;rw[hr]at hst;have hcl:=HC.out K
  have HZ2:=eZ (fun(e:cnt K=false)=>show z<=i by
   have h1:=HZ.out;by_cases h2:z=i+1
   ·rw[h2,jH,hr,e]at h1;cases h1
   omega)
  have gw:IntKind.i64.wrap (((i+1:Nat):Int)-1)=(i:Int):=by
   rw[show((i+1:Nat):Int)-1=(i:Int)by omega];exact qL _ (by omega)
  have gi:(i:Int)<(N:Int):=by omega
  cases q:cnt K with
  |true=>
   rw[q]at hst hcl;rw[eY rfl]at hst;obtain rfl:T=i+1:=by rw[<-aa.out];exact hst
   have af:=eZ hcl;clear hcl hst hx hK hr HZ2 H HC HB aa HT HN HZ q hm0 ae hz1 hz2 hz0 gw;go_wp2_with fail
   refine af.out.mono ?_;rintro e w1 ⟨rfl,rfl⟩;go_wp2_with fail
   go_ret;exact⟨rfl,rfl⟩
  |false=>
   rw[q]at hst hcl;rw[eX (by decide)]at hst;have ag:=eZ (show back l i m=T by rw[<-aa.out];exact hst.symm);have hzi:=HZ2.out q;have af:=eZ hcl;clear hcl hst hx hK hr HZ2 H HC HB aa HT HN HZ q hm0 ae hz1 hz2 gw;go_wp2_with fail
   refine af.out.mono ?_;rintro e w1 ⟨rfl,rfl⟩;go_wp2_with fail
   go_roundw
   case rel=>exact⟨i,by go_num,by omega,hzi,ag,trivial⟩
   case measure=>simp[intOf]
end
section
open Go.RowKit
open Sg
open Sq
def Oh(x:Rw.R):List Value:=[.int .i64 x.kind,.int .i64 x.from',.int .i64 x.bu,.int .i64 x.fG]
def encR:mr Rw.R:=⟨Oh,4,by decide,λ_=>rfl,λx u hu=>by
 cases hu with
 |head=>rfl
 |tail _ hu=>cases hu with
  |head=>rfl
  |tail _ hu=>cases hu with
   |head=>rfl
   |tail _ hu=>cases hu with
    |head=>rfl
    |tail _ hu=>cases hu⟩
abbrev KT(x:Rw.R):Value:=.agg #[.int .i64 x.kind,.int .i64 x.from',.int .i64 x.bu,.int .i64 x.fG]
theorem Ze:Ty prog encR 53 61 32:=Ty.of (z:=.agg #[.int .i64 0,.int .i64 0,.int .i64 0,.int .i64 0]) underlying53 (by kernel_rfl) (by kernel_rfl) rfl (λw=>by kernel_rfl)
def Oi(x:Rw.E):List Value:=[.bool x.dash,.int .i64 x.fG,.int .i64 x.from',.int .i64 x.bu]
def qc:mr Rw.E:=⟨Oi,4,by decide,λ_=>rfl,λx u hu=>by
 cases hu with
 |head=>rfl
 |tail _ hu=>cases hu with
  |head=>rfl
  |tail _ hu=>cases hu with
   |head=>rfl
   |tail _ hu=>cases hu with
    |head=>rfl
    |tail _ hu=>cases hu⟩
theorem YC:Ty prog qc 93 97 32:=Ty.of (z:=.agg #[.bool false,.int .i64 0,.int .i64 0,.int .i64 0]) underlying93 (by kernel_rfl) (by kernel_rfl) rfl (λw=>by kernel_rfl)
theorem Ah{w:World}{a:Option Addr}{cap:Nat}{l:List Rw.R}(h:Reads encR w (.slice a l.length cap) l)(j:Nat)(x:Rw.R)(hj:l[j]?=some x):
 ∃b off,a=some ⟨b,off,none⟩/\w.cell? ⟨b,off+j*4,none⟩=some (.int .i64 x.kind)/\w.cell? ⟨b,off+j*4+1,none⟩=some (.int .i64 x.from')/\w.cell? ⟨b,off+j*4+2,none⟩=some (.int .i64 x.bu)/\w.cell? ⟨b,off+j*4+3,none⟩=some (.int .i64 x.fG):=by
 obtain⟨b,off,h1,h2⟩:=h.at_ j x hj;exact⟨b,off,h1,h2 0 _ rfl,h2 1 _ rfl,h2 2 _ rfl,h2 3 _ rfl⟩
theorem Tq{w:World}{a:Option Addr}{cap:Nat}{l:List Rw.E}(h:Reads qc w (.slice a l.length cap) l)(j:Nat)(x:Rw.E)(hj:l[j]?=some x):
 ∃b off,a=some ⟨b,off,none⟩/\w.cell? ⟨b,off+j*4,none⟩=some (.bool x.dash)/\w.cell? ⟨b,off+j*4+1,none⟩=some (.int .i64 x.fG)/\w.cell? ⟨b,off+j*4+2,none⟩=some (.int .i64 x.from')/\w.cell? ⟨b,off+j*4+3,none⟩=some (.int .i64 x.bu):=by
 obtain⟨b,off,h1,h2⟩:=h.at_ j x hj;exact⟨b,off,h1,h2 0 _ rfl,h2 1 _ rfl,h2 2 _ rfl,h2 3 _ rfl⟩
def Io(L:List Rw.R)(w:World)(e:Ending)(w':World):Prop:=
 ∃u,e=.returned u/\w'.ownsRow w.heap.size 61 4 u L.length (encR.all L)/\Below w.heap.size w w'
def Ip(t:TypeId)(L:List Rw.E)(n:Nat)(w:World)(e:Ending)(w':World):Prop:=
 ∃u,e=.returned (.tuple #[u,.int .i64 n])/\w'.ownsRow w.heap.size t 4 u L.length (qc.all L)/\Below w.heap.size w w'
end
section
open Go.RowKit
open Sg
open Sq
theorem Tt(k:Nat)(w:World):
 Calls prog 59 #[.int .i64 k] w λe w'=>e=.returned (.bool (Sc.counts k))/\w=w':=by
 go_enter func59,ntmps59
 go_wp2;all_goals
  go_ret;refine⟨?_,rfl⟩;refine congrArg (λb=>Ending.returned (.bool b)) ?_;rw[nP];simp[Sc.counts]at*;try omega
theorem Tu(k:Nat)(w:World):
 Calls prog 58 #[.int .i64 k] w λe w'=>e=.returned (.bool (Rw.vL k))/\w=w':=by
 go_enter func58,ntmps58
 go_wp2;all_goals
  go_ret;refine⟨?_,rfl⟩;refine congrArg (λb=>Ending.returned (.bool b)) ?_;rw[nP];simp[Rw.vL]at*;try omega
theorem Iq(v:Value)(ts:List Tk)(w:World)(h:Reads iU w v ts)(hs:ts.length<=1000000):
 Calls prog 37 #[v] w λe w'=>e=.returned (.int .i64 (Rw.gZ ts))/\Below w.heap.size w w':=by
 obtain⟨a,cap,rfl⟩:=h.shape;obtain⟨H,HL⟩:=fT h (Rw.Ti ts);obtain⟨R,hR⟩:=fq (Rw.gZ ts);rw[hR]at HL⊢;obtain⟨N,hN⟩:=fq (ts.length);have HN:=eZ hN;rw[hN]at hs;rw[hN];clear h hN hR
 go_enter func37,ntmps37
 go_wp2_with fail
 go_loopw [7] (λiv wr=>∃k:Nat,iv=.int .i64 k/\k<=N/\Hid (∀j x,j<k->ts[j]?=some x->Sc.counts x.1=false)/\Below w.heap.size w wr) (λiv _=>N-(intOf iv).toNat)
 case atStart=>exact⟨0,rfl,ic _,eZ (λj x h=>absurd h (qJ j)),fI _ w⟩
 case round=>
  obtain⟨k,rfl,hk,HA,hb⟩:=hrel;by_cases hlt:k<N
  ·obtain⟨x,hx⟩:=jB ts k (by rw[HN.out];exact hlt);obtain⟨b,off,rfl,c0,c1,c2⟩:=iZ (H.out.below hb) k x hx;have hi:(k:Int)<(N:Int):=by omega
   have HB:=eZ hb;have hc:=λW=>Tt x.1 W
   cases hq:Sc.counts x.1 with
   |true=>
    rw[hq]at hc;have hres:=HL.out k HA.out (.inr ⟨x,hx,hq⟩);subst hres;have HC:=eZ hc;clear hc hq HA hx HL hb H HN;go_wp2_with fail
    refine(HC.out _).mono ?_;rintro e w2 ⟨rfl,rfl⟩;go_wp2_with fail
    go_ret;exact⟨rfl,fD HB.out (fo _ _)⟩
   |false=>
    rw[hq]at hc
    have HA2:=eZ (λj y (hj:j<k+1)(hy:ts[j]?=some y)=>show Sc.counts y.1=false by
     rcases XG.1 hj with h|h
     ·exact HA.out j y h hy
     subst h;rw[hx]at hy;injection hy with hy;subst hy;exact hq)
    have HC:=eZ hc;clear hc hq HA hx HL hb H HN;go_wp2_with fail
    refine(HC.out _).mono ?_;rintro e w2 ⟨rfl,rfl⟩;go_wp2_with fail
    go_roundw
    case rel=>exact⟨k+1,by go_num,by omega,HA2,fD HB.out (fo _ _)⟩
    case measure=>simp[intOf];omega
  obtain rfl:k=N:=by omega
  have hne:¬((k:Int)<(k:Int)):=by omega
  have hres:=HL.out k HA.out (.inl HN.out.symm);subst hres;have HB:=eZ hb;clear HA HL hb H HN hlt;go_wp2_with fail
  go_ret;exact⟨rfl,HB.out⟩
end
namespace Rw
theorem Bb(ts:List Tk):(gZ ts=ts.length/\jV ts=none)\/∃x,ts[gZ ts]?=some x/\jV ts=some x:=by
 induction ts with
 |nil=>exact .inl ⟨rfl,rfl⟩
 |cons y r ih=>
  by_cases hc:Sc.counts y.1=true
  ·right;refine⟨y,?_,?_⟩
   ·rw[gZ,eY hc];rfl
   rw[jV,eY hc]
  rcases ih with⟨h1,h2⟩|⟨x,h1,h2⟩
  ·left;refine⟨?_,?_⟩
   ·rw[gZ,eX hc,h1];rfl
   rw[jV,eX hc,h2]
  right;refine⟨x,?_,?_⟩
  ·rw[gZ,eX hc,KJ];exact h1
  rw[jV,eX hc,h2]
theorem LK(ts:List Tk)(x:Tk)(h:ts[0]?=some x):yE ts=x.2.1:=by
 cases ts with
 |nil=>simp at h
 |cons y r=>
  obtain rfl:y=x:=by simpa using h
  rfl
theorem Cy(ts:List Tk)(x:Tk)(h:ts[0]?=some x):jO ts=x.1:=by
 cases ts with
 |nil=>simp at h
 |cons y r=>
  obtain rfl:y=x:=by simpa using h
  rfl
theorem pQ(ts:List Tk)(i:Nat)(x:Tk)(h:ts[i]?=some x):jO (ts.drop i)=x.1:=by
 refine Cy _ x ?_;rw[sJ];exact h
def uE(ts:List Tk)(a:Nat):Int:=if a=ts.length then -1 else(tN ts a:Int)-(yE ts:Int)
theorem LM(ts:List Tk):uE ts (gZ ts)=sH ts:=by
 unfold uE sH;rcases Bb ts with⟨h1,h2⟩|⟨x,h1,h2⟩
 ·rw[eY h1,h2]
 have:=(gD.1 h1).1;rw[eX (by omega),h2,sj _ _ _ h1]
end Rw
section
open Go.RowKit
open Sg
open Sq
theorem LP(v:Value)(ts:List Tk)(w:World)(h:Reads iU w v ts)(hs:ts.length<=1000000):
 Calls prog 34 #[v] w λe w'=>∃u,e=.returned u/\Reads iU w u (ts.take (Rw.jy ts))/\Below w.heap.size w w':=by
 obtain⟨a,cap,rfl⟩:=h.shape;obtain⟨H,HL⟩:=fT h (Rw.Sy ts);have h0:ts=[]->Rw.jy ts=0:=λe=>by rw[e];rfl
 have aa:=eZ h0;obtain⟨R,hR⟩:=fq (Rw.jy ts);rw[hR]at HL aa⊢;have HC:=eZ (λn (hn:n<=ts.length)=>UK (P:=prog) Q9 h hn);obtain⟨N,hN⟩:=fq (ts.length);rw[hN]at HC;have HN:=eZ hN;have hcp:=h.vM;rw[hN]at hcp hs;unfold maxLen at hcp;have HR:=eZ (show Reads iU w (.slice a N cap) ts by rw[<-hN];exact h);rw[hN];clear h hN hR h0
 go_enter func34,ntmps34
 go_wp2_with fail
 go_loopw [7] (λiv wr=>∃k:Nat,iv=.int .i64 k/\k<=N/\Hid (∀j x,j<k->ts[j]?=some x->Rw.ends x=false)/\Below w.heap.size w wr) (λiv _=>N-(intOf iv).toNat)
 case atStart=>exact⟨0,rfl,ic _,eZ (λj x h=>absurd h (qJ j)),fI _ w⟩
 case round=>
  obtain⟨k,rfl,hk,HA,hb⟩:=hrel;by_cases hlt:k<N
  ·obtain⟨x,hx⟩:=jB ts k (by rw[HN.out];exact hlt);obtain⟨b,off,rfl,c0,c1,c2⟩:=iZ (H.out.below hb) k x hx;have hi:(k:Int)<(N:Int):=by omega
   have HB:=eZ hb;cases hq:Rw.ends x with
   |true=>
    have hres:=HL.out (k+1) (by omega) (λj y hj hy=>HA.out j y (by omega) hy) (.inr ⟨x,by simpa using hx,hq⟩);subst hres;obtain⟨u,hu,af⟩:=HC.out (k+1) (by omega);rw[show((k+1:Nat):Int)=(k:Int)+1 from by omega]at hu;have ae:=eZ af;have hk1:x.1=1\/x.1=19:=by simpa [Rw.ends]using hq
    rcases hk1 with q|q
    ·have g:((x.1:Int)==1)=true:=by simp;omega
     clear hq HA hx HL hb H HN HC aa HR af q hcp;go_wp2_with fail
     go_ret;exact⟨_,rfl,ae.out,fD HB.out (fo _ _)⟩
    have g:((x.1:Int)==1)=false:=by simp;omega
    have g2:((x.1:Int)==19)=true:=by simp;omega
    clear hq HA hx HL hb H HN HC aa HR af q hcp;go_wp2_with fail
    go_ret;exact⟨_,rfl,ae.out,fD HB.out (fo _ _)⟩
   |false=>
    have hk1:¬x.1=1/\¬x.1=19:=by simpa [Rw.ends]using hq
    have HA2:=eZ (λj y (hj:j<k+1)(hy:ts[j]?=some y)=>show Rw.ends y=false by
     rcases XG.1 hj with h|h
     ·exact HA.out j y h hy
     subst h;rw[hx]at hy;injection hy with hy;subst hy;exact hq)
    have g:((x.1:Int)==1)=false:=by simp;omega
    have g2:((x.1:Int)==19)=false:=by simp;omega
    clear hq HA hx HL hb H HN HC aa HR hk1 hcp;go_wp2_with fail
    go_roundw
    case rel=>exact⟨k+1,by go_num,by omega,HA2,fD HB.out (fo _ _)⟩
    case measure=>simp[intOf];omega
  obtain rfl:k=N:=by omega
  have hne:¬((k:Int)<(k:Int)):=by omega
  have hres:R=k:=by
   rcases uB k with h|h
   ·rw[h];exact aa.out (oC (by rw[HN.out];exact h))
   exact HL.out k h (λj y hj hy=>HA.out j y (by omega) hy) (.inl HN.out.symm)
  subst hres;have ae:=eZ (show Reads iU w (.slice a R cap) (ts.take R)by rw[xK (by rw[HN.out];exact fB _)];exact HR.out);have HB:=eZ hb;clear HA HL hb H HN hlt HC aa HR hcp;go_wp2_with fail
  go_ret;exact⟨_,rfl,ae.out,HB.out⟩
theorem JX(v:Value)(ts:List Tk)(p:Nat)(w:World)(h:Reads iU w v ts)(hs:ts.length<=1000000)(hp:p<=ts.length)(hf:∀x∈ts,x.2.1<=1000000):
 Calls prog 36 #[v,.int .i64 p] w λe w'=>e=.returned (.int .i64 (Rw.uE ts p))/\Below w.heap.size w w':=by
 obtain⟨a,cap,rfl⟩:=h.shape;by_cases hpl:p=ts.length
 ·have hr:Rw.uE ts p=-1:=by unfold Rw.uE;rw[eY hpl]
  rw[hr,hpl];clear hr hpl hp hf h
  go_enter func36,ntmps36
  go_wp2_with fail
  go_ret;exact⟨rfl,fI _ _⟩
 obtain⟨x,hx⟩:=jB ts p (by omega);obtain⟨y,hy⟩:=jB ts 0 (by omega);obtain⟨b,off,rfl,c0,c1,c2⟩:=iZ h p x hx;obtain⟨b',off',he,d0,d1,d2⟩:=iZ h 0 y hy;injection he with he
 injection he with e1 e2
 subst e1 e2;have hr:Rw.uE ts p=(x.2.1:Int)-(y.2.1:Int):=by
  unfold Rw.uE;rw[eX hpl,Rw.sj _ _ _ hx,Rw.LK _ _ hy]
 rw[hr];have hx1:=hf x (iK hx);have hy1:=hf y (iK hy);obtain⟨N,hN⟩:=fq (ts.length);have g:((p:Int)==(N:Int))=false:=by simp;omega
 have hi:(p:Int)<(N:Int):=by omega
 have hi0:(0:Int)<(N:Int):=by omega
 simp only[KO,qI]at d0 d1 d2;rw[hN]at hs⊢;clear hr hN hpl hp hf h hx hy c0 c2 d0 d2
 go_enter func36,ntmps36
 go_wp2_with fail
 go_big_quiet (fail)
 have hb:=ji (fI w.heap.size w) nq;go_wp2_with fail
 go_ret;exact⟨rfl,hb⟩
theorem X5(v:Value)(ts:List Tk)(bg:Bool)(w:World)(h:Reads iU w v ts)(hs:ts.length<=1000000)(h0:ts≠[]):
 Calls prog 35 #[v,.bool bg] w λe w'=>e=.returned (.int .i64 (Rw.kindOf bg ts:Nat))/\Below w.heap.size w w':=by
 have hF:=Iq v ts w h hs;obtain⟨a,cap,rfl⟩:=h.shape;obtain⟨HF,H⟩:=fT hF h;have hpos:0<ts.length:=Ro.2 h0
 obtain⟨y,hy⟩:=jB ts 0 hpos;have hk0:=Rw.Cy ts y hy;obtain⟨K,hK⟩:=fq (Rw.kindOf bg ts);rw[hK];unfold Rw.kindOf at hK;rw[hk0]at hK;have hA:=Rw.Bb ts;obtain⟨A,ae⟩:=fq (Rw.gZ ts);rw[ae]at hA HF;obtain⟨N,hN⟩:=fq (ts.length);have HY:=eZ hy;have hi0:(0:Int)<(N:Int):=by omega
 have hAt:=eZ (λW (hb:Below w.heap.size w W) j x (hj:ts[j]?=some x)=>iZ (h.below hb) j x hj);rw[hN]at HF hA hs⊢;have aa:=eZ hN;clear h hF hN hy hk0 h0 hpos ae;rcases hA with⟨rfl,hf⟩|⟨x,hx,hf⟩
 ·rw[hf]at hK;dsimp only at hK;have hne:¬((A:Int)<(A:Int)):=by omega
  clear hf
  go_enter func35,ntmps35
  go_wp2_with fail
  refine HF.out.mono ?_;rintro e w2 ⟨rfl,hb⟩;obtain⟨b,off,rfl,c0,-,-⟩:=hAt.out w2 hb 0 y HY.out;simp only[KO,qI]at c0;have HB:=eZ hb;clear hb HF H HY hAt aa;by_cases q:y.1=19
  ·rw[eY q]at hK;subst hK;have g:((y.1:Int)==19)=true:=by simp;omega
   clear q;go_wp2_with fail
   go_ret;exact⟨rfl,HB.out⟩
  rw[eX q]at hK;have g:((y.1:Int)==19)=false:=by simp;omega
  clear q;cases bg with
  |true=>
   obtain rfl:K=3:=by simpa using hK.symm
   clear hK;go_wp2_with fail
   go_ret;exact⟨rfl,HB.out⟩
  |false=>
   obtain rfl:K=1:=by simpa using hK.symm
   clear hK;go_wp2_with fail
   go_ret;exact⟨rfl,HB.out⟩
 rw[hf]at hK;dsimp only at hK;have hlt:A<N:=by have:=(gD.1 hx).1;have:=aa.out;omega
 have hi:(A:Int)<(N:Int):=by omega
 have HX:=eZ hx;have hm:=λW=>Tu x.1 W
 have gN:((A:Int)==(N:Int))=false:=by simp;omega
 clear hf hx
 go_enter func35,ntmps35
 go_wp2_with fail
 refine HF.out.mono ?_;rintro e w2 ⟨rfl,hb⟩;obtain⟨b,off,rfl,c0,-,-⟩:=hAt.out w2 hb 0 y HY.out;obtain⟨b',off',he,d0,-,-⟩:=hAt.out w2 hb A x HX.out;injection he with he
 injection he with e1 e2
 subst e1 e2;simp only[KO,qI]at c0;have HB:=eZ hb;clear hb HF H HY hAt aa HX;by_cases q:y.1=19
 ·rw[eY q]at hK;subst hK;have g:((y.1:Int)==19)=true:=by simp;omega
  clear q hm d0;go_wp2_with fail
  go_ret;exact⟨rfl,HB.out⟩
 rw[eX q]at hK;have g:((y.1:Int)==19)=false:=by simp;omega
 clear q;cases hq:Rw.vL x.1 with
 |true=>
  rw[hq]at hm hK;obtain rfl:K=4:=by simpa using hK.symm
  have HM:=eZ hm;clear hK hm hq;go_wp2_with fail
  refine(HM.out _).mono ?_;rintro e w3 ⟨rfl,rfl⟩;go_wp2_with fail
  go_ret;exact⟨rfl,HB.out⟩
 |false=>
  rw[hq]at hm hK;have HM:=eZ hm;clear hm hq;cases bg with
  |true=>
   obtain rfl:K=3:=by simpa using hK.symm
   clear hK;go_wp2_with fail
   refine(HM.out _).mono ?_;rintro e w3 ⟨rfl,rfl⟩;go_wp2_with fail
   go_ret;exact⟨rfl,HB.out⟩
  |false=>
   obtain rfl:K=5:=by simpa using hK.symm
   clear hK;go_wp2_with fail
   refine(HM.out _).mono ?_;rintro e w3 ⟨rfl,rfl⟩;go_wp2_with fail
   go_ret;exact⟨rfl,HB.out⟩
end
namespace Rw
theorem drop_one(ts:List Tk)(k:Nat)(x:Tk)(h:ts[k]?=some x):ts.drop k=x::ts.drop (k+1):=by
 have hi:=(gD.1 h).1;have e:=(gD.1 h).2;rw[vZ hi,e]
theorem LQ(ts:List Tk)(k:Nat)(x:Tk)(h:ts[k]?=some x):blanks (ts.drop k)=if x.1=3 then blanks (ts.drop (k+1))+1 else 0:=by
 rw[drop_one ts k x h,blanks]
theorem Ja(ts:List Tk)(k:Nat)(h:ts.length<=k):blanks (ts.drop k)=0:=by
 rw[mI h];rfl
theorem j6(ts:List Tk)(k:Nat)(h:k<=ts.length):k+blanks (ts.drop k)<=ts.length:=by
 have:=Lb (ts.drop k);rw[iT]at this;omega
theorem PN(l:List Tk)(h:isProp (jO l)=true):nY l=(nY (l.drop (blanks (l.drop 1)+1))).map (·+(blanks (l.drop 1)+1)):=by
 have hp:=Lu l h;obtain⟨n,hn⟩:=fq (blanks (l.drop 1)+1);rw[hn]at hp⊢;unfold nY qy;rw[hp];obtain⟨m,hm⟩:=fq (mZ (l.drop n).length (l.drop n));rw[hm];have e1:l.drop (m+n)=(l.drop n).drop m:=by rw[mQ,Nat.add_comm]
 rw[e1];obtain⟨s,hs⟩:=fq (wE ((l.drop n).drop m));rw[hs];have e2:l.drop (m+n+s)=(l.drop n).drop (m+s):=by rw[mQ];congr 1;omega
 rw[e2];by_cases hk:jO ((l.drop n).drop (m+s))=6
 ·rw[eY hk,eY hk,yJ];congr 1;omega
 rw[eX hk,eX hk,Option.map_none]
theorem JY(l:List Tk)(h:isProp (jO l)=false):nY l=if jO (l.drop (wE l))=6 then some (wE l+1)else none:=by
 unfold nY qy;rw[Lx l h,lQ,kU]
def sK(ts:List Tk)(p:Nat):Int:=match nY (ts.drop p)with
 |some n=>((p+n:Nat):Int)
 |none=>-1
def EW(ts:List Tk)(q:Nat):Int:=if jO (ts.drop q)=6 then((q+1:Nat):Int)else -1
theorem ve(ts:List Tk)(p:Nat)(x:Tk)(hx:ts[p]?=some x)(h:isProp x.1=true):sK ts p=sK ts (p+1+blanks (ts.drop (p+1))):=by
 unfold sK;rw[PN (ts.drop p) (by rw[pQ ts p x hx];exact h),mQ,mQ];rw[show p+(blanks (ts.drop (p+1))+1)=p+1+blanks (ts.drop (p+1))from by omega];cases nY (ts.drop (p+1+blanks (ts.drop (p+1))))with
 |none=>rfl
 |some n=>show((p+(n+(blanks (ts.drop (p+1))+1)):Nat):Int)=_;congr 1;omega
theorem mK(ts:List Tk)(p:Nat)(x:Tk)(hx:ts[p]?=some x)(h:isProp x.1=false)(hs:ig x.1=true):sK ts p=EW ts (p+1+blanks (ts.drop (p+1))):=by
 have hk:=pQ ts p x hx;unfold sK EW;rw[JY (ts.drop p) (by rw[hk];exact h)];have e:wE (ts.drop p)=blanks (ts.drop (p+1))+1:=by unfold wE;rw[hk,eY hs,mQ]
 rw[e,mQ,show p+(blanks (ts.drop (p+1))+1)=p+1+blanks (ts.drop (p+1))from by omega];by_cases hc:jO (ts.drop (p+1+blanks (ts.drop (p+1))))=6
 ·rw[eY hc,eY hc];show((p+(blanks (ts.drop (p+1))+1+1):Nat):Int)=_;congr 1;omega
 rw[eX hc,eX hc]
theorem Bc(ts:List Tk)(p:Nat)(x:Tk)(hx:ts[p]?=some x)(h:isProp x.1=false)(hs:ig x.1=false):sK ts p=EW ts p:=by
 have hk:=pQ ts p x hx;unfold sK EW;rw[JY (ts.drop p) (by rw[hk];exact h)];have e:wE (ts.drop p)=0:=by unfold wE;rw[hk,eX (by rw[hs];decide)]
 rw[e,mQ,qI];by_cases hc:jO (ts.drop p)=6
 ·rw[eY hc,eY hc]
 rw[eX hc,eX hc]
theorem FQ(ts:List Tk)(p:Nat)(h:ts.length<=p):sK ts p=-1:=by
 unfold sK;rw[mI h];rfl
theorem oz(ts:List Tk)(p:Nat)(h:ts.length<=p):EW ts p=-1:=by
 unfold EW;rw[mI h];rfl
theorem oo(ts:List Tk)(p:Nat)(x:Tk)(hx:ts[p]?=some x):EW ts p=if x.1=6 then((p+1:Nat):Int)else -1:=by
 unfold EW;rw[pQ ts p x hx]
end Rw
section
open Go.RowKit
open Sg
open Sq
theorem UW(v:Value)(ts:List Tk)(p:Nat)(w:World)(h:Reads iU w v ts)(hs:ts.length<=1000000)(hp:p<=ts.length):
 Calls prog 99 #[v,.int .i64 p] w λe w'=>e=.returned (.int .i64 (p+Rw.blanks (ts.drop p):Nat))/\w=w':=by
 obtain⟨a,cap,rfl⟩:=h.shape;have H:=eZ (λj x (hj:ts[j]?=some x)=>iZ h j x hj);obtain⟨aa,ae⟩:=fT (Rw.LQ ts) (Rw.Ja ts);obtain⟨T,hT⟩:=fq (p+Rw.blanks (ts.drop p));rw[hT];have HT:=eZ hT;obtain⟨N,hN⟩:=fq (ts.length);have HN:=eZ hN;rw[hN]at hs hp;rw[hN];clear h hN hT
 go_enter func99,ntmps99
 go_wp2_with fail
 go_loopw [1] (λiv wr=>∃k:Nat,iv=.int .i64 k/\k<=N/\Hid (k+Rw.blanks (ts.drop k)=T)/\w=wr) (λiv _=>N-(intOf iv).toNat)
 case atStart=>exact⟨p,rfl,hp,HT,rfl⟩
 case round=>
  obtain⟨k,rfl,hk,HK,rfl⟩:=hrel;by_cases hlt:k<N
  ·obtain⟨x,hx⟩:=jB ts k (by rw[HN.out];exact hlt);obtain⟨b,off,rfl,c0,c1,c2⟩:=H.out k x hx;have hi:(k:Int)<(N:Int):=by omega
   have hb:=aa.out k x hx;obtain⟨K,hK⟩:=fq (x.1);rw[hK]at c0 hb;by_cases q:K=3
   ·rw[eY q]at hb;have af:=eZ (show k+1+Rw.blanks (ts.drop (k+1))=T by have:=HK.out;rw[hb]at this;omega);have g:((K:Int)==3)=true:=by simp;omega
    clear hb hx hK H aa ae HK HT HN q;go_wp2_with fail
    go_roundw
    case rel=>exact⟨k+1,by go_num,by omega,af,trivial⟩
    case measure=>simp[intOf];omega
   rw[eX q]at hb;obtain rfl:T=k:=by have:=HK.out;rw[hb]at this;omega
   have g:((K:Int)==3)=false:=by simp;omega
   clear hb hx hK H aa ae HK HT HN q;go_wp2_with fail
   go_ret;exact⟨rfl,rfl⟩
  obtain rfl:k=N:=by omega
  have hne:¬((k:Int)<(k:Int)):=by omega
  obtain rfl:T=k:=by have:=HK.out;rw[ae.out k (by rw[HN.out];exact fB _)]at this;omega
  clear aa ae HK HT HN H hlt;go_wp2_with fail
  go_ret;exact⟨rfl,rfl⟩
end
section
open Go.RowKit
open Sg
open Sq
structure EM(w:World)(Br Be Bs Bw Ba:Nat)(F:Nat)(ev:Value)(es:List Rw.E)(rest:Int)(rowv:Value)(p:Nat):Prop where
 r1:w.cell? ⟨Br,1,none⟩=some (.int .i64 F)
 e:w.heap[Be]?=some (.cells #[ev] 93 (0,0))
 s:w.heap[Bs]?=some (.cells #[.int .i64 rest] 3 (0,0))
 row:w.heap[Bw]?=some (.cells #[rowv] 28 (0,0))
 at':w.heap[Ba]?=some (.cells #[.int .i64 p] 3 (0,0))
 own:w.ownsRow (Ba+1) 97 4 ev es.length (qc.all es)
 ord:Br<Be/\Be<Bs/\Bs<Bw/\Bw<Ba
structure EV(w:World)(Br Be Bs Bw Ba:Nat)(F:Nat)(ev:Value)(rest:Int)(rowv:Value)(p:Nat):Prop where
 r1:w.cell? ⟨Br,1,none⟩=some (.int .i64 F)
 e:w.heap[Be]?=some (.cells #[ev] 93 (0,0))
 s:w.heap[Bs]?=some (.cells #[.int .i64 rest] 3 (0,0))
 row:w.heap[Bw]?=some (.cells #[rowv] 28 (0,0))
 at':w.heap[Ba]?=some (.cells #[.int .i64 p] 3 (0,0))
theorem vU{w w':World}{o:Obj}{r:Option Nat}(h:(w.alloc o).grownBy w' r):w.grownBy w' r:=
 ⟨h.os,h.tape,h.output,jU (by simp) h.size,λk hk hne=>(h.block k (by simp;omega) hne).trans (Df _ _ _ hk)⟩
section
variable {w w':World}{Br Be Bs Bw Ba F p:Nat}{ev rowv:Value}{es:List Rw.E}{rest:Int}
theorem EM.below(h:EM w Br Be Bs Bw Ba F ev es rest rowv p)(hb:Below w.heap.size w w'):EM w' Br Be Bs Bw Ba F ev es rest rowv p:=
 ⟨fu hb h.r1,(hb.block _ (il h.e)).trans h.e,(hb.block _ (il h.s)).trans h.s,(hb.block _ (il h.row)).trans h.row,(hb.block _ (il h.at')).trans h.at',fQ h.own hb,h.ord⟩
theorem mh{b b2 o:Nat}{u:Value}{x:Obj}(h:w.heap[b]?=some x)(hne:b≠b2):(w.setCell ⟨b2,o,none⟩ u).heap[b]?=some x:=(jf _ _ _ _ hne).trans h
theorem xC{base e size n B:Nat}{v:Value}{xs:List Value}(h:w.ownsRow base e size v n xs)(hB:B<base):v.ownBlock≠some B:=λe=>by have:=(h.lt _ e).1;omega
theorem EM.XK(h:EM w Br Be Bs Bw Ba F ev es rest rowv p)(u:Int):EM (w.setCell ⟨Bs,0,none⟩ (.int .i64 u)) Br Be Bs Bw Ba F ev es u rowv p:=by
 have ho:=h.ord;exact⟨jL (by omega) h.r1,mh h.e (by omega),Ic h.s,mh h.row (by omega),mh h.at' (by omega),H8 h.own (a:=⟨Bs,0,none⟩) (by show Bs<_;omega) _,ho⟩
theorem EM.YJ(h:EM w Br Be Bs Bw Ba F ev es rest rowv p)(u:Nat):EM (w.setCell ⟨Ba,0,none⟩ (.int .i64 u)) Br Be Bs Bw Ba F ev es rest rowv u:=by
 have ho:=h.ord;exact⟨jL (by omega) h.r1,mh h.e (by omega),mh h.s (by omega),mh h.row (by omega),Ic h.at',H8 h.own (a:=⟨Ba,0,none⟩) (by show Ba<_;omega) _,ho⟩
theorem EM.grown(h:EM w Br Be Bs Bw Ba F ev es rest rowv p)(hg:w.grownBy w' ev.ownBlock):EV w' Br Be Bs Bw Ba F ev rest rowv p:=by
 have ho:=h.ord;have hn:∀B,B<Ba+1->some B≠ev.ownBlock:=λB hB e=>xC h.own hB e.symm
 exact⟨hg.cell h.r1 (hn Br (by omega)),(hg.block Be (il h.e) (hn Be (by omega))).trans h.e,(hg.block Bs (il h.s) (hn Bs (by omega))).trans h.s,(hg.block Bw (il h.row) (hn Bw (by omega))).trans h.row,(hg.block Ba (il h.at') (hn Ba (by omega))).trans h.at'⟩
theorem EM.VH(h:EM w Br Be Bs Bw Ba F ev es rest rowv p){aa:Value}{es2:List Rw.E}(hg:w.grownBy w' ev.ownBlock)(hown:w'.ownsRow (Ba+1) 97 4 aa es2.length (qc.all es2)):EM (w'.setCell ⟨Be,0,none⟩ aa) Br Be Bs Bw Ba F aa es2 rest rowv p:=by
 have ho:=h.ord;have hn:∀B,B<Ba+1->some B≠ev.ownBlock:=λB hB e=>xC h.own hB e.symm
 have he:=(hg.block Be (il h.e) (hn Be (by omega))).trans h.e;exact⟨jL (by omega) (hg.cell h.r1 (hn Br (by omega))),Ic he,mh ((hg.block Bs (il h.s) (hn Bs (by omega))).trans h.s) (by omega),mh ((hg.block Bw (il h.row) (hn Bw (by omega))).trans h.row) (by omega),mh ((hg.block Ba (il h.at') (hn Ba (by omega))).trans h.at') (by omega),H8 hown (a:=⟨Be,0,none⟩) (by show Be<_;omega) _,ho⟩
end
theorem Ea(W:World)(x:Rw.E)(cs:List Value)(t:TypeId)(h:qc.cells x=cs):∀j c,(qc.all [x])[j]?=some c->(W.alloc (.cells cs.toArray t)).cell? ⟨W.heap.size,j,none⟩=some c:=by
 intro j c hj;rw[vH,<-h];have ea:qc.all [x]=qc.cells x:=by rw[mr.all,mr.all,mP]
 rw[ea]at hj
 simpa using hj
def Eb(Br Be Bs Bw Ba F:Nat)(es:List Rw.E)(x:Rw.E)(rest:Int)(rowv:Value)(p:Nat)(w:World)(e:Ending)(w':World):Prop:=
 e=.returned (.tuple #[])/\(∃ev,EM w' Br Be Bs Bw Ba F ev (es++[x]) rest rowv p)/\Below Br w w'
theorem Oj(dash:Bool)(tq:Nat)(Br Be Bs Bw Ba F p:Nat)(ev rowv:Value)(es:List Rw.E)(rest:Int)(ts:List Tk)(w:World)(hM:EM w Br Be Bs Bw Ba F ev es rest rowv p)(hR:∀W,Below Br w W->Reads iU W rowv ts)(hs:ts.length<=100000)(hf:∀x∈ts,x.2.1<=1000000)(hp:p<=ts.length)(hto:tq<=ts.length)(hF:F<=100000)(hes:es.length<=100000):
 Calls prog 98 #[.bool dash,.int .i64 tq,.pointer (some ⟨Br,0,none⟩),.pointer (some ⟨Bs,0,none⟩),.pointer (some ⟨Be,0,none⟩),.pointer (some ⟨Bw,0,none⟩),.pointer (some ⟨Ba,0,none⟩)] w
  (Eb Br Be Bs Bw Ba F es ⟨dash,Rw.uE ts p,F+p,F+tq⟩ (F+tq:Nat) rowv (tq+Rw.blanks (ts.drop tq)) w):=by
 have ho:=hM.ord;have hM1:=hM.XK ((F:Int)+(tq:Int));have k1:=hM.r1;have f2:=wD hM.s;have cS:=iF hM.s;have hb1:Below Br w (w.setCell ⟨Bs,0,none⟩ (.int .i64 ((F:Int)+(tq:Int)))):=(fI Br w).setCell (p:=⟨Bs,0,none⟩) (by show Br<=Bs;omega) _;obtain⟨W1,hW1⟩:=fq (w.setCell ⟨Bs,0,none⟩ (.int .i64 ((F:Int)+(tq:Int))));rw[hW1]at hM1 hb1;obtain⟨HW1,ag,HB1⟩:=jF hW1 hM1 hb1;have az:Br<=w.heap.size:=nX (DX hM.r1);have hbr:Br<=W1.heap.size:=nX (DX hM1.r1);have HC:=eZ (λW (hb:Below W1.heap.size W1 W)=>JX rowv ts p W (hR W (hb1.trans (hb.mono hbr))) (by omega) hp hf);have HP:=eZ (λW (hb:Below Br w W)=>UW rowv ts tq W (hR W hb) (by omega) hto);have HQ:=eZ (λe w'=>show(e=.returned (.tuple #[])/\(∃ev,EM w' Br Be Bs Bw Ba F ev (es++[⟨dash,Rw.uE ts p,F+p,F+tq⟩]) (F+tq:Nat) rowv (tq+Rw.blanks (ts.drop tq)))/\Below Br w w')->Eb Br Be Bs Bw Ba F es ⟨dash,Rw.uE ts p,F+p,F+tq⟩ (F+tq:Nat) rowv (tq+Rw.blanks (ts.drop tq)) w e w' from λh=>h);obtain⟨Q,hQ⟩:=fq (Eb Br Be Bs Bw Ba F es ⟨dash,Rw.uE ts p,F+p,F+tq⟩ (F+tq:Nat) rowv (tq+Rw.blanks (ts.drop tq)) w);rw[hQ]at HQ⊢;obtain⟨N,hN⟩:=fq (ts.length);rw[hN]at hs hp hto;obtain⟨C,hC⟩:=fq (Rw.uE ts p);rw[hC]at HC HQ;obtain⟨Z,hZ⟩:=fq (tq+Rw.blanks (ts.drop tq));rw[hZ]at HP HQ;have ax:=eZ (show qc.cells ⟨dash,C,F+p,F+tq⟩=[.bool dash,.int .i64 C,.int .i64 ((F:Int)+(p:Int)),.int .i64 ((F:Int)+(tq:Int))]by simp[qc,Oi]);clear hM hM1 hb1 hR hf hN hC hZ hQ hW1
 go_enter func98,ntmps98
 go_upto_region 1 with fail
 rw[HW1.out];clear k1 f2 cS;have c1:=ag.out.r1;have c2:=iF ag.out.s;have c3:=iF ag.out.row;have c4:=iF ag.out.at';have c5:=iF ag.out.e;have hw:=qL ((F:Int)+(p:Int)) (by omega);have HD:=eZ (show Below W1.heap.size W1 W1.drew from⟨rfl,rfl,rfl,fB _,λ_ _=>rfl⟩);have M1:=eZ (show es.length+1<=maxLen by simp only[maxLen];omega);have M2:=eZ (show(es.length+1)*32<=140737488355328 by omega);have ai:=eZ (λW (hb:Below Br w W)=>jU az hb.size);clear HW1
 go_cut [] (λwx=>∃ay,EM wx Br Be Bs Bw Ba F ay (es++[⟨dash,C,F+p,F+tq⟩]) ((F:Int)+(tq:Int)) rowv p/\Below Br w wx)
 case first=>
  go_wp2_with fail
  refine BJ (S:=λwx=>wx.cell? ⟨Br,1,none⟩=some (.int .i64 F)/\wx.cell? ⟨Bs,0,none⟩=some (.int .i64 ((F:Int)+(tq:Int)))/\wx.cell? ⟨Bw,0,none⟩=some rowv/\wx.cell? ⟨Ba,0,none⟩=some (.int .i64 p)) (by kernel_rfl) (⟨c1,c2,c3,c4⟩) (λhH=>?_);refine gY 1 (.bool dash) rfl (by kernel_rfl) rfl fC (λW hW=>by go_simp) hH ?_;refine gY 2 rowv rfl (by kernel_rfl) rfl fC (λW hW=>?_) hH ?_
  ·obtain⟨z1,z2,z3,z4⟩:=hW;go_simp
  refine gY 3 (.int .i64 p) rfl (by kernel_rfl) rfl fC (λW hW=>?_) hH ?_
  ·obtain⟨z1,z2,z3,z4⟩:=hW;go_simp
  refine gY 5 (.pointer (some ⟨Br,1,none⟩)) rfl (by kernel_rfl) rfl fC (λW hW=>by go_simp) hH ?_;refine gY 6 (.int .i64 F) rfl (by kernel_rfl) rfl fC (λW hW=>?_) hH ?_
  ·obtain⟨z1,z2,z3,z4⟩:=hW;go_simp
  refine gY 7 (.int .i64 p) rfl (by kernel_rfl) rfl fC (λW hW=>?_) hH ?_
  ·obtain⟨z1,z2,z3,z4⟩:=hW;go_simp
  refine gY 8 (.int .i64 ((F:Int)+(p:Int))) rfl (by kernel_rfl) rfl fC (λW hW=>by go_simp) hH ?_;refine gY 9 (.int .i64 ((F:Int)+(tq:Int))) rfl (by kernel_rfl) rfl fC (λW hW=>?_) hH ?_
  ·obtain⟨z1,z2,z3,z4⟩:=hW;go_simp
  refine Sd (rs:=[0,4]) (by kernel_rfl) (by simp) ?_;refine H7 (o:=⟨_,_,_,_,_,_⟩) rfl (λK hK=>?_) (H7 (o:=⟨_,_,_,_,_,_⟩) rfl (λK hK=>?_) (Se))
  ·skip
   go_simp;refine hK.out _ _ (⟨c1,c2,c3,c4⟩) (λhH2=>?_);clear hK K;try simp only[Act.put,fK,fP,fO]
   refine vB 4 (by kernel_rfl) rfl λK hK=>?_
   go_simp;refine(HC.out _ HD.out).mono ?_;rintro e w2 ⟨rfl,hb2⟩;have aa:=eZ ((ag.out.below HD.out).below hb2);have HB2:=eZ (HB1.out.trans ((HD.out.trans (hb2.mono HD.out.size)).mono hbr));have q1:=aa.out.r1;have q2:=iF aa.out.s;have q3:=iF aa.out.row;have q4:=iF aa.out.at';have q5:=iF aa.out.e;have x5:=gI (o:=.cells #[.bool dash,.int .i64 C,.int .i64 ((F:Int)+(p:Int)),.int .i64 ((F:Int)+(tq:Int))] 97) q5;have ah:=eZ aa.out.own;have ak:=eZ (show Ba+1<=(w2.alloc (.cells #[.bool dash,.int .i64 C,.int .i64 ((F:Int)+(p:Int)),.int .i64 ((F:Int)+(tq:Int))] 97)).heap.size from by have:=il aa.out.at';simp;omega);clear hb2;try go_wp2_with fail
   refine hK.out _ _ (⟨q1,q2,q3,q4⟩) (λhH2=>?_);clear hK K;try simp only[Act.put,fK,fP,fO]
   refine gY 10 (.agg #[.bool dash,.int .i64 C,.int .i64 ((F:Int)+(p:Int)),.int .i64 ((F:Int)+(tq:Int))]) rfl (by kernel_rfl) rfl fC (λW hW=>by go_simp) hH2 ?_;refine vB 11 (by kernel_rfl) rfl λK hK=>?_
   go_simp;refine hK.out _ _ (⟨gI q1,gI q2,gI q3,gI q4⟩) (λhH2=>?_);clear hK K;try simp only[Act.put,fK,fP,fO]
   refine vB 12 (by kernel_rfl) rfl λK hK=>?_
   refine kP YC rfl (.tmp 13) (.tmp 24) rfl (Ba+1) ev es rfl (ah.out.alloc _) w2.heap.size 1 ([⟨dash,C,F+p,F+tq⟩]:List Rw.E) rfl rfl (Ea w2 _ _ _ ax.out) M1.out M2.out ak.out ?_;intro v3 w3 hown3 hg3;obtain⟨a3,av,hv3⟩:=(Reads.fJ (E:=qc) hown3).shape;rw[show(es++[(⟨dash,C,F+p,F+tq⟩:Rw.E)]).length=es.length+1 from by simp]at hv3;subst hv3;obtain⟨af,aj⟩:=fT (vU hg3) hown3;have ae:=eZ (aa.out.grown af.out);have r1:=ae.out.r1;have r2:=iF ae.out.s;have r3:=iF ae.out.row;have r4:=iF ae.out.at';have r5:=iF ae.out.e;have rf:=wD ae.out.e;clear hown3 hg3;refine hK.out _ _ (⟨r1,r2,r3,r4⟩) (λhH2=>?_);clear hK K;try simp only[Act.put,fK,fP,fO]
   refine vB 13 (by kernel_rfl) rfl λK hK=>?_
   go_simp;refine hK.out _ _ (⟨jL (show Be≠Br by omega) r1,jL (show Be≠Bs by omega) r2,jL (show Be≠Bw by omega) r3,jL (show Be≠Ba by omega) r4⟩) (λhH2=>?_);clear hK K;try simp only[Act.put,fK,fP,fO]
   refine yM (by kernel_rfl) ?_ _;go_wp2_with fail
   go_meet
   exact⟨_,aa.out.VH af.out aj.out,(HB2.out.grown af.out (ai.out w2 HB2.out) (λq hq=>by have:=(ah.out.lt q hq).1;omega)).setCell (p:=⟨Be,0,none⟩) (by show Br<=Be;omega) _⟩
  skip
  go_simp;refine(HC.out _ HD.out).mono ?_;rintro e w2 ⟨rfl,hb2⟩;have aa:=eZ ((ag.out.below HD.out).below hb2);have HB2:=eZ (HB1.out.trans ((HD.out.trans (hb2.mono HD.out.size)).mono hbr));have q1:=aa.out.r1;have q2:=iF aa.out.s;have q3:=iF aa.out.row;have q4:=iF aa.out.at';have q5:=iF aa.out.e;have x5:=gI (o:=.cells #[.bool dash,.int .i64 C,.int .i64 ((F:Int)+(p:Int)),.int .i64 ((F:Int)+(tq:Int))] 97) q5;have ah:=eZ aa.out.own;have ak:=eZ (show Ba+1<=(w2.alloc (.cells #[.bool dash,.int .i64 C,.int .i64 ((F:Int)+(p:Int)),.int .i64 ((F:Int)+(tq:Int))] 97)).heap.size from by have:=il aa.out.at';simp;omega);clear hb2;try go_wp2_with fail
  refine hK.out _ _ (⟨q1,q2,q3,q4⟩) (λhH2=>?_);clear hK K;try simp only[Act.put,fK,fP,fO]
  refine gY 10 (.agg #[.bool dash,.int .i64 C,.int .i64 ((F:Int)+(p:Int)),.int .i64 ((F:Int)+(tq:Int))]) rfl (by kernel_rfl) rfl fC (λW hW=>by go_simp) hH2 ?_;refine Sd (rs:=[0,11]) (by kernel_rfl) (by simp) ?_;refine H7 (o:=⟨_,_,_,_,_,_⟩) rfl (λK hK=>?_) (H7 (o:=⟨_,_,_,_,_,_⟩) rfl (λK hK=>?_) (Se))
  ·skip
   go_simp;refine hK.out _ _ (⟨q1,q2,q3,q4⟩) (λhH2=>?_);clear hK K;try simp only[Act.put,fK,fP,fO]
   refine vB 11 (by kernel_rfl) rfl λK hK=>?_
   go_simp;refine hK.out _ _ (⟨gI q1,gI q2,gI q3,gI q4⟩) (λhH2=>?_);clear hK K;try simp only[Act.put,fK,fP,fO]
   refine vB 12 (by kernel_rfl) rfl λK hK=>?_
   refine kP YC rfl (.tmp 13) (.tmp 24) rfl (Ba+1) ev es rfl (ah.out.alloc _) w2.heap.size 1 ([⟨dash,C,F+p,F+tq⟩]:List Rw.E) rfl rfl (Ea w2 _ _ _ ax.out) M1.out M2.out ak.out ?_;intro v3 w3 hown3 hg3;obtain⟨a3,av,hv3⟩:=(Reads.fJ (E:=qc) hown3).shape;rw[show(es++[(⟨dash,C,F+p,F+tq⟩:Rw.E)]).length=es.length+1 from by simp]at hv3;subst hv3;obtain⟨af,aj⟩:=fT (vU hg3) hown3;have ae:=eZ (aa.out.grown af.out);have r1:=ae.out.r1;have r2:=iF ae.out.s;have r3:=iF ae.out.row;have r4:=iF ae.out.at';have r5:=iF ae.out.e;have rf:=wD ae.out.e;clear hown3 hg3;refine hK.out _ _ (⟨r1,r2,r3,r4⟩) (λhH2=>?_);clear hK K;try simp only[Act.put,fK,fP,fO]
   refine vB 13 (by kernel_rfl) rfl λK hK=>?_
   go_simp;refine hK.out _ _ (⟨jL (show Be≠Br by omega) r1,jL (show Be≠Bs by omega) r2,jL (show Be≠Bw by omega) r3,jL (show Be≠Ba by omega) r4⟩) (λhH2=>?_);clear hK K;try simp only[Act.put,fK,fP,fO]
   refine yM (by kernel_rfl) ?_ _;go_wp2_with fail
   go_meet
   exact⟨_,aa.out.VH af.out aj.out,(HB2.out.grown af.out (ai.out w2 HB2.out) (λq hq=>by have:=(ah.out.lt q hq).1;omega)).setCell (p:=⟨Be,0,none⟩) (by show Br<=Be;omega) _⟩
  skip
  go_simp;refine hK.out _ _ (⟨gI q1,gI q2,gI q3,gI q4⟩) (λhH2=>?_);clear hK K;try simp only[Act.put,fK,fP,fO]
  refine vB 0 (by kernel_rfl) rfl λK hK=>?_
  go_simp;refine hK.out _ _ (⟨gI q1,gI q2,gI q3,gI q4⟩) (λhH2=>?_);clear hK K;try simp only[Act.put,fK,fP,fO]
  refine vB 12 (by kernel_rfl) rfl λK hK=>?_
  refine kP YC rfl (.tmp 13) (.tmp 24) rfl (Ba+1) ev es rfl (ah.out.alloc _) w2.heap.size 1 ([⟨dash,C,F+p,F+tq⟩]:List Rw.E) rfl rfl (Ea w2 _ _ _ ax.out) M1.out M2.out ak.out ?_;intro v3 w3 hown3 hg3;obtain⟨a3,av,hv3⟩:=(Reads.fJ (E:=qc) hown3).shape;rw[show(es++[(⟨dash,C,F+p,F+tq⟩:Rw.E)]).length=es.length+1 from by simp]at hv3;subst hv3;obtain⟨af,aj⟩:=fT (vU hg3) hown3;have ae:=eZ (aa.out.grown af.out);have r1:=ae.out.r1;have r2:=iF ae.out.s;have r3:=iF ae.out.row;have r4:=iF ae.out.at';have r5:=iF ae.out.e;have rf:=wD ae.out.e;clear hown3 hg3;refine hK.out _ _ (⟨r1,r2,r3,r4⟩) (λhH2=>?_);clear hK K;try simp only[Act.put,fK,fP,fO]
  refine vB 13 (by kernel_rfl) rfl λK hK=>?_
  go_simp;refine hK.out _ _ (⟨jL (show Be≠Br by omega) r1,jL (show Be≠Bs by omega) r2,jL (show Be≠Bw by omega) r3,jL (show Be≠Ba by omega) r4⟩) (λhH2=>?_);clear hK K;try simp only[Act.put,fK,fP,fO]
  refine yM (by kernel_rfl) ?_ _;go_wp2_with fail
  go_meet
  exact⟨_,aa.out.VH af.out aj.out,(HB2.out.grown af.out (ai.out w2 HB2.out) (λq hq=>by have:=(ah.out.lt q hq).1;omega)).setCell (p:=⟨Be,0,none⟩) (by show Br<=Be;omega) _⟩
 case rest=>
  obtain⟨ay,hM,hB⟩:=hcut;have c3:=iF hM.row;have c4:=iF hM.at';have f4:=wD hM.at';obtain⟨HM,HB,aA⟩:=jF hM hB (HP.out wc hB);clear hM hB HP;go_wp2_with fail
  refine aA.out.mono ?_;rintro e w2 ⟨rfl,rfl⟩;have HD:=eZ (HQ.out _ _ ⟨rfl,⟨ay,by rw[show((F+tq:Nat):Int)=(F:Int)+(tq:Int)from by omega];exact HM.out.YJ Z⟩,HB.out.setCell (p:=⟨Ba,0,none⟩) (by show Br<=Ba;omega) _⟩);go_wp2_with fail
  go_end0
  exact HD.out
end
section
open Go.RowKit
open Sg
open Sq
abbrev MQ(ts:List Tk)(p:Nat):Int:=Rw.sK ts (p+Rw.blanks (ts.drop p))
theorem Tv(v:Value)(ts:List Tk)(p0:Nat)(w:World)(h:Reads iU w v ts)(hs:ts.length<=1000000)(hp0:p0<=ts.length):
 Calls prog 100 #[v,.int .i64 p0] w λe w'=>e=.returned (.int .i64 (MQ ts p0))/\w=w':=by
 have HP:=eZ (λp (hp:p<=ts.length)=>UW v ts p w h hs hp);have ah:=eZ (Rw.j6 ts);obtain⟨a,cap,rfl⟩:=h.shape;have H:=eZ (λj x (hj:ts[j]?=some x)=>iZ h j x hj);obtain⟨V,hV⟩:=fq (MQ ts p0);rw[hV];have aD:=eZ hV;obtain⟨N,hN⟩:=fq (ts.length);have HN:=eZ hN;rw[hN]at hs hp0 HP ah;rw[hN];clear h hN hV
 go_enter func100,ntmps100
 go_wp2;refine VA 0 (λa' w'=>w'=w/\∃(p:Nat)(u5 u6 u7 u8 u9 aG aH aI aJ aK aL u16 aM aN aO u20 u21 u22 u23 u24 u25 u26 u27 u28 u29 u30 u31 u32 u33 u34 u35 u36 u37 u38 aP u40 aQ u42 aR u44:Value),a'={tmps:=#[.slice a N cap,.int .i64 p,undef,undef,.int .i64 0,u5,u6,u7,u8,u9,aG,aH,aI,aJ,aK,aL,u16,aM,aN,aO,u20,u21,u22,u23,u24,u25,u26,u27,u28,u29,u30,u31,u32,u33,u34,u35,u36,u37,u38,aP,u40,aQ,u42,aR,u44],defers:=[]}/\p<=N/\Hid (MQ ts p=V)) (λa' _=>N-(intOf (a'.tmps.getD 1 undef)).toNat) rfl ?_ ?_
 ·obtain⟨p,hpe⟩:=fq (p0);rw[hpe]at hp0 aD⊢;have hp:=hp0;have HV:=aD;clear hp0 aD hpe;obtain⟨q,hq⟩:=fq (p+Rw.blanks (ts.drop p));have aa:=HP.out p hp;have aF:=ah.out p hp;have hV:=HV.out;unfold MQ at hV;rw[hq]at aa aF hV;have hpq:p<=q:=by omega
  obtain⟨aj,ag⟩:=fT aa hV;clear aa hV hq HV;go_wp2_with fail
  go_step3
  go_wp2_with fail
  refine aj.out.mono ?_;rintro e w2 ⟨rfl,rfl⟩;by_cases hqe:q=N
  ·subst hqe;have hr:V=-1:=by rw[<-ag.out];exact Rw.FQ ts q (by rw[HN.out];exact fB _)
   subst hr;clear H HP ah aj ag HN;go_wp2_with fail
   simp only[Exit.jump];go_ret;exact⟨rfl,rfl⟩
  have gq:((q:Int)==(N:Int))=false:=by simp;omega
  have hqi:(q:Int)<(N:Int):=by omega
  obtain⟨x,hx⟩:=jB ts q (by rw[HN.out];omega);obtain⟨b,off,rfl,c0,c1,c2⟩:=H.out q x hx;obtain⟨K,hK⟩:=fq (x.1);obtain⟨HX,HK⟩:=fT hx hK;rw[hK]at c0;clear hx hK c1 c2 hqe;by_cases ak:K=12
  ·subst ak;have HJ:=eZ (show MQ ts (q+1)=V by rw[<-ag.out];exact(Rw.ve ts q x HX.out (by rw[HK.out];rfl)).symm);clear H HP ah aj ag HN;go_wp2_with fail
   go_step3
   refine⟨rfl,rfl,q+1,_,_,_,_,_,_,_,_,_,_,_,_,_,_,_,_,_,_,_,_,_,_,_,_,_,_,_,_,_,_,_,_,_,_,_,_,_,_,_,_,rfl,by omega,HJ⟩
  have g12:((K:Int)==12)=false:=by simp;omega
  by_cases av:K=14
  ·subst av;have HJ:=eZ (show MQ ts (q+1)=V by rw[<-ag.out];exact(Rw.ve ts q x HX.out (by rw[HK.out];rfl)).symm);clear H HP ah aj ag HN ak g12;go_wp2_with fail
   go_step3
   refine⟨rfl,rfl,q+1,_,_,_,_,_,_,_,_,_,_,_,_,_,_,_,_,_,_,_,_,_,_,_,_,_,_,_,_,_,_,_,_,_,_,_,_,_,_,_,_,rfl,by omega,HJ⟩
  have g14:((K:Int)==14)=false:=by simp;omega
  have ai:Rw.isProp x.1=false:=by rw[HK.out];simp[Rw.isProp];omega
  by_cases ay:K=15
  ·subst ay;have hV:=(Rw.mK ts q x HX.out ai (by rw[HK.out];rfl)).symm.trans ag.out;have aa:=HP.out (q+1) (by omega);have ax:=ah.out (q+1) (by omega);obtain⟨r,hr⟩:=fq (q+1+Rw.blanks (ts.drop (q+1)));rw[hr]at aa ax hV;have ae:=eZ hV;rw[show((q+1:Nat):Int)=(q:Int)+1 from by omega]at aa;have af:=eZ aa;clear hV aa hr HP aj ag ah ai ak av;go_wp2_with fail
   refine af.out.mono ?_;rintro e w2 ⟨rfl,rfl⟩;by_cases hre:r=N
   ·subst hre;have hr:V=-1:=by rw[<-ae.out];exact Rw.oz ts r (by rw[HN.out];exact fB _)
    subst hr;have hnr:¬((r:Int)<(r:Int)):=by omega
    clear H af ae HN;go_wp2_with fail
    simp only[Exit.jump];go_ret;exact⟨rfl,rfl⟩
   have aB:(r:Int)<(N:Int):=by omega
   obtain⟨y,hy⟩:=jB ts r (by rw[HN.out];omega);obtain⟨b9,az,he,d0,-,-⟩:=H.out r y hy;injection he with he
   injection he with e1 e2
   subst e1 e2;have hV:=ae.out;rw[Rw.oo ts r y hy]at hV;obtain⟨Y,hY⟩:=fq (y.1);rw[hY]at d0 hV;by_cases q6:Y=6
   ·rw[eY q6]at hV;subst q6;subst hV;clear H af ae HN hY hy;go_wp2_with fail
    simp only[Exit.jump];go_ret;exact⟨by go_num,rfl⟩
   rw[eX q6]at hV;subst hV;have g6:((Y:Int)==6)=false:=by simp;omega
   clear H af ae HN hY hy q6;go_wp2_with fail
   simp only[Exit.jump];go_ret;exact⟨rfl,rfl⟩
  have g15:((K:Int)==15)=false:=by simp;omega
  by_cases q16:K=16
  ·subst q16;have hV:=(Rw.mK ts q x HX.out ai (by rw[HK.out];rfl)).symm.trans ag.out;have aa:=HP.out (q+1) (by omega);have ax:=ah.out (q+1) (by omega);obtain⟨r,hr⟩:=fq (q+1+Rw.blanks (ts.drop (q+1)));rw[hr]at aa ax hV;have ae:=eZ hV;rw[show((q+1:Nat):Int)=(q:Int)+1 from by omega]at aa;have af:=eZ aa;clear hV aa hr HP aj ag ah ai ak av ay;go_wp2_with fail
   refine af.out.mono ?_;rintro e w2 ⟨rfl,rfl⟩;by_cases hre:r=N
   ·subst hre;have hr:V=-1:=by rw[<-ae.out];exact Rw.oz ts r (by rw[HN.out];exact fB _)
    subst hr;have hnr:¬((r:Int)<(r:Int)):=by omega
    clear H af ae HN;go_wp2_with fail
    simp only[Exit.jump];go_ret;exact⟨rfl,rfl⟩
   have aB:(r:Int)<(N:Int):=by omega
   obtain⟨y,hy⟩:=jB ts r (by rw[HN.out];omega);obtain⟨b9,az,he,d0,-,-⟩:=H.out r y hy;injection he with he
   injection he with e1 e2
   subst e1 e2;have hV:=ae.out;rw[Rw.oo ts r y hy]at hV;obtain⟨Y,hY⟩:=fq (y.1);rw[hY]at d0 hV;by_cases q6:Y=6
   ·rw[eY q6]at hV;subst q6;subst hV;clear H af ae HN hY hy;go_wp2_with fail
    simp only[Exit.jump];go_ret;exact⟨by go_num,rfl⟩
   rw[eX q6]at hV;subst hV;have g6:((Y:Int)==6)=false:=by simp;omega
   clear H af ae HN hY hy q6;go_wp2_with fail
   simp only[Exit.jump];go_ret;exact⟨rfl,rfl⟩
  have g16:((K:Int)==16)=false:=by simp;omega
  by_cases aA:K=17
  ·subst aA;have hV:=(Rw.mK ts q x HX.out ai (by rw[HK.out];rfl)).symm.trans ag.out;have aa:=HP.out (q+1) (by omega);have ax:=ah.out (q+1) (by omega);obtain⟨r,hr⟩:=fq (q+1+Rw.blanks (ts.drop (q+1)));rw[hr]at aa ax hV;have ae:=eZ hV;rw[show((q+1:Nat):Int)=(q:Int)+1 from by omega]at aa;have af:=eZ aa;clear hV aa hr HP aj ag ah ai ak av ay q16;go_wp2_with fail
   refine af.out.mono ?_;rintro e w2 ⟨rfl,rfl⟩;by_cases hre:r=N
   ·subst hre;have hr:V=-1:=by rw[<-ae.out];exact Rw.oz ts r (by rw[HN.out];exact fB _)
    subst hr;have hnr:¬((r:Int)<(r:Int)):=by omega
    clear H af ae HN;go_wp2_with fail
    simp only[Exit.jump];go_ret;exact⟨rfl,rfl⟩
   have aB:(r:Int)<(N:Int):=by omega
   obtain⟨y,hy⟩:=jB ts r (by rw[HN.out];omega);obtain⟨b9,az,he,d0,-,-⟩:=H.out r y hy;injection he with he
   injection he with e1 e2
   subst e1 e2;have hV:=ae.out;rw[Rw.oo ts r y hy]at hV;obtain⟨Y,hY⟩:=fq (y.1);rw[hY]at d0 hV;by_cases q6:Y=6
   ·rw[eY q6]at hV;subst q6;subst hV;clear H af ae HN hY hy;go_wp2_with fail
    simp only[Exit.jump];go_ret;exact⟨by go_num,rfl⟩
   rw[eX q6]at hV;subst hV;have g6:((Y:Int)==6)=false:=by simp;omega
   clear H af ae HN hY hy q6;go_wp2_with fail
   simp only[Exit.jump];go_ret;exact⟨rfl,rfl⟩
  have g17:((K:Int)==17)=false:=by simp;omega
  by_cases aC:K=13
  ·subst aC;have hV:=(Rw.mK ts q x HX.out ai (by rw[HK.out];rfl)).symm.trans ag.out;have aa:=HP.out (q+1) (by omega);have ax:=ah.out (q+1) (by omega);obtain⟨r,hr⟩:=fq (q+1+Rw.blanks (ts.drop (q+1)));rw[hr]at aa ax hV;have ae:=eZ hV;rw[show((q+1:Nat):Int)=(q:Int)+1 from by omega]at aa;have af:=eZ aa;clear hV aa hr HP aj ag ah ai ak av ay q16 aA;go_wp2_with fail
   refine af.out.mono ?_;rintro e w2 ⟨rfl,rfl⟩;by_cases hre:r=N
   ·subst hre;have hr:V=-1:=by rw[<-ae.out];exact Rw.oz ts r (by rw[HN.out];exact fB _)
    subst hr;have hnr:¬((r:Int)<(r:Int)):=by omega
    clear H af ae HN;go_wp2_with fail
    simp only[Exit.jump];go_ret;exact⟨rfl,rfl⟩
   have aB:(r:Int)<(N:Int):=by omega
   obtain⟨y,hy⟩:=jB ts r (by rw[HN.out];omega);obtain⟨b9,az,he,d0,-,-⟩:=H.out r y hy;injection he with he
   injection he with e1 e2
   subst e1 e2;have hV:=ae.out;rw[Rw.oo ts r y hy]at hV;obtain⟨Y,hY⟩:=fq (y.1);rw[hY]at d0 hV;by_cases q6:Y=6
   ·rw[eY q6]at hV;subst q6;subst hV;clear H af ae HN hY hy;go_wp2_with fail
    simp only[Exit.jump];go_ret;exact⟨by go_num,rfl⟩
   rw[eX q6]at hV;subst hV;have g6:((Y:Int)==6)=false:=by simp;omega
   clear H af ae HN hY hy q6;go_wp2_with fail
   simp only[Exit.jump];go_ret;exact⟨rfl,rfl⟩
  have g13:((K:Int)==13)=false:=by simp;omega
  have hV:=(Rw.Bc ts q x HX.out ai (by rw[HK.out];simp[Rw.ig];omega)).symm.trans ag.out;rw[Rw.oo ts q x HX.out,HK.out]at hV;by_cases q6:K=6
  ·rw[eY q6]at hV;subst q6;subst hV;clear H HP ah aj ag HN ai ak g12 av g14 ay g15 q16 g16 aA g17 aC g13;go_wp2_with fail
   simp only[Exit.jump];go_ret;exact⟨by go_num,rfl⟩
  rw[eX q6]at hV;subst hV;have g6:((K:Int)==6)=false:=by simp;omega
  clear H HP ah aj ag HN ai q6 ak av ay q16 aA aC;go_wp2_with fail
  simp only[Exit.jump];go_ret;exact⟨rfl,rfl⟩
 rintro a' w' ⟨rfl,p,u5,u6,u7,u8,u9,aG,aH,aI,aJ,aK,aL,u16,aM,aN,aO,u20,u21,u22,u23,u24,u25,u26,u27,u28,u29,u30,u31,u32,u33,u34,u35,u36,u37,u38,aP,u40,aQ,u42,aR,u44,rfl,hp,HV⟩;clear hp0 aD;obtain⟨q,hq⟩:=fq (p+Rw.blanks (ts.drop p));have aa:=HP.out p hp;have aF:=ah.out p hp;have hV:=HV.out;unfold MQ at hV;rw[hq]at aa aF hV;have hpq:p<=q:=by omega
 obtain⟨aj,ag⟩:=fT aa hV;clear aa hV hq HV;go_wp2_with fail
 refine aj.out.mono ?_;rintro e w2 ⟨rfl,rfl⟩;by_cases hqe:q=N
 ·subst hqe;have hr:V=-1:=by rw[<-ag.out];exact Rw.FQ ts q (by rw[HN.out];exact fB _)
  subst hr;clear H HP ah aj ag HN;go_wp2_with fail
  simp only[Exit.jump];go_ret;exact⟨rfl,rfl⟩
 have gq:((q:Int)==(N:Int))=false:=by simp;omega
 have hqi:(q:Int)<(N:Int):=by omega
 obtain⟨x,hx⟩:=jB ts q (by rw[HN.out];omega);obtain⟨b,off,rfl,c0,c1,c2⟩:=H.out q x hx;obtain⟨K,hK⟩:=fq (x.1);obtain⟨HX,HK⟩:=fT hx hK;rw[hK]at c0;clear hx hK c1 c2 hqe;by_cases ak:K=12
 ·subst ak;have HJ:=eZ (show MQ ts (q+1)=V by rw[<-ag.out];exact(Rw.ve ts q x HX.out (by rw[HK.out];rfl)).symm);clear H HP ah aj ag HN;go_wp2_with fail
  go_step3
  refine⟨rfl,⟨rfl,q+1,_,_,_,_,_,_,_,_,_,_,_,_,_,_,_,_,_,_,_,_,_,_,_,_,_,_,_,_,_,_,_,_,_,_,_,_,_,_,_,_,rfl,by omega,HJ⟩,?_⟩;simp[intOf];omega
 have g12:((K:Int)==12)=false:=by simp;omega
 by_cases av:K=14
 ·subst av;have HJ:=eZ (show MQ ts (q+1)=V by rw[<-ag.out];exact(Rw.ve ts q x HX.out (by rw[HK.out];rfl)).symm);clear H HP ah aj ag HN ak g12;go_wp2_with fail
  go_step3
  refine⟨rfl,⟨rfl,q+1,_,_,_,_,_,_,_,_,_,_,_,_,_,_,_,_,_,_,_,_,_,_,_,_,_,_,_,_,_,_,_,_,_,_,_,_,_,_,_,_,rfl,by omega,HJ⟩,?_⟩;simp[intOf];omega
 have g14:((K:Int)==14)=false:=by simp;omega
 have ai:Rw.isProp x.1=false:=by rw[HK.out];simp[Rw.isProp];omega
 by_cases ay:K=15
 ·subst ay;have hV:=(Rw.mK ts q x HX.out ai (by rw[HK.out];rfl)).symm.trans ag.out;have aa:=HP.out (q+1) (by omega);have ax:=ah.out (q+1) (by omega);obtain⟨r,hr⟩:=fq (q+1+Rw.blanks (ts.drop (q+1)));rw[hr]at aa ax hV;have ae:=eZ hV;rw[show((q+1:Nat):Int)=(q:Int)+1 from by omega]at aa;have af:=eZ aa;clear hV aa hr HP aj ag ah ai ak av;go_wp2_with fail
  refine af.out.mono ?_;rintro e w2 ⟨rfl,rfl⟩;by_cases hre:r=N
  ·subst hre;have hr:V=-1:=by rw[<-ae.out];exact Rw.oz ts r (by rw[HN.out];exact fB _)
   subst hr;have hnr:¬((r:Int)<(r:Int)):=by omega
   clear H af ae HN;go_wp2_with fail
   simp only[Exit.jump];go_ret;exact⟨rfl,rfl⟩
  have aB:(r:Int)<(N:Int):=by omega
  obtain⟨y,hy⟩:=jB ts r (by rw[HN.out];omega);obtain⟨b9,az,he,d0,-,-⟩:=H.out r y hy;injection he with he
  injection he with e1 e2
  subst e1 e2;have hV:=ae.out;rw[Rw.oo ts r y hy]at hV;obtain⟨Y,hY⟩:=fq (y.1);rw[hY]at d0 hV;by_cases q6:Y=6
  ·rw[eY q6]at hV;subst q6;subst hV;clear H af ae HN hY hy;go_wp2_with fail
   simp only[Exit.jump];go_ret;exact⟨by go_num,rfl⟩
  rw[eX q6]at hV;subst hV;have g6:((Y:Int)==6)=false:=by simp;omega
  clear H af ae HN hY hy q6;go_wp2_with fail
  simp only[Exit.jump];go_ret;exact⟨rfl,rfl⟩
 have g15:((K:Int)==15)=false:=by simp;omega
 by_cases q16:K=16
 ·subst q16;have hV:=(Rw.mK ts q x HX.out ai (by rw[HK.out];rfl)).symm.trans ag.out;have aa:=HP.out (q+1) (by omega);have ax:=ah.out (q+1) (by omega);obtain⟨r,hr⟩:=fq (q+1+Rw.blanks (ts.drop (q+1)));rw[hr]at aa ax hV;have ae:=eZ hV;rw[show((q+1:Nat):Int)=(q:Int)+1 from by omega]at aa;have af:=eZ aa;clear hV aa hr HP aj ag ah ai ak av ay;go_wp2_with fail
  refine af.out.mono ?_;rintro e w2 ⟨rfl,rfl⟩;by_cases hre:r=N
  ·subst hre;have hr:V=-1:=by rw[<-ae.out];exact Rw.oz ts r (by rw[HN.out];exact fB _)
   subst hr;have hnr:¬((r:Int)<(r:Int)):=by omega
   clear H af ae HN;go_wp2_with fail
   simp only[Exit.jump];go_ret;exact⟨rfl,rfl⟩
  have aB:(r:Int)<(N:Int):=by omega
  obtain⟨y,hy⟩:=jB ts r (by rw[HN.out];omega);obtain⟨b9,az,he,d0,-,-⟩:=H.out r y hy;injection he with he
  injection he with e1 e2
  subst e1 e2;have hV:=ae.out;rw[Rw.oo ts r y hy]at hV;obtain⟨Y,hY⟩:=fq (y.1);rw[hY]at d0 hV;by_cases q6:Y=6
  ·rw[eY q6]at hV;subst q6;subst hV;clear H af ae HN hY hy;go_wp2_with fail
   simp only[Exit.jump];go_ret;exact⟨by go_num,rfl⟩
  rw[eX q6]at hV;subst hV;have g6:((Y:Int)==6)=false:=by simp;omega
  clear H af ae HN hY hy q6;go_wp2_with fail
  simp only[Exit.jump];go_ret;exact⟨rfl,rfl⟩
 have g16:((K:Int)==16)=false:=by simp;omega
 by_cases aA:K=17
 ·subst aA;have hV:=(Rw.mK ts q x HX.out ai (by rw[HK.out];rfl)).symm.trans ag.out;have aa:=HP.out (q+1) (by omega);have ax:=ah.out (q+1) (by omega);obtain⟨r,hr⟩:=fq (q+1+Rw.blanks (ts.drop (q+1)));rw[hr]at aa ax hV;have ae:=eZ hV;rw[show((q+1:Nat):Int)=(q:Int)+1 from by omega]at aa;have af:=eZ aa;clear hV aa hr HP aj ag ah ai ak av ay q16;go_wp2_with fail
  refine af.out.mono ?_;rintro e w2 ⟨rfl,rfl⟩;by_cases hre:r=N
  ·subst hre;have hr:V=-1:=by rw[<-ae.out];exact Rw.oz ts r (by rw[HN.out];exact fB _)
   subst hr;have hnr:¬((r:Int)<(r:Int)):=by omega
   clear H af ae HN;go_wp2_with fail
   simp only[Exit.jump];go_ret;exact⟨rfl,rfl⟩
  have aB:(r:Int)<(N:Int):=by omega
  obtain⟨y,hy⟩:=jB ts r (by rw[HN.out];omega);obtain⟨b9,az,he,d0,-,-⟩:=H.out r y hy;injection he with he
  injection he with e1 e2
  subst e1 e2;have hV:=ae.out;rw[Rw.oo ts r y hy]at hV;obtain⟨Y,hY⟩:=fq (y.1);rw[hY]at d0 hV;by_cases q6:Y=6
  ·rw[eY q6]at hV;subst q6;subst hV;clear H af ae HN hY hy;go_wp2_with fail
   simp only[Exit.jump];go_ret;exact⟨by go_num,rfl⟩
  rw[eX q6]at hV;subst hV;have g6:((Y:Int)==6)=false:=by simp;omega
  clear H af ae HN hY hy q6;go_wp2_with fail
  simp only[Exit.jump];go_ret;exact⟨rfl,rfl⟩
 have g17:((K:Int)==17)=false:=by simp;omega
 by_cases aC:K=13
 ·subst aC;have hV:=(Rw.mK ts q x HX.out ai (by rw[HK.out];rfl)).symm.trans ag.out;have aa:=HP.out (q+1) (by omega);have ax:=ah.out (q+1) (by omega);obtain⟨r,hr⟩:=fq (q+1+Rw.blanks (ts.drop (q+1)));rw[hr]at aa ax hV;have ae:=eZ hV;rw[show((q+1:Nat):Int)=(q:Int)+1 from by omega]at aa;have af:=eZ aa;clear hV aa hr HP aj ag ah ai ak av ay q16 aA;go_wp2_with fail
  refine af.out.mono ?_;rintro e w2 ⟨rfl,rfl⟩;by_cases hre:r=N
  ·subst hre;have hr:V=-1:=by rw[<-ae.out];exact Rw.oz ts r (by rw[HN.out];exact fB _)
   subst hr;have hnr:¬((r:Int)<(r:Int)):=by omega
   clear H af ae HN;go_wp2_with fail
   simp only[Exit.jump];go_ret;exact⟨rfl,rfl⟩
  have aB:(r:Int)<(N:Int):=by omega
  obtain⟨y,hy⟩:=jB ts r (by rw[HN.out];omega);obtain⟨b9,az,he,d0,-,-⟩:=H.out r y hy;injection he with he
  injection he with e1 e2
  subst e1 e2;have hV:=ae.out;rw[Rw.oo ts r y hy]at hV;obtain⟨Y,hY⟩:=fq (y.1);rw[hY]at d0 hV;by_cases q6:Y=6
  ·rw[eY q6]at hV;subst q6;subst hV;clear H af ae HN hY hy;go_wp2_with fail
   simp only[Exit.jump];go_ret;exact⟨by go_num,rfl⟩
  rw[eX q6]at hV;subst hV;have g6:((Y:Int)==6)=false:=by simp;omega
  clear H af ae HN hY hy q6;go_wp2_with fail
  simp only[Exit.jump];go_ret;exact⟨rfl,rfl⟩
 have g13:((K:Int)==13)=false:=by simp;omega
 have hV:=(Rw.Bc ts q x HX.out ai (by rw[HK.out];simp[Rw.ig];omega)).symm.trans ag.out;rw[Rw.oo ts q x HX.out,HK.out]at hV;by_cases q6:K=6
 ·rw[eY q6]at hV;subst q6;subst hV;clear H HP ah aj ag HN ai ak g12 av g14 ay g15 q16 g16 aA g17 aC g13;go_wp2_with fail
  simp only[Exit.jump];go_ret;exact⟨by go_num,rfl⟩
 rw[eX q6]at hV;subst hV;have g6:((K:Int)==6)=false:=by simp;omega
 clear H HP ah aj ag HN ai q6 ak av ay q16 aA aC;go_wp2_with fail
 simp only[Exit.jump];go_ret;exact⟨rfl,rfl⟩
end
end Go.Proofs.YtmkkdjpebbdikaaGreatDoor

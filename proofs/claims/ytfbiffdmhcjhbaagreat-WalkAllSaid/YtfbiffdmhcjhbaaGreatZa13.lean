import Derived.Test.YtfbiffdmhcjhbaaGreatZa09
import Derived.Test.YtfbiffdmhcjhbaaGreatZa10
import Derived.Test.YtfbiffdmhcjhbaaGreatZa11
import Derived.WalkMore
set_option linter.all false
set_option maxHeartbeats 16000000
set_option maxRecDepth 100000
set_option synthInstance.maxSize 4000
set_option synthInstance.maxHeartbeats 0
namespace Go.Proofs.YtfbiffdmhcjhbaaGreat
open Go.RowKit Tryz
def uo:=@Below.heap_setCell
section
open Go.RowKit
open Sq
open Ar
open Fl (Tk)
theorem OT.same{w w':World}{B:Nat}{v:Value}{L:List Ln}(h:OT w B v L)(hk:∀g,(v.ownBlock=some g\/∃p∈L,p.val.ownBlock=some g)->w'.heap[g]?=w.heap[g]?):OT w' B v L:=
 ⟨il h.row (λg hg=>hk g (.inl hg)),λi p hp=>il (h.kids i p hp) (λg hg=>hk g (.inr ⟨p,nQ hp,hg⟩)),h.apart⟩
theorem OT.off{w:World}{B rb:Nat}{v:Value}{L:List Ln}{C:Array Value}{T:TypeId}{fr:Nat×Nat}(h:OT w B v L)(hb:w.heap[rb]?=some (.cells C T fr))(h1:3≠T)(h2:47≠T):∀g,(v.ownBlock=some g\/∃p∈L,p.val.ownBlock=some g)->g≠rb:=by
 rintro g hg rfl;rcases hg with hg|⟨p,hp,hg⟩
 ·exact fK h.row hb h2 hg
 obtain⟨i,hi⟩:=rT hp;exact fK (h.kids i p hi) hb h1 hg
abbrev zy(tv nv dv:Value)(e:Nat):Array Value:=#[tv,nv,dv,.int .i64 (e:Int)]
structure GM(w0 w:World)(rb:Nat)(tv nv dv:Value)(e:Nat)(l:List Tk)(L:List Ln)(D:List Fl.Dg):Prop where
 kE:Below w0.heap.size w0 w
 toks:Reads iZ w0 tv l
 size:l.length<=100000
 ends:e<=l.length
 low:w0.heap.size<=rb
 box:w.heap[rb]?=some (.cells (zy tv nv dv e) 62 (0,0))
 nodes:OT w w0.heap.size nv L
 told:w.ownsRow w0.heap.size 89 3 dv D.length (gD.all D)
abbrev DR(dv:Value):Nat->Prop:=λg=>dv.ownBlock=some g
section
variable {w0 w w' wq w6:World}{rb:Nat}{tv nv dv:Value}{e:Nat}{l:List Tk}{L:List Ln}{D:List Fl.Dg}
theorem GM.lt(h:GM w0 w rb tv nv dv e l L D):rb<w.heap.size:=kg h.box
theorem GM.cell(h:GM w0 w rb tv nv dv e l L D)(i:Nat)(u:Value)(hu:(zy tv nv dv e)[i]?=some u):w.cell? ⟨rb,i,none⟩=some u:=(gQ h.box i).trans hu
theorem GM.free(h:GM w0 w rb tv nv dv e l L D)(o:Nat):w.frozen? ⟨rb,o,none⟩=false:=rW h.box o
theorem GM.keep(h:GM w0 w rb tv nv dv e l L D)(hb:Below w0.heap.size w0 w')(hk:∀g,(g=rb\/dv.ownBlock=some g\/nv.ownBlock=some g\/∃p∈L,p.val.ownBlock=some g)->w'.heap[g]?=w.heap[g]?):GM w0 w' rb tv nv dv e l L D:=
 ⟨hb,h.toks,h.size,h.ends,h.low,(hk rb (.inl rfl)).trans h.box,h.nodes.same (λg hg=>hk g (.inr (.inr hg))),il h.told (λg hg=>hk g (.inr (.inl hg)))⟩
theorem GM.rows(h:GM w0 w rb tv nv dv e l L D){g:Nat}(hg:g=rb\/dv.ownBlock=some g\/nv.ownBlock=some g\/∃p∈L,p.val.ownBlock=some g):w0.heap.size<=g/\g<w.heap.size:=by
 rcases hg with rfl|hg|hg|⟨p,hp,hg⟩
 ·exact⟨h.low,h.lt⟩
 ·exact h.told.lt g hg
 ·exact h.nodes.row.lt g hg
 obtain⟨i,hi⟩:=rT hp;exact(h.nodes.kids i p hi).lt g hg
theorem GM.below(h:GM w0 w rb tv nv dv e l L D)(hb:Below w.heap.size w w'):GM w0 w' rb tv nv dv e l L D:=
 h.keep (h.kE.trans (hb.mono h.kE.size)) (λg hg=>hb.block g (h.rows hg).2)
theorem GM.far{k o:Nat}{u:Value}{C:Array Value}{T:TypeId}{fr:Nat×Nat}(h:GM w0 w rb tv nv dv e l L D)(h0:w0.heap.size<=k)(hb:w.heap[k]?=some (.cells C T fr))(h1:3≠T)(h2:47≠T)(h3:89≠T)(h4:62≠T):GM w0 (w.setCell ⟨k,o,none⟩ u) rb tv nv dv e l L D:=by
 refine h.keep (h.kE.setCell (p:=⟨k,o,none⟩) h0 u) (λg hg=>uo _ _ _ _ ?_);rintro rfl;rcases hg with hg|hg|hg
 ·subst hg;rw[h.box]at hb;injection hb with hb
  injection hb with _ hT
  exact h4 hT
 ·exact fK h.told hb h3 hg
 exact h.nodes.off hb h1 h2 _ hg rfl
theorem GM.toTree{aa:Value}{L':List Ln}(h:GM w0 w rb tv nv dv e l L D)(hb:Below w.heap.size w w')(hO:OT w' w0.heap.size aa L'):
 GM w0 (w'.setCell ⟨rb,1,none⟩ aa) rb tv aa dv e l L' D/\FP w (w'.setCell ⟨rb,1,none⟩ aa) rb (DR dv) (DR dv):=by
 have h2:=h.below hb;have st:∀g,g≠rb->(w'.setCell ⟨rb,1,none⟩ aa).heap[g]?=w'.heap[g]?:=λg hg=>uo _ _ _ _ hg
 refine⟨⟨h2.kE.setCell (p:=⟨rb,1,none⟩) h.low _,h.toks,h.size,h.ends,h.low,mr h2.box aa,hO.same (λg hg=>st g (hO.off h2.box (by decide) (by decide) g hg)),il h2.told (λg hg=>st g (λe'=>fK h2.told h2.box (by decide) (e' ▸hg)))⟩,
  ⟨?_,λk hk hr _=>(st k hr).trans (hb.block k hk),λk hk=>.inl hk⟩⟩
 have h1:=hb.size;have h3:(w'.setCell ⟨rb,1,none⟩ aa).heap.size=w'.heap.size:=by simp
 omega
theorem GM.toEnd(h:GM w0 w rb tv nv dv e l L D)(e':Nat)(he:e'<=l.length):
 GM w0 (w.setCell ⟨rb,3,none⟩ (.int .i64 (e':Int))) rb tv nv dv e' l L D/\FP w (w.setCell ⟨rb,3,none⟩ (.int .i64 (e':Int))) rb (DR dv) (DR dv):=by
 have st:∀g,g≠rb->(w.setCell ⟨rb,3,none⟩ (.int .i64 (e':Int))).heap[g]?=w.heap[g]?:=λg hg=>uo _ _ _ _ hg
 refine⟨⟨h.kE.setCell (p:=⟨rb,3,none⟩) h.low _,h.toks,h.size,he,h.low,mr h.box _,h.nodes.same (λg hg=>st g (h.nodes.off h.box (by decide) (by decide) g hg)),il h.told (λg hg=>st g (λe'=>fK h.told h.box (by decide) (e' ▸hg)))⟩,
  ⟨?_,λk hk hr _=>st k hr,λk hk=>.inl hk⟩⟩
 simp
theorem GM.more{v6:Value}{x:Fl.Dg}(h:GM w0 w rb tv nv dv e l L D)(hq:Below w.heap.size w wq)(hg:wq.grownBy w6 dv.ownBlock)(hown:w6.ownsRow w0.heap.size 89 3 v6 (D++[x]).length (gD.all (D++[x])))
 (hat:v6.ownBlock=dv.ownBlock\/v6.ownBlock=some wq.heap.size):
 w6.heap[rb]?=some (.cells (zy tv nv dv e) 62 (0,0))/\
 GM w0 (w6.setCell ⟨rb,2,none⟩ v6) rb tv nv v6 e l L (D++[x])/\FP w (w6.setCell ⟨rb,2,none⟩ v6) rb (DR dv) (DR v6):=by
 have h2:=h.below hq;have hoff:dv.ownBlock≠some rb:=fK h2.told h2.box (by decide);have aa:w6.heap[rb]?=some (.cells (zy tv nv dv e) 62 (0,0)):=(hg.block rb h2.lt (λe'=>hoff e'.symm)).trans h2.box
 have hO:OT w6 w0.heap.size nv L:=h2.nodes.same (λg hgg=>hg.block g (h2.rows (.inr (.inr hgg))).2 (λe'=>by
  rcases hgg with hgg|⟨p,hp,hgg⟩
  ·exact gU h2.nodes.row h2.told (by decide) g hgg e'.symm
  obtain⟨i,hi⟩:=rT hp
  exact gU (h2.nodes.kids i p hi) h2.told (by decide) g hgg e'.symm))
 have hb6:Below w0.heap.size w0 w6:=h2.kE.grown hg h2.kE.size (λq hq=>(h2.told.lt q hq).1);have st:∀g,g≠rb->(w6.setCell ⟨rb,2,none⟩ v6).heap[g]?=w6.heap[g]?:=λg hg=>uo _ _ _ _ hg
 refine⟨aa,⟨hb6.setCell (p:=⟨rb,2,none⟩) h.low _,h.toks,h.size,h.ends,h.low,mr aa v6,hO.same (λg hg=>st g (hO.off aa (by decide) (by decide) g hg)),il hown (λg hg=>st g (λe'=>fK hown aa (by decide) (e' ▸hg)))⟩,
  ⟨?_,λk hk hr hn=>?_,λk hk=>?_⟩⟩
 ·have h1:=hg.size;have h3:=hq.size;have h4:(w6.setCell ⟨rb,2,none⟩ v6).heap.size=w6.heap.size:=by simp
  omega
 ·rw[st k hr,hg.block k (LV hk hq.size) (λe'=>hn e'.symm),hq.block k hk]
 rcases hat with e'|e'
 ·exact .inl (e'.symm.trans hk)
 have hk:v6.ownBlock=some k:=hk;rw[e']at hk;injection hk with hk
 have:=hq.size;exact .inr (by omega)
end
def GS(w0 w:World)(rb:Nat)(tv:Value)(e:Nat)(l:List Tk)(s:Fl.St)(R:Nat->Prop):Prop:=
 ∃nv dv L,GM w0 w rb tv nv dv e l L s.d/\L.map Ln.nd=s.t/\R=DR dv
section
variable {w0 w w':World}{rb:Nat}{tv:Value}{e:Nat}{l:List Tk}{s:Fl.St}{R:Nat->Prop}
theorem GS.below(h:GS w0 w rb tv e l s R)(hb:Below w.heap.size w w'):GS w0 w' rb tv e l s R:=by
 obtain⟨nv,dv,L,h1,h2,h3⟩:=h;exact⟨nv,dv,L,h1.below hb,h2,h3⟩
theorem GS.kE(h:GS w0 w rb tv e l s R):Below w0.heap.size w0 w:=by
 obtain⟨nv,dv,L,h1,h2,h3⟩:=h;exact h1.kE
theorem GS.far{k o:Nat}{u:Value}{C:Array Value}{T:TypeId}{fr:Nat×Nat}(h:GS w0 w rb tv e l s R)(h0:w0.heap.size<=k)(hb:w.heap[k]?=some (.cells C T fr))(h1:3≠T)(h2:47≠T)(h3:89≠T)(h4:62≠T):GS w0 (w.setCell ⟨k,o,none⟩ u) rb tv e l s R:=by
 obtain⟨nv,dv,L,g1,g2,g3⟩:=h;exact⟨nv,dv,L,g1.far h0 hb h1 h2 h3 h4,g2,g3⟩
theorem GS.off{k:Nat}{C:Array Value}{T:TypeId}{fr:Nat×Nat}(h:GS w0 w rb tv e l s R)(hb:w.heap[k]?=some (.cells C T fr))(h3:89≠T)(h4:62≠T):¬R k/\k≠rb:=by
 obtain⟨nv,dv,L,g1,g2,rfl⟩:=h;refine⟨λhg=>fK g1.told hb h3 hg,?_⟩;rintro rfl;rw[g1.box]at hb;injection hb with hb
 injection hb with _ hT
 exact h4 hT
theorem GS.toks(h:GS w0 w rb tv e l s R):w.cell? ⟨rb,0,none⟩=some tv/\w.cell? ⟨rb,3,none⟩=some (.int .i64 (e:Int))/\Reads iZ w tv l/\e<=l.length/\l.length<=100000:=by
 obtain⟨nv,dv,L,h1,h2⟩:=h;exact⟨h1.cell 0 _ rfl,h1.cell 3 _ rfl,h1.toks.below h1.kE,h1.ends,h1.size⟩
end
def fU(w0 w:World)(rb:Nat)(tv:Value)(e:Nat)(l:List Tk)(R:Nat->Prop)(v:Value)(s:Fl.St)(en:Ending)(w':World):Prop:=
 en=.returned v/\∃R',GS w0 w' rb tv e l s R'/\FP w w' rb R R'
end
section
open Go.RowKit
open Sq
open Fl (Tk raw kd jh cnt ends opens gF gM begins back blanks fq)
namespace Fl
theorem kR{l:List Tk}{i:Nat}{x:Tk}(h:l[i]?=some x):raw l i=x.1:=by unfold raw;rw[h]
theorem QP{l:List Tk}{e i:Nat}{x:Tk}(h:l[i]?=some x)(hi:i<e):kd l e i=if x.1=20\/x.1=21 then 0 else x.1:=by
 unfold kd;rw[kR h];by_cases h2:x.1=20\/x.1=21
 ·rw[eT h2,eT (.inr h2)]
 rw[eQ h2,eQ (λh3=>h3.elim (by omega) h2)]
theorem EI{l:List Tk}{e i:Nat}(hi:e<=i):kd l e i=0:=by unfold kd;rw[eT (.inl hi)]
theorem lq(p:Nat->Bool)(n i:Nat)(h:i<n):jh p (n-i) i=if p i=true then jh p (n-(i+1)) (i+1)else i:=by
 rw[show n-i=(n-(i+1))+1 by omega,jh]
theorem mi(p:Nat->Bool)(n i:Nat)(h:n<=i):jh p (n-i) i=i:=by rw[Nat.sub_eq_zero_of_le h,jh]
theorem yN(l:List Tk)(i m:Nat):back l (i+1) m=if m<i+1/\cnt (raw l i)=false then back l i m else i+1:=rfl
end Fl
abbrev RG(rb:Nat):Value:=.pointer (some ⟨rb,0,none⟩)
structure GT(w:World)(rb:Nat)(tv:Value)(e:Nat)(l:List Tk):Prop where
 cell:w.cell? ⟨rb,0,none⟩=some tv
 last:w.cell? ⟨rb,3,none⟩=some (.int .i64 (e:Int))
 reads:Reads iZ w tv l
 ends:e<=l.length
 size:l.length<=100000
theorem GS.gt{w0 w:World}{rb:Nat}{tv:Value}{e:Nat}{l:List Tk}{s:Fl.St}{R:Nat->Prop}(h:GS w0 w rb tv e l s R):GT w rb tv e l:=⟨h.toks.1,h.toks.2.1,h.toks.2.2.1,h.toks.2.2.2.1,h.toks.2.2.2.2⟩
theorem zz(k:Nat)(w:World):Calls prog 92 #[.int .i64 k] w λe w'=>e=.returned (.bool (opens k))/\w=w':=by
 go_enter func92,ntmps92
 go_wp2;all_goals (go_ret;refine⟨congrArg (λb=>Ending.returned (.bool b)) ?_,rfl⟩)
 all_goals (rw[uj];simp[opens]at*;try omega)
theorem Ec(k:Nat)(w:World):Calls prog 100 #[.int .i64 k] w λe w'=>e=.returned (.bool (ends k))/\w=w':=by
 go_enter func100,ntmps100
 go_wp2;all_goals (go_ret;refine⟨congrArg (λb=>Ending.returned (.bool b)) ?_,rfl⟩)
 all_goals (rw[uj];simp[ends]at*;try omega)
theorem L5(k:Nat)(w:World):Calls prog 42 #[.int .i64 k] w λe w'=>e=.returned (.bool (cnt k))/\w=w':=by
 go_enter func42,ntmps42
 go_wp2;all_goals (go_ret;refine⟨congrArg (λb=>Ending.returned (.bool b)) ?_,rfl⟩)
 all_goals (rw[uj];simp[cnt]at*;try omega)
theorem Iy(k:Nat)(w:World):Calls prog 86 #[.int .i64 k] w λe w'=>e=.returned (.bool (gF k))/\w=w':=by
 go_enter func86,ntmps86
 go_wp2;all_goals (go_ret;refine⟨congrArg (λb=>Ending.returned (.bool b)) ?_,rfl⟩)
 all_goals (rw[uj];simp[gF]at*;try omega)
theorem MV(k:Nat)(w:World):Calls prog 104 #[.int .i64 k] w λe w'=>e=.returned (.bool (begins k))/\w=w':=by
 have h1:=Iy k w;have h2:=zz k w;have e0:begins k=((k==12||k==14)||gF k||opens k||k==18):=rfl;rw[e0];obtain⟨a,ha⟩:=eX (gF k);obtain⟨b,hb⟩:=eX (opens k);rw[ha]at h1⊢;rw[hb]at h2⊢;obtain⟨H1,H2⟩:=fD h1 h2;clear h1 h2 ha hb e0;by_cases q1:k=12
 ·subst q1
  go_enter func104,ntmps104
  go_wp2_with fail
  go_ret;exact⟨rfl,rfl⟩
 by_cases q2:k=14
 ·subst q2
  go_enter func104,ntmps104
  go_wp2_with fail
  go_ret;exact⟨rfl,rfl⟩
 have g1:((k:Int)==12)=false:=by simp;omega
 have g2:((k:Int)==14)=false:=by simp;omega
 have g3:(k==12||k==14)=false:=by simp;omega
 rw[g3]
 go_enter func104,ntmps104
 cases a<;>cases b
 ·go_wp2_with (first|(refine H1.out.mono ?_;rintro e w1 ⟨rfl,rfl⟩)|(refine H2.out.mono ?_;rintro e w1 ⟨rfl,rfl⟩))
  go_ret;refine⟨congrArg (λb=>Ending.returned (.bool b)) ?_,rfl⟩;rw[uj];simp;try omega
 all_goals
  go_wp2_with (first|(refine H1.out.mono ?_;rintro e w1 ⟨rfl,rfl⟩)|(refine H2.out.mono ?_;rintro e w1 ⟨rfl,rfl⟩))
  go_ret;exact⟨rfl,rfl⟩
theorem yA(rb:Nat)(tv:Value)(e:Nat)(l:List Tk)(i:Nat)(w:World)(h:GT w rb tv e l):
 Calls prog 90 #[RG rb,.int .i64 i] w λen w'=>en=.returned (.int .i64 (kd l e i:Nat))/\w=w':=by
 obtain⟨c0,c3,hr,he,hs⟩:=h;obtain⟨a,cap,rfl⟩:=hr.shape;by_cases hi:i<e
 ·obtain⟨x,hx⟩:=iT l i (by omega);rw[Fl.QP hx hi];obtain⟨b,off,rfl,t0,-,-⟩:=iG hr i x hx;obtain⟨N,hN⟩:=eX (l.length);obtain⟨K,hK⟩:=eX (x.1);rw[hN]at c0 he hs;rw[hK]at t0⊢;have g:¬((e:Int)<=(i:Int)):=by omega
  have gi:(i:Int)<(N:Int):=by omega
  clear hr hx hN hK hi;by_cases q1:K=20
  ·subst q1;rw[eT (.inl rfl)]
   go_enter func90,ntmps90
   go_wp2_with fail
   go_ret;exact⟨rfl,rfl⟩
  by_cases q2:K=21
  ·subst q2;rw[eT (.inr rfl)]
   go_enter func90,ntmps90
   go_wp2_with fail
   go_ret;exact⟨rfl,rfl⟩
  rw[eQ (λh=>h.elim q1 q2)];have g1:((K:Int)==20)=false:=by simp;omega
  have g2:((K:Int)==21)=false:=by simp;omega
  go_enter func90,ntmps90
  go_wp2_with fail
  go_ret;exact⟨rfl,rfl⟩
 rw[Fl.EI (by omega)];have g:(e:Int)<=(i:Int):=by omega
 clear hr hi
 go_enter func90,ntmps90
 go_wp2_with fail
 go_ret;exact⟨rfl,rfl⟩
theorem EJ(rb:Nat)(tv:Value)(e:Nat)(l:List Tk)(i:Nat)(w:World)(h:GT w rb tv e l)(hi2:i<=200000):
 Calls prog 89 #[RG rb,.int .i64 i] w λen w'=>en=.returned (.int .i64 (blanks l e i:Nat))/\w=w':=by
 obtain⟨c0,c3,hr,he,hs⟩:=h;obtain⟨a,cap,rfl⟩:=hr.shape;obtain⟨P,hP⟩:∃P:Nat->Bool,(λj=>raw l j==3)=P:=⟨_,rfl⟩
 have HX:=eu (λi (x:Tk)(hi:l[i]?=some x)=>show(x.1==3)=P i by rw[<-hP];show _=(raw l i==3);rw[Fl.kR hi]);have H:=eu (λj x (hj:l[j]?=some x)=>iG hr j x hj);obtain⟨T,hT⟩:=eX (blanks l e i);rw[hT];unfold blanks at hT;rw[hP]at hT;have HT:=eu hT;obtain⟨N,hN⟩:=eX (l.length);have HN:=eu hN;rw[hN]at hs c0 he;clear hr hN hT hP
 go_enter func89,ntmps89
 go_wp2_with fail
 go_loopw [1] (λiv wr=>∃k:Nat,iv=.int .i64 k/\k<=200000/\Hid (jh P (e-k) k=T)/\w=wr) (λiv _=>e-(intOf iv).toNat)
 case atStart=>exact⟨i,rfl,hi2,HT,rfl⟩
 case round=>
  obtain⟨k,rfl,hk,aa,rfl⟩:=hrel;by_cases hlt:k<e
  ·obtain⟨x,hx⟩:=iT l k (by rw[HN.out];omega);have ae:=HX.out k x hx;obtain⟨b,off,rfl,t0,-,-⟩:=H.out k x hx;have hst:=Fl.lq P e k hlt;obtain⟨K,hK⟩:=eX (x.1);rw[hK]at t0 ae;have gp:(k:Int)<(e:Int):=by omega
   have gi:(k:Int)<(N:Int):=by omega
   by_cases q:K=3
   ·subst q;have q:P k=true:=by rw[<-ae];rfl
    rw[eT q]at hst;have af:=eu (show jh P (e-(k+1)) (k+1)=T by rw[<-aa.out];exact hst.symm);clear hst hx hK q H HX aa HT ae;go_wp2_with fail
    go_roundw
    case rel=>exact⟨k+1,by go_num,by omega,af,trivial⟩
    case measure=>simp[intOf];omega
   have q0:P k=false:=by rw[<-ae];simpa using q
   rw[eQ (by rw[q0];decide)]at hst;obtain rfl:T=k:=by rw[<-aa.out];exact hst
   have g1:((K:Int)==3)=false:=by simp;omega
   clear hst hx hK q q0 H HX aa HT ae;go_wp2_with fail
   go_ret;exact⟨rfl,rfl⟩
  have hst:=Fl.mi P e k (by omega);obtain rfl:T=k:=by rw[<-aa.out];exact hst
  have gp:¬(T:Int)<(e:Int):=by omega
  clear H HX aa HT hlt hst;go_wp2_with fail
  go_ret;exact⟨rfl,rfl⟩
theorem zT(rb:Nat)(tv:Value)(e:Nat)(l:List Tk)(i:Nat)(w:World)(h:GT w rb tv e l)(hi2:i<=200000):
 Calls prog 101 #[RG rb,.int .i64 i] w λen w'=>en=.returned (.int .i64 (fq l e i:Nat))/\w=w':=by
 obtain⟨c0,c3,hr,he,hs⟩:=h;obtain⟨a,cap,rfl⟩:=hr.shape;obtain⟨P,hP⟩:∃P:Nat->Bool,(λj=>!cnt (raw l j))=P:=⟨_,rfl⟩
 have HX:=eu (λi (x:Tk)(hi:l[i]?=some x)=>show(!cnt x.1)=P i by rw[<-hP];show _=(!cnt (raw l i));rw[Fl.kR hi]);have H:=eu (λj x (hj:l[j]?=some x)=>iG hr j x hj);have HC:=eu (λk=>L5 k w);obtain⟨T,hT⟩:=eX (fq l e i);rw[hT];unfold fq at hT;rw[hP]at hT;have HT:=eu hT;obtain⟨N,hN⟩:=eX (l.length);have HN:=eu hN;rw[hN]at hs c0 he;clear hr hN hT hP
 go_enter func101,ntmps101
 go_wp2_with fail
 go_loopw [1] (λiv wr=>∃k:Nat,iv=.int .i64 k/\k<=200000/\Hid (jh P (e-k) k=T)/\w=wr) (λiv _=>e-(intOf iv).toNat)
 case atStart=>exact⟨i,rfl,hi2,HT,rfl⟩
 case round=>
  obtain⟨k,rfl,hk,ae,rfl⟩:=hrel;by_cases hlt:k<e
  ·obtain⟨x,hx⟩:=iT l k (by rw[HN.out];omega);have aa:=HX.out k x hx;obtain⟨b,off,rfl,t0,-,-⟩:=H.out k x hx;have hst:=Fl.lq P e k hlt;obtain⟨K,hK⟩:=eX (x.1);rw[hK]at t0 aa;have hcl:=HC.out K;have gp:(k:Int)<(e:Int):=by omega
   have gi:(k:Int)<(N:Int):=by omega
   cases q:cnt K with
   |false=>
    rw[q]at hcl aa;rw[eT (show P k=true from aa.symm)]at hst;have ag:=eu (show jh P (e-(k+1)) (k+1)=T by rw[<-ae.out];exact hst.symm);have af:=eu hcl;clear hst hx hK q H HX ae HT aa hcl HC;go_wp2_with (refine af.out.mono ?_;rintro e w1 ⟨rfl,rfl⟩)
    go_roundw
    case rel=>exact⟨k+1,by go_num,by omega,ag,trivial⟩
    case measure=>simp[intOf];omega
   |true=>
    rw[q]at hcl aa;rw[eQ (by rw[<-aa];decide)]at hst;obtain rfl:T=k:=by rw[<-ae.out];exact hst
    have af:=eu hcl;clear hst hx hK q H HX ae HT aa hcl HC;go_wp2_with (refine af.out.mono ?_;rintro e w1 ⟨rfl,rfl⟩)
    go_ret;exact⟨rfl,rfl⟩
  have hst:=Fl.mi P e k (by omega);obtain rfl:T=k:=by rw[<-ae.out];exact hst
  have gp:¬(T:Int)<(e:Int):=by omega
  clear H HX ae HT hlt hst HC;go_wp2_with fail
  go_ret;exact⟨rfl,rfl⟩
theorem Ed(rb:Nat)(tv:Value)(e:Nat)(l:List Tk)(i m:Nat)(w:World)(h:GT w rb tv e l)(hi:i<=l.length)(hm:m<=200000):
 Calls prog 95 #[RG rb,.int .i64 i,.int .i64 m] w λen w'=>en=.returned (.int .i64 (back l i m:Nat))/\w=w':=by
 obtain⟨c0,c3,hr,he,hs⟩:=h;obtain⟨a,cap,rfl⟩:=hr.shape;have HX:=eu (λi (x:Tk)(hi:l[i]?=some x)=>Fl.kR hi);have HB:=eu (λi=>Fl.yN l i m);have H:=eu (λj x (hj:l[j]?=some x)=>iG hr j x hj);have HC:=eu (λk=>L5 k w);have H0:=eu (show back l 0 m=0 from rfl);obtain⟨T,hT⟩:=eX (back l i m);rw[hT];have HT:=eu hT;obtain⟨N,hN⟩:=eX (l.length);have HN:=eu hN;rw[hN]at hs c0 he hi;clear hr hN hT c3
 go_enter func95,ntmps95
 go_wp2_with fail
 go_loopw [1] (λiv wr=>∃k:Nat,iv=.int .i64 k/\k<=N/\Hid (back l k m=T)/\w=wr) (λiv _=>(intOf iv).toNat)
 case atStart=>exact⟨i,rfl,hi,HT,rfl⟩
 case round=>
  obtain⟨k,rfl,hk,aa,rfl⟩:=hrel;by_cases hlt:m<k
  ·obtain⟨j,rfl⟩:∃j,k=j+1:=⟨k-1,by omega⟩
   obtain⟨x,hx⟩:=iT l j (by rw[HN.out];omega);have ae:=HX.out j x hx;obtain⟨b,off,rfl,t0,-,-⟩:=H.out j x hx;have hst:=HB.out j;obtain⟨K,hK⟩:=eX (x.1);rw[hK]at t0 ae;rw[ae]at hst;have hcl:=HC.out K;have gp:(m:Int)<((j+1:Nat):Int):=by omega
   have gi:(j:Int)<(N:Int):=by omega
   have gw:IntKind.i64.wrap (((j+1:Nat):Int)-1)=(j:Int):=by
    rw[show((j+1:Nat):Int)-1=(j:Int)by omega];exact jC _ (by omega)
   cases q:cnt K with
   |false=>
    rw[q]at hcl hst;rw[eT ⟨hlt,rfl⟩]at hst;have ag:=eu (show back l j m=T by rw[<-aa.out];exact hst.symm);have af:=eu hcl;clear hst hx hK q H HX aa HT ae hcl HC HB H0;go_wp2_with (refine af.out.mono ?_;rintro e w1 ⟨rfl,rfl⟩)
    go_roundw
    case rel=>exact⟨j,by go_num,by omega,ag,trivial⟩
    case measure=>simp[intOf]
   |true=>
    rw[q]at hcl hst;rw[eQ (λh=>by cases h.2)]at hst;obtain rfl:T=j+1:=by rw[<-aa.out];exact hst
    have af:=eu hcl;clear hst hx hK q H HX aa HT ae hcl HC HB H0;go_wp2_with (refine af.out.mono ?_;rintro e w1 ⟨rfl,rfl⟩)
    go_ret;exact⟨rfl,rfl⟩
  obtain rfl:T=k:=by
   rw[<-aa.out];cases k with
   |zero=>exact H0.out
   |succ j=>rw[HB.out j,eQ (λh=>hlt h.1)]
  have gp:¬(m:Int)<(T:Int):=by omega
  clear H HX aa HT hlt HC HB H0;go_wp2_with fail
  go_ret;exact⟨rfl,rfl⟩
end
section
open Go.RowKit
open Sq
open Fl (Tk raw kd jh cnt ends opens gF gM begins back blanks fq u6 balanced kQ jr key props text step)
namespace Fl
theorem Bh{k:Nat}(h:opens k=true):ends k=false:=by unfold opens at h;unfold ends;simp at h⊢;omega
theorem I9{k n:Nat}(h:opens k=true):step k n=n+1:=by unfold step;rw[eT h]
theorem Ja{k n:Nat}(h1:opens k=false)(h2:ends k=true):step k n=n-1:=by unfold step;rw[h1,h2];rfl
theorem CU{k n:Nat}(h1:opens k=false)(h2:ends k=false):step k n=n:=by unfold step;rw[h1,h2];rfl
theorem wh{l:List Tk}{e i:Nat}(h:kd l e i≠0):i<e:=by
 by_cases hi:i<e
 ·exact hi
 exact absurd (EI (by omega)) h
theorem yO(l:List Tk)(e g j n:Nat):u6 l e (g+1) j n=if kd l e j=0 then none else if step (kd l e j) n=0 then some (j+1)else u6 l e g (j+1) (step (kd l e j) n):=rfl
theorem JS(l:List Tk)(e g j n:Nat)(h:kd l e j=0):u6 l e g j n=none:=by
 cases g with
 |zero=>rfl
 |succ g=>rw[yO,eT h]
theorem vv(l:List Tk)(e g j n:Nat):kQ l e (g+1) j n=if kd l e j=0 then j else if n=0/\(kd l e j=7\/ends (kd l e j)=true)then j else kQ l e g (j+1) (step (kd l e j) n):=rfl
theorem Du(l:List Tk)(e g j n:Nat)(h:kd l e j=0):kQ l e g j n=j:=by
 cases g with
 |zero=>rfl
 |succ g=>rw[vv,eT h]
theorem xG(l:List Tk)(e g i:Nat):props l e (g+1) i=if gM (kd l e i)=true then props l e g (fq l e (i+1))else i:=rfl
theorem Gi(l:List Tk)(e g i:Nat)(h:gM (kd l e i)=false):props l e g i=i:=by
 cases g with
 |zero=>rfl
 |succ g=>rw[xG,eQ (by rw[h];decide)]
end Fl
theorem yP(rb:Nat)(tv:Value)(e:Nat)(l:List Tk)(i:Nat)(w:World)(h:GT w rb tv e l)(ho:opens (kd l e i)=true):
 Calls prog 93 #[RG rb,.int .i64 i] w λen w'=>en=.returned (.int .i64 (balanced l e i:Nat))/\w=w':=by
 have hie:i<e:=Fl.wh (λh0=>by rw[h0]at ho;exact absurd ho (by decide))
 have hes:e<=100000:=jN h.ends h.size;obtain⟨T,hT⟩:=eX (balanced l e i);obtain⟨B,hB⟩:=eX (u6 l e (e-i) i 0);obtain⟨J,hJ⟩:=eX (jh (λj=>kd l e j !=0) (e-i) i);have HJ:=eu hJ;rw[hT];unfold balanced at hT;rw[hB,hJ]at hT;obtain⟨HT,HB0⟩:=fD hT hB;have HK:=eu (λj=>yA rb tv e l j w h);have ah:=eu (λj (hj:j<=l.length)=>show Calls prog 95 #[RG rb,.int .i64 j,.int .i64 ((i:Int)+1)] w λen w'=>en=.returned (.int .i64 (back l j (i+1):Nat))/\w=w' from by have h1:=Ed rb tv e l j (i+1) w h hj (by omega);rw[show((i+1:Nat):Int)=(i:Int)+1 from by omega]at h1;exact h1);have ai:=eu (λk=>zz k w);have aj:=eu (λk=>Ec k w);have HO:=eu ho;have hend:=h.ends;obtain⟨N,hN⟩:=eX (l.length);rw[hN]at hend;have HN:=eu hN;clear h ho hT hB hJ hN
 go_enter func93,ntmps93
 go_wp2_with fail
 go_loopw [5,6] (λnv jv wr=>∃n j g:Nat,nv=.int .i64 n/\jv=.int .i64 j/\j<=e/\n<=j/\Hid (e<=g+j)/\Hid (u6 l e g j n=B)/\Hid (1<=n\/opens (kd l e j)=true)/\w=wr) (λ_ jv _=>e-(intOf jv).toNat)
 case atStart=>exact⟨0,i,e-i,rfl,rfl,by omega,gG _,eu (by omega),HB0,eu (.inr HO.out),rfl⟩
 case round=>
  obtain⟨n,j,g,rfl,rfl,hj,av,HG,HB,ae,rfl⟩:=hrel;have hk:=HK.out j;obtain⟨K,hK⟩:=eX (kd l e j);rw[hK]at hk;have aa:=eu hk;by_cases q0:K=0
  ·subst q0;have hb:=HB.out;rw[Fl.JS l e g j n hK]at hb;subst hb;have ht:=HT.out;have HT2:=eu (show back l J (i+1)=T from ht);clear hk hK HB ae HG HB0 HT ht HO av;go_wp2_with (with_reducible refine aa.out.mono ?_;rintro e w1 ⟨rfl,rfl⟩)
   clear aa
   go_loopw [7] (λjv wr=>∃k:Nat,jv=.int .i64 k/\k<=e/\Hid (jh (λj=>kd l e j !=0) (e-k) k=J)/\w=wr) (λjv _=>e-(intOf jv).toNat)
   case atStart=>exact⟨i,rfl,by omega,HJ,rfl⟩
   case round=>
    obtain⟨k,rfl,hk2,HJ2,rfl⟩:=hrel;have hk:=HK.out k;obtain⟨K,hK⟩:=eX (kd l e k);rw[hK]at hk;have aa:=eu hk;by_cases q1:K=0
    ·subst q1;have ax:J=k:=by
      rw[<-HJ2.out];by_cases hke:k<e
      ·rw[Fl.lq _ _ _ hke,eQ (by rw[hK];decide)]
      exact Fl.mi _ _ _ (by omega)
     subst ax;have hbk:=ah.out J (by rw[HN.out];omega);rw[HT2.out]at hbk;have ay:=eu hbk;clear hk hK hbk HJ2;go_wp2_with (first|(with_reducible refine aa.out.mono ?_;rintro e w1 ⟨rfl,rfl⟩)|(refine ay.out.mono ?_;rintro e w1 ⟨rfl,rfl⟩))
     go_ret;exact⟨rfl,rfl⟩
    have hke:=Fl.wh (l:=l) (e:=e) (i:=k) (by rw[hK];exact q1);have hst:=Fl.lq (λj=>kd l e j !=0) e k hke;rw[eT (by rw[hK];simpa using q1)]at hst;have az:=eu (show jh (λj=>kd l e j !=0) (e-(k+1)) (k+1)=J by rw[<-hst];exact HJ2.out);have gk:(0:Int)<(K:Int):=by omega
    clear hk hK hst q1 HJ2;go_wp2_with (with_reducible refine aa.out.mono ?_;rintro e w1 ⟨rfl,rfl⟩)
    go_roundw
    case rel=>exact⟨k+1,by go_num,by omega,az,trivial⟩
    case measure=>simp[intOf];omega
  have aA:=Fl.wh (l:=l) (e:=e) (i:=j) (by rw[hK];exact q0);have hg1:=HG.out;obtain⟨g',rfl⟩:∃g',g=g'+1:=⟨g-1,by omega⟩
  have hb:=HB.out;rw[Fl.yO,hK,eQ q0]at hb;have gk:(0:Int)<(K:Int):=by omega
  have ho:=ai.out K;have hn:=aj.out K;have hn1:=ae.out;rw[hK]at hn1;cases c1:opens K with
  |true=>
   have c2:=Fl.Bh c1;rw[c1]at ho;rw[c2]at hn;rw[Fl.I9 c1,eQ (by omega)]at hb;obtain⟨af,ag,HB2⟩:=gW ho hn hb;have ak:=eu (show e<=g'+(j+1)by omega);have gn:((((n:Int)+1))==0)=false:=by simp;omega
   clear hk hK hb ho hn hn1 c1 c2 hg1 HG HB ae HB0 HT HO q0 HK ah ai aj HJ;go_wp2_with (first|(with_reducible refine aa.out.mono ?_;rintro e w1 ⟨rfl,rfl⟩)|(with_reducible refine af.out.mono ?_;rintro e w1 ⟨rfl,rfl⟩)|(with_reducible refine ag.out.mono ?_;rintro e w1 ⟨rfl,rfl⟩))
   go_roundw
   case rel=>exact⟨n+1,j+1,g',by go_num,by go_num,by omega,by omega,ak,HB2,eu (.inl (by omega)),trivial⟩
   case measure=>simp[intOf];omega
  |false=>
   rw[c1]at ho hn1;have hn0:1<=n:=hn1.resolve_right (by decide);cases c2:ends K with
   |true=>
    rw[c2]at hn;rw[Fl.Ja c1 c2]at hb;obtain⟨af,ag⟩:=fD ho hn;by_cases c3:n=1
    ·subst c3;rw[eT (show 1-1=0 from rfl)]at hb;subst hb;have ht:=HT.out;have ht:j+1=T:=ht;subst ht;clear hk hK ho hn hn1 c1 c2 hg1 HG HB ae HB0 HT HO q0 HK ah ai aj HJ;go_wp2_with (first|(with_reducible refine aa.out.mono ?_;rintro e w1 ⟨rfl,rfl⟩)|(with_reducible refine af.out.mono ?_;rintro e w1 ⟨rfl,rfl⟩)|(with_reducible refine ag.out.mono ?_;rintro e w1 ⟨rfl,rfl⟩))
     go_ret;exact⟨rfl,rfl⟩
    obtain⟨m,rfl⟩:∃m,n=m+1:=⟨n-1,by omega⟩
    rw[lJ,eQ (by omega)]at hb;have HB2:=eu hb;have ak:=eu (show e<=g'+(j+1)by omega);have gw:IntKind.i64.wrap (((m+1:Nat):Int)-1)=(m:Int):=by
     rw[show((m+1:Nat):Int)-1=(m:Int)by omega];exact jC _ (by omega)
    have gn:((m:Int)==0)=false:=by simp;omega
    clear hk hK hb ho hn hn1 c1 c2 hg1 HG HB ae HB0 HT HO q0 HK ah ai aj HJ;go_wp2_with (first|(with_reducible refine aa.out.mono ?_;rintro e w1 ⟨rfl,rfl⟩)|(with_reducible refine af.out.mono ?_;rintro e w1 ⟨rfl,rfl⟩)|(with_reducible refine ag.out.mono ?_;rintro e w1 ⟨rfl,rfl⟩))
    go_roundw
    case rel=>exact⟨m,j+1,g',by go_num,by go_num,by omega,by omega,ak,HB2,eu (.inl (by omega)),trivial⟩
    case measure=>simp[intOf];omega
   |false=>
    rw[c2]at hn;rw[Fl.CU c1 c2,eQ (by omega)]at hb;obtain⟨af,ag,HB2⟩:=gW ho hn hb;have ak:=eu (show e<=g'+(j+1)by omega);have gn:((n:Int)==0)=false:=by simp;omega
    clear hk hK hb ho hn hn1 c1 c2 hg1 HG HB ae HB0 HT HO q0 HK ah ai aj HJ;go_wp2_with (first|(with_reducible refine aa.out.mono ?_;rintro e w1 ⟨rfl,rfl⟩)|(with_reducible refine af.out.mono ?_;rintro e w1 ⟨rfl,rfl⟩)|(with_reducible refine ag.out.mono ?_;rintro e w1 ⟨rfl,rfl⟩))
    go_roundw
    case rel=>exact⟨n,j+1,g',by go_num,by go_num,by omega,by omega,ak,HB2,eu (.inl hn0),trivial⟩
    case measure=>simp[intOf];omega
end
section
open Go.RowKit
open Sq
open Fl (Tk raw kd jh cnt ends opens gF gM begins back blanks fq kQ jr key props text)
theorem Py(rb:Nat)(tv:Value)(e:Nat)(l:List Tk)(i:Nat)(w:World)(h:GT w rb tv e l)(hie:i<=e):
 Calls prog 102 #[RG rb,.int .i64 i] w λen w'=>en=.returned (.int .i64 (jr l e i:Nat))/\w=w':=by
 have hes:e<=100000:=jN h.ends h.size;obtain⟨T,hT⟩:=eX (jr l e i);obtain⟨B,hB⟩:=eX (kQ l e (e-i) i 0);rw[hT];unfold jr at hT;rw[hB]at hT;have HB0:=eu hB;have HK:=eu (λj=>yA rb tv e l j w h);have aa:=eu (fun(hj:B<=l.length)=>show Calls prog 95 #[RG rb,.int .i64 B,.int .i64 ((i:Int)+1)] w λen w'=>en=.returned (.int .i64 (T:Nat))/\w=w' from by have h1:=Ed rb tv e l B (i+1) w h hj (by omega);rw[show((i+1:Nat):Int)=(i:Int)+1 from by omega,hT]at h1;exact h1);have ai:=eu (λk=>zz k w);have aj:=eu (λk=>Ec k w);have hend:=h.ends;obtain⟨N,hN⟩:=eX (l.length);rw[hN]at hend;have HN:=eu hN;clear h hT hB hN
 go_enter func102,ntmps102
 go_wp2_with fail
 go_loopw [5,6] (λnv jv wr=>∃n j g:Nat,nv=.int .i64 n/\jv=.int .i64 j/\j<=e/\n<=j/\Hid (e<=g+j)/\Hid (kQ l e g j n=B)/\w=wr) (λ_ jv _=>e-(intOf jv).toNat)
 case atStart=>exact⟨0,i,e-i,rfl,rfl,hie,gG _,eu (by omega),HB0,rfl⟩
 case round=>
  obtain⟨n,j,g,rfl,rfl,hj,av,HG,HB,rfl⟩:=hrel;have hk:=HK.out j;obtain⟨K,hK⟩:=eX (kd l e j);rw[hK]at hk;have af:=eu hk;by_cases q0:K=0
  ·subst q0;have hb:=HB.out;rw[Fl.Du l e g j n hK]at hb;subst hb;have ak:=eu (aa.out (by rw[HN.out];omega));clear hk hK HB HG HB0 av aa;go_wp2_with (first|(with_reducible refine af.out.mono ?_;rintro e w1 ⟨rfl,rfl⟩)|(with_reducible refine ak.out.mono ?_;rintro e w1 ⟨rfl,rfl⟩))
   go_ret;exact⟨rfl,rfl⟩
  have ax:=Fl.wh (l:=l) (e:=e) (i:=j) (by rw[hK];exact q0);have hg1:=HG.out;obtain⟨g',rfl⟩:∃g',g=g'+1:=⟨g-1,by omega⟩
  have hb:=HB.out;rw[Fl.vv,hK,eQ q0]at hb;have gk:(0:Int)<(K:Int):=by omega
  have ho:=ai.out K;have hn:=aj.out K;have ah:=eu (show e<=g'+(j+1)by omega);by_cases q7:K=7
  ·have c1:opens K=false:=by rw[q7];rfl
   have c2:ends K=false:=by rw[q7];rfl
   have g7:((K:Int)==7)=true:=by simp;omega
   rw[c1]at ho;rw[c2]at hn;obtain⟨ag,ae⟩:=fD ho hn;by_cases c3:n=0
   ·subst c3;rw[eT ⟨rfl,.inl q7⟩]at hb;subst hb;have ak:=eu (aa.out (by rw[HN.out];omega));clear hk hK ho hn hg1 HG HB HB0 av aa ah HK ai aj c1 c2 q0 q7;go_wp2_with (first|(with_reducible refine af.out.mono ?_;rintro e w1 ⟨rfl,rfl⟩)|(with_reducible refine ak.out.mono ?_;rintro e w1 ⟨rfl,rfl⟩))
    go_ret;exact⟨rfl,rfl⟩
   rw[eQ (λh=>c3 h.1),Fl.CU c1 c2]at hb;have HB2:=eu hb;have gn:((n:Int)==0)=false:=by simp;omega
   clear hk hK hb ho hn hg1 HG HB HB0 aa HK ai aj c1 c2 q0 c3 q7;go_wp2_with (first|(with_reducible refine af.out.mono ?_;rintro e w1 ⟨rfl,rfl⟩)|(with_reducible refine ag.out.mono ?_;rintro e w1 ⟨rfl,rfl⟩)|(with_reducible refine ae.out.mono ?_;rintro e w1 ⟨rfl,rfl⟩))
   go_roundw
   case rel=>exact⟨n,j+1,g',by go_num,by go_num,by omega,by omega,ah,HB2,trivial⟩
   case measure=>simp[intOf];omega
  have g7:((K:Int)==7)=false:=by simp;omega
  cases c1:opens K with
  |true=>
   have c2:=Fl.Bh c1;rw[c1]at ho;rw[c2]at hn;rw[eQ (λh=>h.2.elim q7 (by rw[c2];decide)),Fl.I9 c1]at hb;obtain⟨ag,ae,HB2⟩:=gW ho hn hb;clear hk hK hb ho hn c1 c2 hg1 HG HB HB0 q0 HK aa ai aj q7;by_cases c3:n=0
   ·subst c3;go_wp2_with (first|(with_reducible refine af.out.mono ?_;rintro e w1 ⟨rfl,rfl⟩)|(with_reducible refine ag.out.mono ?_;rintro e w1 ⟨rfl,rfl⟩)|(with_reducible refine ae.out.mono ?_;rintro e w1 ⟨rfl,rfl⟩))
    go_roundw
    case rel=>exact⟨0+1,j+1,g',by go_num,by go_num,by omega,by omega,ah,HB2,trivial⟩
    case measure=>simp[intOf];omega
   have gn:((n:Int)==0)=false:=by simp;omega
   go_wp2_with (first|(with_reducible refine af.out.mono ?_;rintro e w1 ⟨rfl,rfl⟩)|(with_reducible refine ag.out.mono ?_;rintro e w1 ⟨rfl,rfl⟩)|(with_reducible refine ae.out.mono ?_;rintro e w1 ⟨rfl,rfl⟩))
   go_roundw
   case rel=>exact⟨n+1,j+1,g',by go_num,by go_num,by omega,by omega,ah,HB2,trivial⟩
   case measure=>simp[intOf];omega
  |false=>
   rw[c1]at ho;cases c2:ends K with
   |true=>
    rw[c2]at hn;obtain⟨ag,ae⟩:=fD ho hn;by_cases c3:n=0
    ·subst c3;rw[eT ⟨rfl,.inr c2⟩]at hb;subst hb;have ak:=eu (aa.out (by rw[HN.out];omega));clear hk hK ho hn c1 c2 hg1 HG HB HB0 q0 HK aa ai aj av ah q7;go_wp2_with (first|(with_reducible refine af.out.mono ?_;rintro e w1 ⟨rfl,rfl⟩)|(with_reducible refine ae.out.mono ?_;rintro e w1 ⟨rfl,rfl⟩)|(with_reducible refine ak.out.mono ?_;rintro e w1 ⟨rfl,rfl⟩))
     go_ret;exact⟨rfl,rfl⟩
    obtain⟨m,rfl⟩:∃m,n=m+1:=⟨n-1,by omega⟩
    rw[eQ (λh=>c3 h.1),Fl.Ja c1 c2,lJ]at hb;have HB2:=eu hb;have gw:IntKind.i64.wrap (((m+1:Nat):Int)-1)=(m:Int):=by
     rw[show((m+1:Nat):Int)-1=(m:Int)by omega];exact jC _ (by omega)
    have gn:(((m+1:Nat):Int)==0)=false:=by simp;omega
    clear hk hK hb ho hn c1 c2 hg1 HG HB HB0 q0 HK aa ai aj c3 q7;go_wp2_with (first|(with_reducible refine af.out.mono ?_;rintro e w1 ⟨rfl,rfl⟩)|(with_reducible refine ag.out.mono ?_;rintro e w1 ⟨rfl,rfl⟩)|(with_reducible refine ae.out.mono ?_;rintro e w1 ⟨rfl,rfl⟩))
    go_roundw
    case rel=>exact⟨m,j+1,g',by go_num,by go_num,by omega,by omega,ah,HB2,trivial⟩
    case measure=>simp[intOf];omega
   |false=>
    rw[c2]at hn;rw[eQ (λh=>h.2.elim q7 (by rw[c2];decide)),Fl.CU c1 c2]at hb;obtain⟨ag,ae,HB2⟩:=gW ho hn hb;clear hk hK hb ho hn c1 c2 hg1 HG HB HB0 q0 HK aa ai aj q7;by_cases c3:n=0
    ·subst c3;go_wp2_with (first|(with_reducible refine af.out.mono ?_;rintro e w1 ⟨rfl,rfl⟩)|(with_reducible refine ag.out.mono ?_;rintro e w1 ⟨rfl,rfl⟩)|(with_reducible refine ae.out.mono ?_;rintro e w1 ⟨rfl,rfl⟩))
     go_roundw
     case rel=>exact⟨0,j+1,g',by go_num,by go_num,by omega,by omega,ah,HB2,trivial⟩
     case measure=>simp[intOf];omega
    have gn:((n:Int)==0)=false:=by simp;omega
    go_wp2_with (first|(with_reducible refine af.out.mono ?_;rintro e w1 ⟨rfl,rfl⟩)|(with_reducible refine ag.out.mono ?_;rintro e w1 ⟨rfl,rfl⟩)|(with_reducible refine ae.out.mono ?_;rintro e w1 ⟨rfl,rfl⟩))
    go_roundw
    case rel=>exact⟨n,j+1,g',by go_num,by go_num,by omega,by omega,ah,HB2,trivial⟩
    case measure=>simp[intOf];omega
end
end Go.Proofs.YtfbiffdmhcjhbaaGreat

import Derived.Test.YtmkkdjpebbdikaaGreatDoorZn11
set_option linter.all false
set_option maxHeartbeats 16000000
set_option maxRecDepth 100000
namespace Go.Proofs.YtmkkdjpebbdikaaGreatDoor
open Go.RowKit Go.Proofs.Tryz
namespace Rw
theorem Ad(op k:Nat):Sc.opens op k<=op+1:=by
 unfold Sc.opens;split<;>(try split)<;>(try split)<;>omega
theorem Ky(ts:List Tk):∀op,nG op ts<=op+ts.length:=by
 induction ts with
 |nil=>intro op;exact fB _
 |cons x r ih=>
  intro op;have h1:=Ad op x.1;have h2:=ih (Sc.opens op x.1);show nG (Sc.opens op x.1) r<=_;rw[jh];omega
theorem Mr(op:Nat)(ts:List Tk)(k:Nat)(x:Tk)(h:ts[k]?=some x):nG op (ts.take (k+1))=Sc.opens (nG op (ts.take k)) x.1:=by
 rw[Hu,h];exact K7 _ _ _
end Rw
section
open Go.RowKit
open Sg
open Sq
theorem grownBy_trans{a b c:World}{r:Option Nat}(h1:a.grownBy b r)(h2:b.grownBy c r):a.grownBy c r:=
 ⟨h2.os.trans h1.os,h2.tape.trans h1.tape,h2.output.trans h1.output,jU h1.size h2.size,λk hk hne=>(h2.block k (wC hk h1.size) hne).trans (h1.block k hk hne)⟩
theorem grownBy_set(W:World)(b:Nat)(v:Value):W.grownBy (W.setCell ⟨b,0,none⟩ v) (some b):=
 ⟨rfl,rfl,rfl,by simp[World.setCell],λk _ hk=>jf _ _ _ k (λe=>hk (by rw[e]))⟩
theorem jS{w wr:World}{p:Nat}{c:Value}{t:TypeId}(o:Obj)(hp:wr.heap[p]?=some (.cells #[c] t (0,0)))(hg:w.grownBy wr (some p)):
 (wr.alloc o).heap[p]?=some (.cells #[c] t (0,0))/\w.grownBy (wr.alloc o) (some p):=
 ⟨(Df _ _ _ (il hp)).trans hp,grownBy_trans hg (World.grownBy_alloc _ _ _)⟩
theorem uR{w wr:World}{p:Nat}{c u:Value}{t:TypeId}(hp:wr.heap[p]?=some (.cells #[c] t (0,0)))(hg:w.grownBy wr (some p)):
 (wr.setCell ⟨p,0,none⟩ u).heap[p]?=some (.cells #[u] t (0,0))/\w.grownBy (wr.setCell ⟨p,0,none⟩ u) (some p):=
 ⟨Ic hp,grownBy_trans hg (grownBy_set _ _ _)⟩
theorem Bo{w w':World}{p:Nat}{c v:Value}{t:TypeId}{ts:List Tk}(h:Reads iU w v ts)(hp:w.heap[p]?=some (.cells #[c] t (0,0)))(hg:w.grownBy w' (some p)):Reads iU w' v ts:=by
 rcases h with h|⟨b,off,cap,h1,h2,h3,h4⟩
 ·exact .inl h
 refine .inr ⟨b,off,cap,h1,h2,h3,λj x hj i u hu=>?_⟩;have hbp:b≠p:=by
  intro e;subst e;have:=h4 j x hj 1 _ rfl;simp[World.cell?,hp]at this
 exact hg.cell (h4 j x hj i u hu) (by simpa using hbp)
theorem Ms(w:World):Calls prog 33 #[] w λe w'=>e=.returned (.func (.func 57) #[] #[.pointer (some ⟨w.heap.size,0,none⟩)])/\w'=w.alloc (.cells #[.int .i64 0] 3):=by
 have aa:∀(fn:Fn)(first cap:Array Value)(w:World),(Instr.makeFunc fn first cap).run prog w=.ok (.func fn first cap) w:=λ_ _ _ _=>rfl
 go_enter func33,ntmps33
 go_wp2;go_ret;exact⟨rfl,rfl⟩
def Az(op:Nat)(ts:List Tk)(p:Nat)(w:World)(e:Ending)(w':World):Prop:=
 e=.returned (.bool (decide (0<op)))/\w'.heap[p]?=some (.cells #[.int .i64 (Rw.nG op ts:Nat)] 3 (0,0))/\w.grownBy w' (some p)
theorem Ur(v:Value)(ts:List Tk)(op p:Nat)(w:World)(h:Reads iU w v ts)(hs:ts.length<=1000000)(hop:op<=1000000)(hp:w.heap[p]?=some (.cells #[.int .i64 op] 3 (0,0))):
 Calls prog 57 #[v,.pointer (some ⟨p,0,none⟩)] w (Az op ts p w):=by
 obtain⟨a,cap,rfl⟩:=h.shape;have H:=eZ (λW (hg:w.grownBy W (some p))=>Bo h hp hg);have ai:=il hp;have af:=eZ hp;have cp:=iF hp;have HW:=eZ (λe w'=>show(e=.returned (.bool (decide (0<op)))/\w'.heap[p]?=some (.cells #[.int .i64 (Rw.nG op ts:Nat)] 3 (0,0))/\w.grownBy w' (some p))->Az op ts p w e w' from λh=>h);obtain⟨Q,hQ⟩:=fq (Az op ts p w);rw[hQ]at HW⊢
 have ag:=eZ (λk=>show Rw.nG op (ts.take k)<=op+k by
  have:=Rw.Ky (ts.take k) op;have:=List.length_take_le k ts
  omega)
 have ah:=eZ (Rw.Mr op ts);have hall:Rw.nG op (ts.take ts.length)=Rw.nG op ts:=by rw[List.take_length]
 obtain⟨N,hN⟩:=fq (ts.length);have HN:=eZ hN;rw[hN]at hs hall;have aa:=eZ hall;rw[hN];clear h hN hp hQ hall
 go_enter func57,ntmps57
 go_wp2_with fail
 clear cp ai
 go_loopw [11] (λiv wr=>∃k:Nat,iv=.int .i64 k/\k<=N/\wr.heap[p]?=some (.cells #[.int .i64 (Rw.nG op (ts.take k):Nat)] 3 (0,0))/\w.grownBy wr (some p)) (λiv _=>N-(intOf iv).toNat)
 case atStart=>exact⟨0,rfl,ic _,af.out,World.grownBy.refl _ _⟩
 case round=>
  obtain⟨k,rfl,hk,hp,hg⟩:=hrel;by_cases hlt:k<N
  ·obtain⟨x,hx⟩:=jB ts k (by rw[HN.out];exact hlt);obtain⟨b,off,rfl,c0,c1,c2⟩:=iZ (H.out wr hg) k x hx;have hi:(k:Int)<(N:Int):=by omega
   have hst:=ah.out k x hx;have hle:=ag.out k;obtain⟨o,ho⟩:=fq (Rw.nG op (ts.take k));rw[ho]at hp hst hle;have cp:=iF hp;have fp:=wD hp;have hb:=jS (.cells #[.int .i64 x.1,.int .i64 x.2.1,.int .i64 x.2.2] 45) hp hg;have cp2:=iF hb.1;have fp2:=wD hb.1;have hpl:=il hp;have aj:=eZ (λu (hu:u=Rw.nG op (ts.take (k+1)))=>hu);have HB:=eZ hb;have HP:=eZ (show _/\_ from⟨hp,hg⟩);obtain⟨K,hK⟩:=fq (x.1);rw[hK]at hst c0 HB cp2 fp2;clear hx hp hg hb ag ah aa H HN af HW ho hK;by_cases q:K=8
   ·subst q;have HR:=eZ (show Rw.nG op (ts.take (k+1))=o+1 from hst);clear hst;go_wp2_with fail
    go_roundw
    case rel=>
     have h1:=uR (u:=.int .i64 ((o:Int)+1)) HP.out.1 HP.out.2;exact⟨k+1,by go_num,by omega,by rw[HR.out];rw[show((o+1:Nat):Int)=(o:Int)+1 from by omega];exact(jS _ h1.1 h1.2).1,(jS _ h1.1 h1.2).2⟩
    case measure=>simp[intOf];omega
   have g8:((K:Int)==8)=false:=by simp;omega
   by_cases q2:K=9
   ·subst q2;have HR:=eZ (show Rw.nG op (ts.take (k+1))=o+1 from hst);clear hst q g8;go_wp2_with fail
    go_roundw
    case rel=>
     have h1:=uR (u:=.int .i64 ((o:Int)+1)) HP.out.1 HP.out.2;exact⟨k+1,by go_num,by omega,by rw[HR.out];rw[show((o+1:Nat):Int)=(o:Int)+1 from by omega];exact(jS _ h1.1 h1.2).1,(jS _ h1.1 h1.2).2⟩
    case measure=>simp[intOf];omega
   have g9:((K:Int)==9)=false:=by simp;omega
   have hmx:max ((o:Int)-1) 0=((o-1:Nat):Int):=by omega
   by_cases q3:K=10
   ·subst q3;have HR:=eZ (show Rw.nG op (ts.take (k+1))=o-1 from hst);clear hst q q2 g8 g9;go_wp2_with fail
    go_roundw
    case rel=>
     have h1:=uR (u:=.int .i64 ((o-1:Nat):Int)) HP.out.1 HP.out.2;exact⟨k+1,by go_num,by omega,by rw[HR.out];exact(jS _ h1.1 h1.2).1,(jS _ h1.1 h1.2).2⟩
    case measure=>simp[intOf];omega
   have g10:((K:Int)==10)=false:=by simp;omega
   by_cases q4:K=11
   ·subst q4;have HR:=eZ (show Rw.nG op (ts.take (k+1))=o-1 from hst);clear hst q q2 q3 g8 g9 g10;go_wp2_with fail
    go_roundw
    case rel=>
     have h1:=uR (u:=.int .i64 ((o-1:Nat):Int)) HP.out.1 HP.out.2;exact⟨k+1,by go_num,by omega,by rw[HR.out];exact(jS _ h1.1 h1.2).1,(jS _ h1.1 h1.2).2⟩
    case measure=>simp[intOf];omega
   have g11:((K:Int)==11)=false:=by simp;omega
   clear hmx;by_cases q5:K=20
   ·subst q5;have HR:=eZ (show Rw.nG op (ts.take (k+1))=0 from hst);clear hst q q2 q3 q4 g8 g9 g10 g11;go_wp2_with fail
    go_roundw
    case rel=>
     have h1:=uR (u:=.int .i64 0) HP.out.1 HP.out.2;exact⟨k+1,by go_num,by omega,by rw[HR.out];exact(jS _ h1.1 h1.2).1,(jS _ h1.1 h1.2).2⟩
    case measure=>simp[intOf];omega
   have g20:((K:Int)==20)=false:=by simp;omega
   by_cases q6:K=21
   ·subst q6;have HR:=eZ (show Rw.nG op (ts.take (k+1))=0 from hst);clear hst q q2 q3 q4 q5 g8 g9 g10 g11 g20;go_wp2_with fail
    go_roundw
    case rel=>
     have h1:=uR (u:=.int .i64 0) HP.out.1 HP.out.2;exact⟨k+1,by go_num,by omega,by rw[HR.out];exact(jS _ h1.1 h1.2).1,(jS _ h1.1 h1.2).2⟩
    case measure=>simp[intOf];omega
   have g21:((K:Int)==21)=false:=by simp;omega
   have ae:Sc.opens o K=o:=by unfold Sc.opens;rw[eX (by omega),eX (by omega),eX (by omega)]
   rw[ae]at hst;have HR:=eZ hst;clear hst ae q q2 q3 q4 q5 q6;go_wp2_with fail
   go_roundw
   case rel=>exact⟨k+1,by go_num,by omega,by rw[HR.out];exact HB.out.1,HB.out.2⟩
   case measure=>simp[intOf];omega
  obtain rfl:k=N:=by omega
  have hne:¬((k:Int)<(k:Int)):=by omega
  rw[aa.out]at hp;have HD:=eZ (HW.out _ _ ⟨rfl,hp,hg⟩);clear hp hg hlt H ag ah aa HN af HW;go_wp2_with fail
  exact HD.out
end
section
open Go.RowKit
open Sg
open Sq
theorem Us{w:World}{B e size n:Nat}{v:Value}{xs:List Value}(h:w.ownsRow (B+1) e size v n xs):v.ownBlock=none\/v.ownBlock≠some B:=by
 right;intro e;have:=(h.lt _ e).1;omega
theorem own_ne{w:World}{B e size n:Nat}{v:Value}{xs:List Value}(h:w.ownsRow (B+1) e size v n xs):some B≠v.ownBlock:=λe=>by have:=(h.lt _ e.symm).1;omega
abbrev rowOf(op fr R:Nat)(row:List Tk):Rw.R:=⟨Rw.kindOf (decide (0<op)) row,fr,fr+R,Rw.sH row⟩
theorem Yq(bv v:Value)(l:List Tk)(w:World)(h:Reads iU w v l)(hs:l.length<=100000)(hf:∀x∈l,x.2.1<=1000000):
 Calls prog 19 #[bv,v] w (Io (Rw.fA l) w):=by
 obtain⟨a,cap,rfl⟩:=h.shape;obtain⟨H,HF⟩:=fT h hf;have HC:=eZ (λn (hn:n<=l.length)=>XW (P:=prog) Q9 h hn);obtain⟨ag,ah⟩:=fT (Rw.Ll l) (Rw.Lm l);have hat:Rw.lF 0 0 l=Rw.fA l:=rfl;obtain⟨Rs,hRs⟩:=fq (Rw.fA l);rw[hRs]at hat⊢;have HG:=eZ (λe w'=>show(∃u,e=.returned u/\w'.ownsRow w.heap.size 61 4 u Rs.length (encR.all Rs)/\Below w.heap.size w w')->Io Rs w e w' from λh=>h);obtain⟨Q,hQ⟩:=fq (Io Rs w);rw[hQ]at HG⊢;obtain⟨N,hN⟩:=fq (l.length);have HN:=eZ hN;rw[hN]at hs HC;have hcp:=h.vM;rw[hN]at hcp;unfold maxLen at hcp;rw[hN];have ai:=eZ hat;clear h hf hRs hN hQ hat
 go_enter func19,ntmps19
 go_wp2_with fail
 refine(Ms w).mono ?_;rintro e w1 ⟨rfl,rfl⟩;go_wp2_with fail
 go_loopw [5,7] (λlv fv wr=>∃(fr op:Nat)(done:List Rw.R),fv=.int .i64 fr/\fr<=N/\op<=fr/\done.length<=fr/\Hid (done++Rw.lF op fr (l.drop fr)=Rs)/\wr.ownsRow (w.heap.size+1) 61 4 lv done.length (encR.all done)/\wr.heap[w.heap.size]?=some (.cells #[.int .i64 op] 3 (0,0))/\Below w.heap.size w wr) (λ_ fv _=>N-(intOf fv).toNat)
 case atStart=>
  exact⟨0,0,[],rfl,ic _,fB _,fB _,eZ (by rw[Rx,lQ];exact ai.out),kY encR _ _,j5 w _,fo w _⟩
 case round=>
  obtain⟨fr,op,done,rfl,hfr,hop,hdl,HE,hown,hp,hb⟩:=hrel;by_cases hlt:fr<N
  ·have hi:(fr:Int)<(N:Int):=by omega
   obtain⟨u,hu,aB⟩:=HC.out fr (by omega);have hne:l.drop fr≠[]:=λe=>by have:=congrArg List.length e;rw[iT,HN.out]at this;simp at this;omega
   have aN:=Rw.ow _ hne;have hrl:=Rw.wJ (l.drop fr);rw[iT,HN.out]at hrl;have hF:=LP u (l.drop fr) wr (aB.below hb) (by rw[iT,HN.out];omega);have hst:=ag.out op fr (by rw[HN.out];exact hlt);have hfs:∀x∈(l.drop fr).take (Rw.jy (l.drop fr)),x.2.1<=1000000:=λx hx=>HF.out x (XB (KN hx))
   have hlen:((l.drop fr).take (Rw.jy (l.drop fr))).length=Rw.jy (l.drop fr):=by rw[kD,iT,HN.out];omega
   obtain⟨row,hrow⟩:=fq ((l.drop fr).take (Rw.jy (l.drop fr)));rw[hrow]at hst hF hlen hfs;obtain⟨R,hR⟩:=fq (Rw.jy (l.drop fr));rw[hR]at hst hlen aN hrl;obtain⟨aC,aD,aO,HLen,HO,HP⟩:=kJ hF hst hfs hlen hown hp;have HB:=eZ hb;have aP:fr+R<=N:=by omega
   clear hF hst hfs hlen hown hp hb hrow hR hne aB H HF HC ag ah HN HG ai;go_wp2_with fail
   refine aC.out.mono ?_;rintro e w2 ⟨u2,rfl,hr2,hb2⟩;obtain⟨a2,cap2,rfl⟩:=hr2.shape;have hp2:=(hb2.block _ (il HP.out)).trans HP.out;have hr2:=hr2.below hb2;have aj:=Ur _ row op w.heap.size w2 hr2 (by rw[HLen.out];omega) (by omega) hp2;rw[HLen.out]at aj;obtain⟨HR2,aF,HB2,aG⟩:=oN hr2 hp2 hb2 aj;rw[HLen.out];clear hr2 hp2 hb2 aj aC;go_wp2_with fail
   refine aG.out.mono ?_;rintro e w3 ⟨rfl,hp3,hg3⟩;have hr3:=Bo HR2.out aF.out hg3;have hk:=X5 _ row (decide (0<op)) w3 hr3 (by rw[HLen.out];omega) (λe=>by have:=HLen.out;rw[e]at this;simp at this;omega);rw[HLen.out]at hk;obtain⟨HR3,ak,ae,HK⟩:=oN hr3 hp3 hg3 hk;clear hr3 hp3 hg3 hk aG;go_wp2_with fail
   refine HK.out.mono ?_;rintro e w4 ⟨rfl,hb4⟩;have hr4:=HR3.out.below hb4;have hfi:=Iq _ row w4 hr4 (by rw[HLen.out];omega);rw[HLen.out]at hfi;obtain⟨HR4,aH,aI⟩:=jF hr4 hb4 hfi;clear hr4 hb4 hfi HK;go_wp2_with fail
   refine aI.out.mono ?_;rintro e w5 ⟨rfl,hb5⟩;have aJ:=HR4.out.below hb5;have hco:=JX _ row (Rw.gZ row) w5 aJ (by rw[HLen.out];omega) (Rw.DV row) aO.out;rw[HLen.out,Rw.LM]at hco;obtain⟨aK,aL⟩:=fT hb5 hco;clear aJ hb5 hco aI;have aQ:=eZ (show encR.cells (rowOf op fr R row)=[.int .i64 (Rw.kindOf (decide (0<op)) row:Nat),.int .i64 fr,.int .i64 ((fr:Int)+(R:Int)),.int .i64 (Rw.sH row)]by simp[encR,Oh]);go_wp2_with fail
   refine aL.out.mono ?_;rintro e w6 ⟨rfl,hb6⟩;have aa:=fD (fD aH.out aK.out) hb6;have ho2:=fQ HO.out HB2.out;have ho3:=ho2.kept ae.out (Us ho2);have aM:=fQ ho3 aa;have av:=(aa.block _ (il ak.out)).trans ak.out;have hsz:w.heap.size+1<=w6.heap.size:=il av;have hbx:Below w.heap.size w w6:=((HB.out.trans (HB2.out.mono HB.out.size)).grown ae.out (jU HB.out.size HB2.out.size) (λk hk=>by injection hk with hk;omega)).trans (aa.mono (jU HB.out.size (jU HB2.out.size ae.out.size)));obtain⟨ax,ay,az,aR⟩:=oN aM av hbx hsz;clear hb6 aa ho2 ho3 aM av hbx hsz HR2 HR3 HR4 HB2 aH aK ae aF ak HO HP HB aL;go_wp2_with (at_builtin;go_must (refine vQ Ze rfl (.tmp 23) (.tmp 36) rfl (w.heap.size+1) _ done (rowOf op fr R row) _ aQ.out rfl ax.out rfl (by simp only[maxLen];omega) (by omega) aR.out ?_;intro v7 w7 aA af))
   have af:(w6.alloc (.cells #[.int .i64 (Rw.kindOf (decide (0<op)) row:Nat),.int .i64 fr,.int .i64 ((fr:Int)+(R:Int)),.int .i64 (Rw.sH row)] 61)).grownBy w7 (Value.ownBlock _):=af;have aS:(done++[rowOf op fr R row]).length=done.length+1:=by simp
   have hor:=own_ne ax.out
   go_roundw
   case rel=>
    refine⟨fr+R,Rw.nG op row,done++[rowOf op fr R row],by go_num,aP,?_,by omega,eZ ?_,aA,?_,?_⟩
    ·have:=Rw.Ky row op;have:=HLen.out;omega
    ·rw[nQ,<-HE.out,aD.out];rfl
    ·refine(af.block _ ?_ hor).trans ((Df _ _ _ (il ay.out)).trans ay.out);have:=il ay.out;simp;omega
    refine(az.out.alloc az.out.size _).grown af (by have:=az.out.size;simp;omega) (λk hk=>?_);have:=(ax.out.lt k hk).1;omega
   case measure=>simp[intOf];omega
  obtain rfl:fr=N:=by omega
  have hne:¬((fr:Int)<(fr:Int)):=by omega
  have hE:=HE.out;rw[ah.out op fr (by rw[HN.out];exact fB _),mP]at hE;subst hE;have HD:=eZ (HG.out _ wr ⟨_,rfl,lq hown (RF _),hb⟩);clear HE hown hp hb hlt H HF HC ag ah HG HN ai hdl;go_wp2_with fail
  exact HD.out
end
end Go.Proofs.YtmkkdjpebbdikaaGreatDoor

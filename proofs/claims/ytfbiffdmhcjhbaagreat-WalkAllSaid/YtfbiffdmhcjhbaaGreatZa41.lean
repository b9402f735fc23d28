import Derived.Test.YtfbiffdmhcjhbaaGreatZa40
set_option linter.all false
set_option maxHeartbeats 16000000
set_option maxRecDepth 100000
set_option synthInstance.maxSize 4000
set_option synthInstance.maxHeartbeats 0
namespace Go.Proofs.YtfbiffdmhcjhbaaGreat
open Go.RowKit Tryz
section
open Go.RowKit
open Sq
open Ar
open Fl (Tk)
noncomputable def least (P:Nat->Prop):Nat:=by
 classical exact if h:∃n,P n then Classical.choose (show∃n,P n/\∀m,P m->n<=m from by
  obtain⟨n,hn⟩:=h
  induction n using Nat.strongRecOn with
  |ind n ih=>
   by_cases h2:∃m,m<n/\P m
   ·obtain⟨m,h3,h4⟩:=h2;exact ih m h3 h4
   exact⟨n,hn,λm hm=>by
    rcases lu m n with h5|h5
    ·exact absurd ⟨m,h5,hm⟩ h2
    exact h5⟩)else 0
theorem p9{P:Nat->Prop}(h:∃n,P n):P (least P)/\∀m,P m->least P<=m:=by
 unfold least;rw[dif_pos h];exact Classical.choose_spec (p:=λn=>P n/\∀m,P m->n<=m) _
namespace Wk
theorem Ord.len{l:List Nd}{O:List Int}{st:List It}(hO:Ord l O st):O.length<=l.length:=by
 have hp:O.Perm (((List.range l.length).map (fun(i:Nat)=>(i:Int))).filter (λz=>decide (z∈O))):=by
  rw[Qu];intro a;have hnd:((List.range l.length).map (fun(i:Nat)=>(i:Int))).Nodup:=by
   rw[Qs,List.pairwise_map];exact List.nodup_range.imp (fun{a b} hab e=>hab (by omega))
  by_cases ha:a∈O
  ·obtain⟨i,rfl,hi⟩:=hO.Oh a (H6 _ ha);have hx:l[i]?=some l[i]:=lU hi;have h1:=hO.cnt i _ hx;rw[Fw]at h1;have h2:=Fy.2 ha;have h3:O.count (i:Int)<=1:=by split at h1<;>omega
   rw[List.count_filter (by simpa using ha)];have h4:=OC.1 hnd (i:Int);have h5:0<((List.range l.length).map (fun(i:Nat)=>(i:Int))).count (i:Int):=Fy.2 (vP.2 ⟨i,OB.2 hi,rfl⟩)
   omega
  rw[Hu.2 ha,Hu.2 (λh=>by
   have:=(List.mem_filter.1 h).2
   exact ha (by simpa using this))]
 have h1:=hp.length_eq;have h2:=List.length_filter_le (λz=>decide (z∈O)) ((List.range l.length).map (fun(i:Nat)=>(i:Int)));rw[nP,LK]at h2;omega
end Wk
inductive Sv where
 |one (k:Int)
 |row (a:Option Addr) (ks:List Int) (c:Nat)
def Sv.it:Sv->Wk.It
 | .one k=>.one k
 | .row _ ks _=>.row ks
def OZ:Sv->Value
 | .one k=>.iface 3 (.int .i64 k)
 | .row a ks c=>.iface 22 (.slice a ks.length c)
def vX:jV Sv:=⟨λx=>[OZ x],1,by decide,λ_=>rfl,λx u hu=>by
 cases hu with
 |head=>cases x<;>rfl
 |tail _ hu=>cases hu⟩
theorem RN:Ty prog vX 95 20 16:=Ty.of (z:=.nilIface) underlying95 (by kernel_rfl) (by kernel_rfl) rfl (λw=>by kernel_rfl)
theorem P6(v:Value)(w:World):(Instr.typeAssert (.iface 3 v) 20 3 true).run prog w=.ok (.tuple #[v,.bool true]) w:=by kernel_rfl
theorem NG(v:Value)(w:World):(Instr.typeAssert (.iface 22 v) 20 3 true).run prog w=.ok (.tuple #[.int .i64 0,.bool false]) w:=by kernel_rfl
theorem P7(v:Value)(w:World):(Instr.typeAssert (.iface 22 v) 20 22 false).run prog w=.ok v w:=by kernel_rfl
theorem NH{α:Type}{E:jV α}{w:World}{B e g n cap:Nat}{L:List α}{x:α}(h:w.ownsRow B e E.k (.slice (some ⟨g,0,none⟩) (n+1) cap) (L++[x]).length (E.all (L++[x])))(hn:L.length=n):
 w.ownsRow B e E.k (.slice (some ⟨g,0,none⟩) n cap) L.length (E.all L):=by
 obtain⟨h1,h2⟩:=h;rcases h2 with⟨h2,_⟩|⟨g',cap',cur,hv,hg,hh,hl,hcp,hcs,ht⟩
 ·cases h2
 obtain⟨e1,e2,e3⟩:=mq hv;injection e1 with e1
 injection e1 with e1
 subst e1 e3;refine⟨by rw[iX],.inr ⟨g,cap,cur,by rw[hn],hg,hh,?_,hcp,hcs,?_⟩⟩
 ·rw[ig]at hl;simp at hl;omega
 have h9:=congrArg (List.take (L.length*E.k)) ht;rw[List.take_take,Cv (by rw[ig,qW];omega),mK,OH (by rw[iX];exact fC _)]at h9;have e9:(E.all L).take (L.length*E.k)=E.all L:=zk (by rw[iX];exact fC _);rw[e9]at h9;exact h9
structure EM(w wr:World)(bt bo tb:Nat)(na:Option Addr)(NN nc:Nat)(sv ov:Value)(S:List Sv)(O:List Int):Prop where
 kE:Below w.heap.size w wr
 tree:wr.heap[bt]?=some (.cells #[.slice na NN nc] 36 (0,0))
 Mg:w.heap.size<=bt
 told:wr.ownsRow w.heap.size 4 qX.k (.slice (some ⟨tb,0,none⟩) NN NN) (marks NN O).length (qX.all (marks NN O))
 box:wr.heap[bo]?=some (.cells #[ov] 22 (0,0))
 Iu:w.heap.size<=bo
 ord:wr.ownsRow w.heap.size 3 encI.k ov O.length (encI.all O)
 mJ:wr.ownsRow w.heap.size 20 vX.k sv S.length (vX.all S)
 kids:∀a ks c,Sv.row a ks c∈S->Reads encI w (.slice a ks.length c) ks
section
variable {w wr w':World}{bt bo tb:Nat}{na:Option Addr}{NN nc:Nat}{sv ov:Value}{S:List Sv}{O:List Int}
theorem EM.below(h:EM w wr bt bo tb na NN nc sv ov S O)(hb:Below wr.heap.size wr w'):EM w w' bt bo tb na NN nc sv ov S O:=
 ⟨eU h.kE hb,(hb.block bt (kg h.tree)).trans h.tree,h.Mg,fI h.told hb,(hb.block bo (kg h.box)).trans h.box,h.Iu,fI h.ord hb,fI h.mJ hb,h.kids⟩
theorem EM.N8{sv':Value}{S':List Sv}(h:EM w wr bt bo tb na NN nc sv ov S O)(hg:wr.grownBy w' sv.ownBlock)(ho:w'.ownsRow w.heap.size 20 vX.k sv' S'.length (vX.all S'))(hk:∀a ks c,Sv.row a ks c∈S'->Reads encI w (.slice a ks.length c) ks):EM w w' bt bo tb na NN nc sv' ov S' O:=
 ⟨h.kE.grown hg h.kE.size (λq hq=>(h.mJ.lt q hq).1),
  (hg.block bt (kg h.tree) (λe=>fK h.mJ h.tree (by decide) e.symm)).trans h.tree,h.Mg,
  il h.told (λg hgg=>hg.block g (h.told.lt g hgg).2 (λe=>gU h.told h.mJ (by decide) g hgg e.symm)),
  (hg.block bo (kg h.box) (λe=>fK h.mJ h.box (by decide) e.symm)).trans h.box,h.Iu,
  il h.ord (λg hgg=>hg.block g (h.ord.lt g hgg).2 (λe=>gU h.ord h.mJ (by decide) g hgg e.symm)),ho,hk⟩
theorem EM.mark{O':List Int}{k:Nat}(h:EM w wr bt bo tb na NN nc sv ov S O)(hk:k<NN):w.heap.size<=tb/\wr.frozen? ⟨tb,k,none⟩=false/\wr.cell? ⟨tb,k,none⟩=some (.bool (decide ((k:Int)∈O)))/\
 EM w (wr.setCell ⟨tb,k,none⟩ (.bool true)) bt bo tb na NN nc sv ov S O=EM w (wr.setCell ⟨tb,k,none⟩ (.bool true)) bt bo tb na NN nc sv ov S O:=by
 have hl:0<(marks NN O).length:=by rw[mZ];omega
 obtain⟨g,cap,hv,h1,h2,-,-⟩:=jG (E:=qX) h.told hl;injection hv with e1 e2 e3
 injection e1 with e1
 injection e1 with e1
 subst e1;have hc:=h.told.cells (g:=tb) rfl _ _ ((ky qX (marks NN O) k _ (rM O hk) 0 (by decide)).trans rfl);rw[iy,j5,show k*qX.k+0=k from by show k*1+0=k;omega]at hc;exact⟨h1,h2 k,hc,rfl⟩
theorem EM.pop{g n cap:Nat}{S0:List Sv}{x:Sv}(h:EM w wr bt bo tb na NN nc (.slice (some ⟨g,0,none⟩) (n+1) cap) ov (S0++[x]) O)(hn:S0.length=n):EM w wr bt bo tb na NN nc (.slice (some ⟨g,0,none⟩) n cap) ov S0 O:=
 ⟨h.kE,h.tree,h.Mg,h.told,h.box,h.Iu,h.ord,NH h.mJ hn,λa ks c hm=>h.kids a ks c (H6 _ hm)⟩
theorem EM.after{k:Nat}(h:EM w wr bt bo tb na NN nc sv ov S O)(hk:k<NN):(wr.setCell ⟨tb,k,none⟩ (.bool true)).heap[bo]?=some (.cells #[ov] 22 (0,0))/\(wr.setCell ⟨tb,k,none⟩ (.bool true)).ownsRow w.heap.size 3 encI.k ov O.length (encI.all O)/\w.heap.size<=(wr.setCell ⟨tb,k,none⟩ (.bool true)).heap.size:=by
 have hst:∀g,g≠tb->(wr.setCell ⟨tb,k,none⟩ (.bool true)).heap[g]?=wr.heap[g]?:=λg hgg=>uo _ _ _ _ hgg
 refine⟨(hst bo (λe=>by subst e;exact fK h.told h.box (by decide) (by simp[Value.ownBlock]))).trans h.box,il h.ord (λg hgg=>hst g (λe=>by subst e;exact gU h.ord h.told (by decide) g hgg (by simp[Value.ownBlock]))),?_⟩;have:=h.kE.size
 simpa using this
theorem EM.tell{k:Nat}{ah:Value}{wa wb:World}(h:EM w wr bt bo tb na NN nc sv ov S O)(hk:k<NN)(hb:Below (wr.setCell ⟨tb,k,none⟩ (.bool true)).heap.size (wr.setCell ⟨tb,k,none⟩ (.bool true)) wa)(hg:wa.grownBy wb ov.ownBlock)
 (ho:wb.ownsRow w.heap.size 3 encI.k ah (O++[(k:Int)]).length (encI.all (O++[(k:Int)]))):EM w (wb.setCell ⟨bo,0,none⟩ ah) bt bo tb na NN nc sv ah S (O++[(k:Int)]):=by
 obtain⟨w1,hw1⟩:=eX (wr.setCell ⟨tb,k,none⟩ (.bool true));have hst:∀g,g≠tb->w1.heap[g]?=wr.heap[g]?:=λg hgg=>by rw[<-hw1];exact uo _ _ _ _ hgg
 have hlow:=(h.mark (O':=O) hk).1;have hT1:w1.ownsRow w.heap.size 4 qX.k (.slice (some ⟨tb,0,none⟩) NN NN) (marks NN (O++[(k:Int)])).length (qX.all (marks NN (O++[(k:Int)]))):=by
  have:=pR (E:=qX) h.told k 0 _ true (.bool true) (rM O hk) rfl (by decide);rw[G9,show k*qX.k+0=k from by show k*1+0=k;omega,hw1]at this;exact this
 have htb:∀g,(Value.slice (some ⟨tb,0,none⟩) NN NN).ownBlock=some g->g=tb:=λg hgg=>by
  have:tb=g:=by simpa [Value.ownBlock]using hgg
  exact this.symm
 have hoff:∀(T:TypeId)(s n:Nat)(v:Value)(xs:List Value),4≠T->wr.ownsRow w.heap.size T s v n xs->w1.ownsRow w.heap.size T s v n xs:=λT s n v xs hT hO=>
  il hO (λg hgg=>hst g (λe=>by subst e;exact gU hO h.told (Cw hT) g hgg (by simp[Value.ownBlock])))
 have ai:∀(b:Nat)(C:Array Value)(T:TypeId)(fr:Nat×Nat),4≠T->wr.heap[b]?=some (.cells C T fr)->w1.heap[b]?=some (.cells C T fr):=λb C T fr hT hbk=>(hst b (λe=>by subst e;exact fK h.told hbk hT (by simp[Value.ownBlock]))).trans hbk
 have hb1:Below w.heap.size w w1:=by rw[<-hw1];exact h.kE.setCell (p:=⟨tb,k,none⟩) hlow _
 rw[hw1]at hb;have aj:=ai bt _ _ _ (by decide) h.tree;have ay:=ai bo _ _ _ (by decide) h.box;have aA:=hoff _ _ _ _ _ (by decide) h.ord;have aB:=hoff _ _ _ _ _ (by decide) h.mJ;have ba:Below w.heap.size w wa:=eU hb1 hb;have af:=(hb.block bt (kg aj)).trans aj;have ak:=(hb.block bo (kg ay)).trans ay;have ae:=fI aA hb;have av:=fI aB hb;have ag:=fI hT1 hb;have bb:Below w.heap.size w wb:=ba.grown hg ba.size (λq hq=>(ae.lt q hq).1);have ax:=(hg.block bt (kg af) (λe=>fK ae af (by decide) e.symm)).trans af;have aa:=(hg.block bo (kg ak) (λe=>fK ae ak (by decide) e.symm)).trans ak;have az:=il av (λg hgg=>hg.block g (av.lt g hgg).2 (λe=>gU av ae (by decide) g hgg e.symm));have sP:=il ag (λg hgg=>hg.block g (ag.lt g hgg).2 (λe=>gU ag ae (by decide) g hgg e.symm));have st2:∀g,g≠bo->(wb.setCell ⟨bo,0,none⟩ ah).heap[g]?=wb.heap[g]?:=λg hgg=>uo _ _ _ _ hgg
 have hbt:bt≠bo:=by
  rintro rfl;rw[ax]at aa;injection aa with aa
  injection aa with _ hT
  exact absurd hT (by decide)
 refine⟨bb.setCell (p:=⟨bo,0,none⟩) h.Iu _,(st2 bt hbt).trans ax,h.Mg,
  il sP (λg hgg=>st2 g (λe=>by subst e;exact fK sP aa (by decide) hgg)),mr aa ah,h.Iu,
  il ho (λg hgg=>st2 g (λe=>by subst e;exact fK ho aa (by decide) hgg)),
  il az (λg hgg=>st2 g (λe=>by subst e;exact fK az aa (by decide) hgg)),h.kids⟩
end
theorem Re(w W:World)(bo:Nat)(ov:Value)(O:List Int)(k:Int)(ag:W.heap[bo]?=some (.cells #[ov] 22 (0,0)))(hO:W.ownsRow w.heap.size 3 encI.k ov O.length (encI.all O))(hl:O.length<=1000000)(hs:w.heap.size<=W.heap.size):
 Calls prog 33 #[.int .i64 k,.pointer (some ⟨bo,0,none⟩)] W λe w'=>e=.returned (.tuple #[])/\∃aa wb,(W.alloc (.cells #[.int .i64 k] 3)).grownBy wb ov.ownBlock/\wb.ownsRow w.heap.size 3 encI.k aa (O++[k]).length (encI.all (O++[k]))/\w'=wb.setCell ⟨bo,0,none⟩ aa:=by
 obtain⟨Q,hQ⟩:=eX ((λe w'=>e=Ending.returned (.tuple #[])/\∃aa wb,(W.alloc (.cells #[.int .i64 k] 3)).grownBy wb ov.ownBlock/\wb.ownsRow w.heap.size 3 encI.k aa (O++[k]).length (encI.all (O++[k]))/\w'=wb.setCell ⟨bo,0,none⟩ aa));have HQ:=eu (λaa wb (h1:(W.alloc (.cells #[.int .i64 k] 3)).grownBy wb ov.ownBlock)(h2:wb.ownsRow w.heap.size 3 encI.k aa (O++[k]).length (encI.all (O++[k])))=>show Q (.returned (.tuple #[])) (wb.setCell ⟨bo,0,none⟩ aa)from by rw[<-hQ];exact⟨rfl,aa,wb,h1,h2,rfl⟩);rw[hQ];have c0:W.cell? ⟨bo,0,none⟩=some ov:=gQ ag 0;obtain⟨ON,ah⟩:=eX (O.length);have aj:=eu ah;obtain⟨oa,oc,hov⟩:=(Reads.fJ (E:=encI) hO).shape;rw[ah]at hov;subst hov;obtain⟨HO,af⟩:=fD hO ag;have ak:=eu (show O.length+1<=maxLen by simp only[maxLen];omega);have av:=eu (show(O.length+1)*8<=140737488355328 by omega);have HS:=eu hs;clear hQ hO ag hs ah
 go_enter func33,ntmps33
 go_wp2_with (at_builtin;go_must (refine jA Od rfl (.tmp 3) (.tmp 5) rfl w.heap.size _ O k _ rfl rfl HO.out rfl ak.out av.out HS.out ?_;intro v4 w4 ae hg4;have hb4:w4.heap[bo]?=some (.cells #[.slice oa ON oc] 22 (0,0)):=(hg4.block bo (kg (((eZ W _).block bo (kg af.out)).trans af.out)) (λe=>fK HO.out af.out (by decide) e.symm)).trans (((eZ W _).block bo (kg af.out)).trans af.out);have c4:=gQ hb4 0;have f4:=rW hb4 0;have HD:=eu (HQ.out v4 w4 hg4 ae);obtain⟨va,vc,hv4⟩:=(Reads.fJ (E:=encI) ae).shape;obtain⟨M7,ai⟩:∃M7,(O++[k]).length=M7:=⟨_,rfl⟩;have ax:M7=ON+1:=(ai.symm.trans (ig)).trans (congrArg (·+1) aj.out);rw[ai]at hv4;subst ax;subst hv4;clear ai;clear ae hg4 hb4 c0))
 go_end0
 exact HD.out
theorem Rf(w w0:World)(bo:Nat)(na:Option Addr)(nc:Nat)(l:List Nd)(n:Int)(hN:iR w (.slice na l.length nc) l)(hc:Ck l n)(hl:l.length<=1000000)(hb:Below w.heap.size w w0)(aI:w0.heap[bo]?=some (.cells #[.slice none 0 0] 22 (0,0)))(hlow:w.heap.size<=bo):
 Calls prog 32 #[.agg #[.slice na l.length nc],.func (.func 33) #[] #[.pointer (some ⟨bo,0,none⟩)]] w0 λe w'=>e=.returned (.tuple #[])/\∃ov O,Wk.All l O/\w'.heap[bo]?=some (.cells #[ov] 22 (0,0))/\w'.ownsRow w.heap.size 3 encI.k ov O.length (encI.all O)/\Below w.heap.size w w':=by
 obtain⟨Q,hQ⟩:=eX ((λe (w':World)=>e=Ending.returned (.tuple #[])/\∃ov O,Wk.All l O/\w'.heap[bo]?=some (.cells #[ov] 22 (0,0))/\w'.ownsRow w.heap.size 3 encI.k ov O.length (encI.all O)/\Below w.heap.size w w'));have HQ:=eu (λw' ov O (h1:Wk.All l O)(h2:w'.heap[bo]?=some (.cells #[ov] 22 (0,0)))(h3:w'.ownsRow w.heap.size 3 encI.k ov O.length (encI.all O))(h4:Below w.heap.size w w')=>show Q (.returned (.tuple #[])) w' from by rw[<-hQ];exact⟨rfl,ov,O,h1,h2,h3,h4⟩);rw[hQ];have HX:=eu (λW (hW:Below w.heap.size w W) j x hj=>(hN.below hW).at_ j x hj);have bz:=eu (λj x hj=>hN.at_ j x hj);have HC:=eu hc;have hpos:=hc.pos;obtain⟨NN,aJ⟩:=eX (l.length);have aK:=eu aJ;rw[aJ]at hl hpos⊢
 have bA:=eu (show∀W,Below w.heap.size w W->∀(j:Nat)(x:Nd),l[j]?=some x->∃b off ka kc,na=some ⟨b,off,none⟩/\W.cell? ⟨b,off+j*6+4,none⟩=some (.slice ka x.ks.length kc)/\Reads encI w (.slice ka x.ks.length kc) x.ks from λW hW j x hj=>by
  obtain⟨b,off,ka,kc,e,c0,c1,c2,c3,c4,c5,c6⟩:=bz.out j x hj
  exact⟨b,off,ka,kc,e,fe hW c4,c6⟩)
 obtain⟨w1,hw1⟩:=eX (w0.alloc (.cells #[.slice na NN nc] 36));have hb1:Below w0.heap.size w0 w1:=hw1▸eZ w0 _;have hbw:Below w.heap.size w w1:=eU hb hb1;obtain⟨bt,hbt⟩:=eX (w0.heap.size);have htr:w1.heap[bt]?=some (.cells #[.slice na NN nc] 36 (0,0)):=by rw[<-hw1,<-hbt];exact qj _ _
 have c0:w1.cell? ⟨bt,0,none⟩=some (.slice na NN nc):=gQ htr 0;obtain⟨w2,hmk,hown,hg⟩:=DX NN w.heap.size w1 (by omega) hbw.size;obtain⟨tb,htb⟩:=eX (w1.heap.size);rw[htb]at hmk hown;have aR:=hmk (NN:Int) rfl;have hb2:Below w1.heap.size w1 w2:=(fu _ _).grown hg (fC _) (λq hq=>by cases hq);obtain⟨w3,hw3⟩:=eX (w2.alloc (.cells #[.iface 3 (.int .i64 0)] 20));have hb3:Below w2.heap.size w2 w3:=hw3▸eZ w2 _;obtain⟨bs,hbs⟩:=eX (w2.heap.size);have ai:=eU hb2 hb3;have aS:EM w w3 bt bo tb na NN nc (.slice (some ⟨bs,0,none⟩) 1 1) (.slice none 0 0) [.one 0] []:=by
  refine⟨eU hbw ai,(ai.block bt (kg htr)).trans htr,by rw[<-hbt];exact hb.size,fI hown hb3,?_,hlow,jq encI _ _,?_,λa ks c h=>by simp at h⟩
  ·have h1:=(hb1.block bo (kg aI)).trans aI;exact(ai.block bo (kg h1)).trans h1
  have hsz:=hbw.size;have hsz2:=hb2.size;rw[<-hw3,<-hbs];exact En vX w2 _ _ [Sv.one 0] _ rfl (by decide) (by omega)
 obtain⟨bB,HW1,HW3,bC,bD,bE⟩:=j6 aS hw1 hw3 hbt hbs (Wk.Ord.start hc);obtain⟨J,hJ⟩:∃J:Value->World->Nat->Prop,(λsv wr m=>∃(S:List Sv)(O:List Int)(ov:Value),EM w wr bt bo tb na NN nc sv ov S O/\Wk.Ord l O ((S.map Sv.it).reverse)/\(S.length<=O.length+1/\∀S0 a ks c,S=S0++[Sv.row a ks c]->S.length<=O.length)/\m=Wk.stM l ((S.map Sv.it).reverse))=J:=⟨_,rfl⟩
 have bF:=eu (λsv wr m (h:J sv wr m)=>show∃(S:List Sv)(O:List Int)(ov:Value),EM w wr bt bo tb na NN nc sv ov S O/\Wk.Ord l O ((S.map Sv.it).reverse)/\(S.length<=O.length+1/\∀S0 a ks c,S=S0++[Sv.row a ks c]->S.length<=O.length)/\m=Wk.stM l ((S.map Sv.it).reverse)from by rw[<-hJ]at h;exact h);have aB:=eu (λsv wr (S:List Sv)(O:List Int)(ov:Value)(h1:EM w wr bt bo tb na NN nc sv ov S O)(h2:Wk.Ord l O ((S.map Sv.it).reverse))(h3:S.length<=O.length+1/\∀S0 a ks c,S=S0++[Sv.row a ks c]->S.length<=O.length)=>show J sv wr (Wk.stM l ((S.map Sv.it).reverse))from by rw[<-hJ];exact⟨S,O,ov,h1,h2,h3,rfl⟩);clear hQ aJ hw1 hbt hb1 hbw htr hmk hown hg hb2 hw3 hb3 hbs ai aS hN hc hb aI htb hJ
 go_enter func32,ntmps32
 go_upto_region 1 with fail
 rw[HW1.out,bC.out];clear HW1;go_upto_region 3 with fail
 rw[bD.out,HW3.out];clear HW3 c0 aR;go_wp2_with fail
 go_loopw [5] (λsv wr=>∃m,J sv wr m) (λsv wr=>least (J sv wr))
 case atStart=>exact⟨_,aB.out _ _ [.one 0] [] _ bB.out bE.out ⟨by decide,λS0 a ks c e=>by
  have e2:([]:List Sv)++[Sv.one 0]=S0++[Sv.row a ks c]:=e;have e3:=(Lx e2 rfl).2;injection e3 with e3
  cases e3⟩⟩
 case round=>
  obtain⟨h1,h2⟩:=p9 hrel;obtain⟨S,O,ov,hE,hO,hB,hm⟩:=bF.out _ _ _ h1;have ax:=eu hm;have bG:=hO.len;rw[aK.out]at bG;clear hrel h1 h2 hm
  rcases(show S=[]\/∃S0 x,S=S0++[x]from by
   rcases Oo S with h|⟨S0,x,h⟩
   ·exact .inl h
   exact .inr ⟨S0,x,by rw[h,Qh]⟩)with rfl|⟨S0,x,rfl⟩
  ·obtain⟨sa,sc,hsv⟩:=(Reads.fJ (E:=vX) hE.mJ).shape;subst hsv;have HD:=eu (HQ.out wr ov O (hO.done HC.out) hE.box hE.ord hE.kE);clear hE hO hB ax;go_wp2_with fail
   go_end0
   exact HD.out
  have hrev:((S0++[x]).map Sv.it).reverse=x.it::(S0.map Sv.it).reverse:=by simp
  rw[hrev]at hO ax;obtain⟨n0,hn0⟩:=eX (S0.length);obtain⟨g,cap,hsv,hBg,hfz,hlc,hcm⟩:=jG (E:=vX) hE.mJ (by simp);have hlen:(S0++[x]).length=n0+1:=by rw[ig,hn0];rfl
  rw[hlen]at hsv hlc;subst hsv;have hcell:wr.cell? ⟨g,n0,none⟩=some (OZ x):=by
   have h9:=hE.mJ.cells (g:=g) rfl _ _ ((ky vX (S0++[x]) n0 x (by rw[uU (by omega),hn0,zl];rfl) 0 (by decide)).trans rfl);rw[iy,j5,show n0*vX.k+0=n0 from by show n0*1+0=n0;omega]at h9;exact h9
  have hE1:=hE.pop hn0;obtain⟨ay,af,HB⟩:=gW hE1 hn0 hB;have bW:n0<=1000000:=by have h9:=hB.1;rw[hlen]at h9;omega
  have hkd:=hE.kids;simp only[maxLen]at hcm;have gw:IntKind.i64.wrap (((n0+1:Nat):Int)-1)=(n0:Int):=by
   rw[show((n0+1:Nat):Int)-1=(n0:Int)by omega];exact jC _ (by omega)
  have gi:(n0:Int)<((n0:Nat):Int)+1:=by omega
  have bX:n0<=cap:=by omega
  have bY:(n0:Int)<=(cap:Int):=by omega
  clear hE hE1 hB hn0 hBg hfz hrev;cases x with
  |one k=>
   obtain⟨i,hki,hil⟩:=hO.Oh k (H7 _ (by rw[nN];exact H6 _ (sN.2 rfl)));subst hki;rw[aK.out]at hil;obtain⟨y,hy⟩:=iT l i (by rw[aK.out];omega);obtain⟨hfr,-⟩:=Wk.Ord.fresh hy hO;have hO2:=Wk.Ord.tell HC.out hy hO;have hlt2:=Wk.KM HC.out hy ((S0.map Sv.it).reverse);obtain⟨aL,HL2⟩:=fD hO2 hlt2;have aM:=eu (Rz wr na NN nc (i:Int) (by omega) (by omega));have bH:decide ((i:Int)<(NN:Int))=true:=iO (by omega);have bV:(i:Int)<(NN:Int):=by omega
   have ct:wr.cell? ⟨bt,0,none⟩=some (.slice na NN nc):=gQ ay.out.tree 0;obtain⟨HY,bI⟩:=fD hy hfr;have ae:=P6 (.int .i64 (i:Int));clear hO hO2 hlt2 hy hfr hkd
   change wr.cell? ⟨g,n0,none⟩=some (.iface 3 (.int .i64 (i:Int)))at hcell
   go_wp2_with fail
   rw[bH]at aM;refine aM.out.mono ?_;rintro e4 w4 ⟨rfl,hb4⟩;have aC:=ay.out.below hb4;obtain⟨bJ,bK,hc4,-⟩:=aC.mark (O':=O) hil;rw[iF bI.out]at hc4;obtain⟨hbx,hor,hsz⟩:=aC.after hil;obtain⟨w5,aN⟩:=eX (w4.setCell ⟨tb,i,none⟩ (.bool true));rw[aN]at hbx hor hsz;have aT:=eu (Re w w5 bo ov O (i:Int) hbx hor (by omega) hsz);obtain⟨aU,aO⟩:=fD aC aN;clear hb4 aC bJ hbx hor hsz aN aM hcell ct ae gw gi;go_upto_region 10 with fail
   rw[aO.out];clear hc4 bK;go_wp2_with fail
   refine aT.out.mono ?_;rintro e6 w6 ⟨rfl,aV,wb,az,aW,rfl⟩;have ag:=aU.out.tell hil (by rw[aO.out];exact eZ w5 (.cells #[.int .i64 (i:Int)] 3)) az aW;obtain⟨w7,hw7⟩:=eX (wb.setCell ⟨bo,0,none⟩ aV);rw[hw7]at ag⊢;have bL:w7.cell? ⟨bt,0,none⟩=some (.slice na NN nc):=gQ ag.tree 0;obtain⟨nb,no,ka,kc,rfl,ck,hkr⟩:=bA.out w7 ag.kE i y HY.out;obtain⟨aP,bM⟩:=fD ag hkr;obtain⟨KL,aD⟩:=eX (y.ks.length);have bZ:=eu aD;rw[aD]at ck;have aX:=eu (show S0.length+1<=maxLen by rw[af.out];simp only[maxLen];omega);have aY:=eu (show(S0.length+1)*16<=140737488355328 by rw[af.out];omega);have aZ:=eu ag.kE.size;have bf:=eu (show OZ (Sv.row ka y.ks kc)=.iface 22 (.slice ka KL kc)by rw[<-aD];rfl);clear az aW hw7 ag hkr aD aT aU aO;go_wp2_with (at_builtin;go_must (refine jA RN rfl (.tmp 52) (.tmp 60) rfl w.heap.size _ S0 (Sv.row ka y.ks kc) [.iface 22 (.slice ka KL kc)] (congrArg (λv=>[v]) bf.out) rfl aP.out.mJ rfl aX.out aY.out aZ.out ?_;intro v8 w8 aA bg))
   have bn:=(aP.out.below (eZ w7 (.cells #[.iface 22 (.slice ka KL kc)] 20))).N8 bg aA (λa ks c hm=>by
    rcases kS.1 hm with hm|hm
    ·exact aP.out.kids a ks c hm
    have e:=sN.1 hm;injection e with e1 e2 e3
    subst e1 e2 e3
    exact bM.out)
   have ak:=HB.out.1;rw[hlen]at ak
   have ah:=aB.out v8 w8 (S0++[Sv.row ka y.ks kc]) (O++[(i:Int)]) aV bn (by
    have e:((S0++[Sv.row ka y.ks kc]).map Sv.it).reverse=.row y.ks::(S0.map Sv.it).reverse:=by simp[Sv.it]
    rw[e];exact aL.out) ⟨by rw[ig,ig,af.out];simp;omega,λS1 a ks c e=>by rw[ig,ig,af.out];simp;omega⟩
   have aa:=eu ah;clear aA bg bn ak ah bL ck aX aY aZ bf
   go_roundw
   case rel=>exact⟨_,aa.out⟩
   case measure=>
    rw[ax.out];refine OI ((p9 ⟨_,aa.out⟩).2 _ aa.out) ?_;have e:((S0++[Sv.row ka y.ks kc]).map Sv.it).reverse=.row y.ks::(S0.map Sv.it).reverse:=by simp[Sv.it]
    rw[e];exact HL2.out
  |row a ks c=>
   have ak:=HB.out.1;have aF:=HB.out.2 S0 a ks c rfl;rw[hlen]at ak aF;have ae:=NG (.slice a ks.length c);have aj:=P7 (.slice a ks.length c);have hkr:=hkd a ks c (H7 _ (sN.2 rfl))
   change wr.cell? ⟨g,n0,none⟩=some (.iface 22 (.slice a ks.length c))at hcell
   cases ks with
   |nil=>
    have ah:=aB.out _ wr S0 O ov ay.out (Wk.Ord.drop hO) ⟨by rw[af.out];omega,λS1 a ks c e=>by rw[af.out];omega⟩;have aa:=eu ah;have HL2:=eu (Wk.KS l ((S0.map Sv.it).reverse));clear ah hO hkr hkd ak aF;rw[lI]at hcell ae aj;go_wp2_with fail
    go_roundw
    case rel=>exact⟨_,aa.out⟩
    case measure=>
     rw[ax.out];exact OI ((p9 ⟨_,aa.out⟩).2 _ aa.out) HL2.out
   |cons z r=>
    obtain⟨kb,ko,hae,hz⟩:=qZ hkr 0 z rfl;subst hae;obtain⟨vc,hsl,aG⟩:=Sq.QK (P:=prog) Od hkr (n:=1) (by simp);obtain⟨a2,c2,hvs⟩:=aG.shape;have hdr:(z::r).drop 1=r:=rfl;rw[hdr]at hvs aG;have aL:=eu (Wk.Ord.next hO);have HL2:=eu (Wk.KT l z r ((S0.map Sv.it).reverse));have bN:=eu (show Reads encI w (.slice a2 r.length c2) r by rw[<-hvs];exact aG);rw[gy]at hcell ae aj hsl;subst hvs;obtain⟨RL,aQ⟩:=eX (r.length);have bO:=eu aQ;rw[aQ]at hcell ae aj hsl;have hsl1:∀W:World,(Instr.slice 22 (.slice (some ⟨kb,ko,none⟩) (RL+1) c) (some (.int .i64 1)) none none).run prog W=.ok (.slice a2 RL c2) W:=hsl;have gz:(0:Int)<(RL:Int)+1:=by omega
    have hz1:wr.drew.cell? ⟨kb,ko,none⟩=some (.int .i64 z):=iY (fe ay.out.kE hz);have bP:=eu (ay.out.below (fu _ wr).drew);have bQ:=eu (show S0.length+2<=maxLen by rw[af.out];simp only[maxLen];omega);have bR:=eu (show(S0.length+2)*16<=140737488355328 by rw[af.out];omega);obtain⟨HZ,bS⟩:=fD hz aF;clear hsl aG hdr hO hkr hkd ak aF hz aQ;go_upto_region 14 with fail
    clear hcell ae aj gz gw;refine fB (λwx=>wx.cell? ⟨kb,ko,none⟩=some (.int .i64 z)) 9 (by kernel_rfl) ?_;have hH:(λwx:World=>wx.cell? ⟨kb,ko,none⟩=some (.int .i64 z)) wr.drew:=hz1;refine fw 0 (.slice (some ⟨g,0,none⟩) n0 cap) rfl (by kernel_rfl) rfl eY (λW hW=>by go_simp) hH ?_;refine fM 1 (.slice (some ⟨kb,ko,none⟩) (RL+1) c) rfl (by kernel_rfl) rfl eY (λW=>by go_simp) (λ_=>hH) ?_;refine fM 2 (.slice a2 RL c2) rfl (by kernel_rfl) rfl eY (λW=>by go_simp) (λ_=>hH) ?_;refine fM 3 (.iface 22 (.slice a2 RL c2)) rfl (by kernel_rfl) rfl eY (λW=>by go_simp) (λ_=>hH) ?_;refine fM 4 (.slice (some ⟨kb,ko,none⟩) (RL+1) c) rfl (by kernel_rfl) rfl eY (λW=>by go_simp) (λ_=>hH) ?_;refine fM 5 (.pointer (some ⟨kb,ko,none⟩)) rfl (by kernel_rfl) rfl eY (λW=>by go_simp) (λ_=>hH) ?_;refine Cr 8 7 6 (.int .i64 z) rfl (by kernel_rfl) rfl eY (λW hW=>by go_simp) hH ?_;refine fM 7 (.iface 3 (.int .i64 z)) rfl (by kernel_rfl) rfl eY (λW=>by go_simp) (λ_=>hH) ?_;refine iD 8 (by kernel_rfl) rfl λK hK=>?_
    go_simp;obtain⟨wx,hwx⟩:=eX ((wr.alloc (.cells #[.iface 22 (.slice a2 RL c2),.iface 3 (.int .i64 z)] 20)).drew);rw[hwx];have hbx:Below wr.drew.heap.size wr.drew wx:=by rw[<-hwx];exact eZ wr.drew _
    have aH:=eu (show∀jj cc,(vX.all [Sv.row a2 r c2,Sv.one z])[jj]?=some cc->wx.cell? ⟨wr.heap.size,jj,none⟩=some cc from by
     intro jj cc hj;rw[<-hwx];show(wr.alloc _).cell? ⟨wr.heap.size,jj,none⟩=_;rw[o6];have h9:([.iface 22 (.slice a2 RL c2),.iface 3 (.int .i64 z)]:List Value)[jj]?=some cc:=by rw[<-bO.out];exact hj
     simpa using h9)
    have av:=eu (bP.out.below hbx);have hz2:wx.cell? ⟨kb,ko,none⟩=some (.int .i64 z):=fe av.out.kE HZ.out;have hws:w.heap.size<=wx.heap.size:=av.out.kE.size;clear hwx hbx;refine hK.out _ _ (λ_=>hz2) (λhH2=>?_);clear hK K;replace hH:=hH2 (by kernel_rfl);clear hH2;try simp only[Act.put,fF,fH,fG]
    refine iD 9 (by kernel_rfl) rfl λK hK=>?_
    refine gT RN rfl (.tmp 67) (.tmp 75) rfl w.heap.size (.slice (some ⟨g,0,none⟩) n0 cap) S0 rfl av.out.mJ wr.heap.size 2 [Sv.row a2 r c2,Sv.one z] rfl rfl aH.out bQ.out bR.out hws ?_;intro v6 w6 hown6 az bq
    have ag:=av.out.N8 az hown6 (λa ks c hm=>by
     rcases kS.1 hm with hm|hm
     ·exact av.out.kids a ks c hm
     rcases qV.1 hm with e|hm
     ·injection e with e1 e2 e3
      subst e1 e2 e3;exact bN.out
     have e:=sN.1 hm
     cases e)
    have bT:=eu ag;clear hown6 az bq ag aH av hws hz1 hz2;refine hK.out _ _ (jg (by kernel_rfl)) (λ_=>?_);clear hK K;try simp only[Act.put,fF,fH,fG]
    refine fM 10 v6 rfl (by kernel_rfl) rfl eY (λW=>by go_simp) (jg (by kernel_rfl)) ?_;try rename_i bU
    try clear bU hH
    refine fA (by kernel_rfl) ?_ _
    have ah:=aB.out v6 w6 (S0++[Sv.row a2 r c2,Sv.one z]) O ov bT.out (by
     have e:((S0++[Sv.row a2 r c2,Sv.one z]).map Sv.it).reverse=.one z::.row r::(S0.map Sv.it).reverse:=by simp[Sv.it]
     rw[e];exact aL.out) ⟨by have h9:=bS.out;rw[ig,af.out];simp;omega,λS1 a ks c e=>by
      have e2:(S0++[Sv.row a2 r c2])++[Sv.one z]=S1++[Sv.row a ks c]:=by rw[<-e];simp
      have e3:=(Lx e2 rfl).2;injection e3 with e3
      cases e3⟩
    have aa:=eu ah;clear ah hsl1;go_wp2_with fail
    go_roundw
    case rel=>exact⟨_,aa.out⟩
    case measure=>
     rw[ax.out];refine OI ((p9 ⟨_,aa.out⟩).2 _ aa.out) ?_;have e:((S0++[Sv.row a2 r c2,Sv.one z]).map Sv.it).reverse=.one z::.row r::(S0.map Sv.it).reverse:=by simp[Sv.it]
     rw[e];exact HL2.out
theorem P8(w:World)(nv:Value)(l:List Nd)(n:Int)(hN:iR w nv l)(hc:Ck l n)(hl:l.length<=1000000):
 Calls prog 17 #[.agg #[nv]] w λe w'=>∃v O,e=.returned v/\Wk.All l O/\w'.ownsRow w.heap.size 3 1 v O.length (encI.all O)/\Below w.heap.size w w':=by
 obtain⟨na,nc,rfl⟩:=hN.shape;obtain⟨Q,hQ⟩:=eX ((λe (w':World)=>∃v O,e=Ending.returned v/\Wk.All l O/\w'.ownsRow w.heap.size 3 1 v O.length (encI.all O)/\Below w.heap.size w w'));have HQ:=eu (λw' v O (h1:Wk.All l O)(h2:w'.ownsRow w.heap.size 3 encI.k v O.length (encI.all O))(h3:Below w.heap.size w w')=>show Q (.returned v) w' from by rw[<-hQ];exact⟨v,O,rfl,h1,h2,h3⟩);rw[hQ];obtain⟨w1,hw1⟩:=eX (w.alloc (.cells #[.slice na l.length nc] 36));obtain⟨w2,hw2⟩:=eX (w1.alloc (.cells #[.slice none 0 0] 22));have hb1:Below w.heap.size w w1:=hw1▸eZ w _;have hb2:Below w1.heap.size w1 w2:=hw2▸eZ w1 _;have hb:=eU hb1 hb2;obtain⟨bt,hbt⟩:=eX (w.heap.size);obtain⟨bo,aa⟩:=eX (w1.heap.size);have hs1:bt+1=bo:=by rw[<-aa,<-hw1,<-hbt];simp
 have x0:w2.cell? ⟨bt,0,none⟩=some (.slice na l.length nc):=by rw[<-hw2];refine gX ?_;rw[<-hw1,<-hbt];exact at_new rfl
 have hbk:w2.heap[bo]?=some (.cells #[.slice none 0 0] 22 (0,0)):=by rw[<-hw2,<-aa];exact qj _ _
 have HE:=eu (Rf w w2 bo na nc l n hN hc hl hb hbk (by rw[hbt,<-hs1];omega));obtain⟨NN,ae⟩:=eX (l.length);rw[ae]at hw1 x0 HE⊢;obtain⟨HW1,HW2,ag,ah,af⟩:=xZ hw1 hw2 hbt hs1 aa;clear hQ hw1 hw2 hb1 hb2 hb hbt aa hs1 hbk hN hc ae
 go_enter func17,ntmps17
 go_upto_region 2 with fail
 rw[HW1.out,ag.out]
 first|rw[ah.out,HW2.out]|rw[af.out,HW2.out]
 clear HW1 HW2;go_wp2_with fail
 refine HE.out.mono ?_;rintro e w3 ⟨rfl,ov,O,hA,hbx,hor,hbl⟩;have c3:w3.cell? ⟨bo,0,none⟩=some ov:=gQ hbx 0;have HD:=eu (HQ.out w3 ov O hA hor hbl);clear hA hbx hor hbl x0 HE;go_wp2_with fail
 first|exact HD.out|(go_ret;exact HD.out)
end
end Go.Proofs.YtfbiffdmhcjhbaaGreat

import Derived.Test.YtfbiffdmhcjhbaaZa37
import Derived.Laws.OwnMore
set_option linter.all false
set_option maxHeartbeats 16000000
set_option maxRecDepth 100000
set_option synthInstance.maxSize 4000
set_option synthInstance.maxHeartbeats 0
namespace Go.Proofs.Ytfbiffdmhcjhbaa
open Go.RowKit Try
section
open Go.RowKit
open Sq
open Ar
def xV:qP Bool:=⟨λx=>[.bool x],1,by decide,λ_=>rfl,λx u hu=>by
 cases hu with
 |head=>rfl
 |tail _ hu=>cases hu⟩
end
namespace Ar
def marks(N:Nat)(U:List Int):List Bool:=(List.range N).map (λz:Nat=>decide ((z:Int)∈U))
theorem uA(N:Nat)(U:List Int):(marks N U).length=N:=by simp[marks]
theorem yx{N:Nat}(U:List Int){z:Nat}(h:z<N):(marks N U)[z]?=some (decide ((z:Int)∈U)):=by simp[marks,h]
theorem M3{N:Nat}(U:List Int)(z:Nat):(marks N U).set z true=marks N (U++[(z:Int)]):=by
 refine zT (λj=>?_);rw[E5];by_cases hj:j<N
 ·rw[yx _ hj,yx _ hj];by_cases e:z=j
  ·subst e;rw[gu rfl,uA,gu hj];simp
  rw[fu e];congr 1;have:¬((j:Int)=(z:Int)):=by omega
  simp[this]
 rw[xQ (by rw[uA];omega),xQ (by rw[uA];omega)];split
 ·rw[fu (by rw[uA];omega)]
 rfl
theorem M4(N:Nat):marks N []=List.replicate N false:=by
 unfold marks;apply zT;intro j;by_cases h:j<N
 ·simp[h]
 simp[h]
end Ar
section
open Go.RowKit
open Sq
open Ar
theorem JA(n:Nat):(madeCells #[.bool false] (n*1)).toList=xV.all (marks n []):=by
 have e:xV.all (marks n [])=List.replicate n (.bool false):=by
  rw[M4]
  induction n with
  |zero=>rfl
  |succ n ih=>
   show(xV.cells false++xV.all (List.replicate n false))=_;rw[ih];rfl
 rw[e];apply zT;intro j;rw[Lm];simp only[madeCells,Ul];by_cases h:j<n
 ·simp[h,Nat.mod_one]
 simp[h]
theorem JB(n B:Nat)(w:World)(hn:n<=1000000)(hB:B<=w.heap.size):∃w',(∀m:Int,m=(n:Int)->(Instr.makeSlice 91 (.int .i64 m) (.int .i64 m)).run prog w=.ok (.slice (some ⟨w.heap.size,0,none⟩) n n) w')/\w'.ownsRow B 4 xV.k (.slice (some ⟨w.heap.size,0,none⟩) n n) (marks n []).length (xV.all (marks n []))/\w.grownBy w' none:=by
 obtain⟨i0,hi,hz0,hz1,hz2⟩:=Fa (show(prog.info? 4).map (λi=>(i.zero,i.size,i.bytes))=some (some (.bool false),1,1)by kernel_rfl);obtain⟨w',h1,h2,h3⟩:=run_make_full (P:=prog) w B 91 4 i0 (.bool false) 1 underlying91 hi hz0 hz1 .i64 .i64 n (by rw[hz2];omega) (by simp only[maxLen];omega) hB;refine⟨w',λm hm=>by rw[hm];exact h1,?_,h3⟩;have e:(madeCells (Value.bool false).cells (n*1)).toList=xV.all (marks n []):=JA n;rw[e]at h2;rw[uA];exact h2
end
section
open Go.RowKit
open Sq
open Ar
open Fl (Tk)
noncomputable def least (P:Nat->Prop):Nat:=by
 classical exact if h:∃n,P n then Classical.choose (show∃n,P n/\∀m,P m->n<=m from by
  obtain⟨n,hn⟩:=h
  induction n using Nat.strongRecOn with
  |ind n ih=>
   by_cases h2:∃m,m<n/\P m
   ·obtain⟨m,h3,h4⟩:=h2;exact ih m h3 h4
   exact⟨n,hn,λm hm=>by
    rcases sJ m n with h5|h5
    ·exact absurd ⟨m,h5,hm⟩ h2
    exact h5⟩)else 0
theorem wP{P:Nat->Prop}(h:∃n,P n):P (least P)/\∀m,P m->least P<=m:=by
 unfold least;rw[dif_pos h];exact Classical.choose_spec (p:=λn=>P n/\∀m,P m->n<=m) _
namespace Wk
theorem Ord.len{l:List Nd}{O:List Int}{st:List It}(hO:Ord l O st):O.length<=l.length:=by
 have hp:O.Perm (((List.range l.length).map (fun(i:Nat)=>(i:Int))).filter (λz=>decide (z∈O))):=by
  rw[Wl];intro a;have hnd:((List.range l.length).map (fun(i:Nat)=>(i:Int))).Nodup:=by
   rw[Wj,List.pairwise_map];exact Ux.imp (fun{a b} hab e=>hab (by omega))
  by_cases ha:a∈O
  ·obtain⟨i,rfl,hi⟩:=hO.Uk a (Li _ ha);have hx:l[i]?=some l[i]:=qQ hi;have h1:=hO.cnt i _ hx;rw[Lb]at h1;have h2:=Lc.2 ha;have h3:O.count (i:Int)<=1:=by split at h1<;>omega
   rw[List.count_filter (by simpa using ha)];have h4:=Uw.1 hnd (i:Int);have h5:0<((List.range l.length).map (fun(i:Nat)=>(i:Int))).count (i:Int):=Lc.2 (AO.2 ⟨i,AP.2 hi,rfl⟩)
   omega
  rw[Nl.2 ha,Nl.2 (λh=>by
   have:=(List.mem_filter.1 h).2
   exact ha (by simpa using this))]
 have h1:=hp.length_eq;have h2:=List.length_filter_le (λz=>decide (z∈O)) ((List.range l.length).map (fun(i:Nat)=>(i:Int)));rw[tV,Nq]at h2;omega
end Wk
inductive Sv where
 |one (k:Int)
 |row (a:Option Addr) (ks:List Int) (c:Nat)
def Sv.it:Sv->Wk.It
 | .one k=>.one k
 | .row _ ks _=>.row ks
def UT:Sv->Value
 | .one k=>.iface 3 (.int .i64 k)
 | .row a ks c=>.iface 22 (.slice a ks.length c)
def BU:qP Sv:=⟨λx=>[UT x],1,by decide,λ_=>rfl,λx u hu=>by
 cases hu with
 |head=>cases x<;>rfl
 |tail _ hu=>cases hu⟩
theorem XJ:Ty prog BU 92 20 16:=Ty.of (z:=.nilIface) underlying92 (by kernel_rfl) (by kernel_rfl) rfl (λw=>by kernel_rfl)
theorem VD(v:Value)(w:World):(Instr.typeAssert (.iface 3 v) 20 3 true).run prog w=.ok (.tuple #[v,.bool true]) w:=by kernel_rfl
theorem TM(v:Value)(w:World):(Instr.typeAssert (.iface 22 v) 20 3 true).run prog w=.ok (.tuple #[.int .i64 0,.bool false]) w:=by kernel_rfl
theorem VE(v:Value)(w:World):(Instr.typeAssert (.iface 22 v) 20 22 false).run prog w=.ok v w:=by kernel_rfl
theorem TP{α:Type}{E:qP α}{w:World}{B e g n cap:Nat}{L:List α}{x:α}(h:w.ownsRow B e E.k (.slice (some ⟨g,0,none⟩) (n+1) cap) (L++[x]).length (E.all (L++[x])))(hn:L.length=n):
 w.ownsRow B e E.k (.slice (some ⟨g,0,none⟩) n cap) L.length (E.all L):=by
 obtain⟨h1,h2⟩:=h;rcases h2 with⟨h2,_⟩|⟨g',cap',cur,hv,hg,hh,hl,hcp,hcs,ht⟩
 ·cases h2
 obtain⟨e1,e2,e3⟩:=sK hv;injection e1 with e1
 injection e1 with e1
 subst e1 e3;refine⟨by rw[pK],.inr ⟨g,cap,cur,by rw[hn],hg,hh,?_,hcp,hcs,?_⟩⟩
 ·rw[oq]at hl;simp at hl;omega
 have h9:=congrArg (List.take (L.length*E.k)) ht;rw[List.take_take,Ll (by rw[oq,xR];omega),uZ,UB (by rw[pK];exact mJ _)]at h9;have e9:(E.all L).take (L.length*E.k)=E.all L:=DI (by rw[pK];exact mJ _);rw[e9]at h9;exact h9
structure EM(w wr:World)(bt bo tb:Nat)(na:Option Addr)(NN nc:Nat)(sv ov:Value)(S:List Sv)(O:List Int):Prop where
 qK:Below w.heap.size w wr
 tree:wr.heap[bt]?=some (.cells #[.slice na NN nc] 34 (0,0))
 RE:w.heap.size<=bt
 told:wr.ownsRow w.heap.size 4 xV.k (.slice (some ⟨tb,0,none⟩) NN NN) (marks NN O).length (xV.all (marks NN O))
 box:wr.heap[bo]?=some (.cells #[ov] 22 (0,0))
 NP:w.heap.size<=bo
 ord:wr.ownsRow w.heap.size 3 encI.k ov O.length (encI.all O)
 tZ:wr.ownsRow w.heap.size 20 BU.k sv S.length (BU.all S)
 kids:∀a ks c,Sv.row a ks c∈S->Reads encI w (.slice a ks.length c) ks
section
variable {w wr w':World}{bt bo tb:Nat}{na:Option Addr}{NN nc:Nat}{sv ov:Value}{S:List Sv}{O:List Int}
theorem EM.below(h:EM w wr bt bo tb na NN nc sv ov S O)(hb:Below wr.heap.size wr w'):EM w w' bt bo tb na NN nc sv ov S O:=
 ⟨lu h.qK hb,(hb.block bt (nQ h.tree)).trans h.tree,h.RE,mU h.told hb,(hb.block bo (nQ h.box)).trans h.box,h.NP,mU h.ord hb,mU h.tZ hb,h.kids⟩
theorem EM.Ug{sv':Value}{S':List Sv}(h:EM w wr bt bo tb na NN nc sv ov S O)(hg:wr.grownBy w' sv.ownBlock)(ho:w'.ownsRow w.heap.size 20 BU.k sv' S'.length (BU.all S'))(hk:∀a ks c,Sv.row a ks c∈S'->Reads encI w (.slice a ks.length c) ks):EM w w' bt bo tb na NN nc sv' ov S' O:=
 ⟨h.qK.grown hg h.qK.size (λq hq=>(h.tZ.lt q hq).1),
  (hg.block bt (nQ h.tree) (λe=>mV h.tZ h.tree (by decide) e.symm)).trans h.tree,h.RE,
  oC h.told (λg hgg=>hg.block g (h.told.lt g hgg).2 (λe=>nV h.told h.tZ (by decide) g hgg e.symm)),
  (hg.block bo (nQ h.box) (λe=>mV h.tZ h.box (by decide) e.symm)).trans h.box,h.NP,
  oC h.ord (λg hgg=>hg.block g (h.ord.lt g hgg).2 (λe=>nV h.ord h.tZ (by decide) g hgg e.symm)),ho,hk⟩
theorem EM.mark{O':List Int}{k:Nat}(h:EM w wr bt bo tb na NN nc sv ov S O)(hk:k<NN):w.heap.size<=tb/\wr.frozen? ⟨tb,k,none⟩=false/\wr.cell? ⟨tb,k,none⟩=some (.bool (decide ((k:Int)∈O)))/\
 EM w (wr.setCell ⟨tb,k,none⟩ (.bool true)) bt bo tb na NN nc sv ov S O=EM w (wr.setCell ⟨tb,k,none⟩ (.bool true)) bt bo tb na NN nc sv ov S O:=by
 have hl:0<(marks NN O).length:=by rw[uA];omega
 obtain⟨g,cap,hv,h1,h2,-,-⟩:=pP (E:=xV) h.told hl;injection hv with e1 e2 e3
 injection e1 with e1
 injection e1 with e1
 subst e1;have hc:=h.told.cells (g:=tb) rfl _ _ ((qh xV (marks NN O) k _ (yx O hk) 0 (by decide)).trans rfl);rw[nX,qz,show k*xV.k+0=k from by show k*1+0=k;omega]at hc;exact⟨h1,h2 k,hc,rfl⟩
theorem EM.pop{g n cap:Nat}{S0:List Sv}{x:Sv}(h:EM w wr bt bo tb na NN nc (.slice (some ⟨g,0,none⟩) (n+1) cap) ov (S0++[x]) O)(hn:S0.length=n):EM w wr bt bo tb na NN nc (.slice (some ⟨g,0,none⟩) n cap) ov S0 O:=
 ⟨h.qK,h.tree,h.RE,h.told,h.box,h.NP,h.ord,TP h.tZ hn,λa ks c hm=>h.kids a ks c (Li _ hm)⟩
theorem EM.after{k:Nat}(h:EM w wr bt bo tb na NN nc sv ov S O)(hk:k<NN):(wr.setCell ⟨tb,k,none⟩ (.bool true)).heap[bo]?=some (.cells #[ov] 22 (0,0))/\(wr.setCell ⟨tb,k,none⟩ (.bool true)).ownsRow w.heap.size 3 encI.k ov O.length (encI.all O)/\w.heap.size<=(wr.setCell ⟨tb,k,none⟩ (.bool true)).heap.size:=by
 have hst:∀g,g≠tb->(wr.setCell ⟨tb,k,none⟩ (.bool true)).heap[g]?=wr.heap[g]?:=λg hgg=>yK _ _ _ _ hgg
 refine⟨(hst bo (λe=>by subst e;exact mV h.told h.box (by decide) (by simp[Value.ownBlock]))).trans h.box,oC h.ord (λg hgg=>hst g (λe=>by subst e;exact nV h.ord h.told (by decide) g hgg (by simp[Value.ownBlock]))),?_⟩;have:=h.qK.size
 simpa using this
theorem EM.tell{k:Nat}{ah:Value}{wa wb:World}(h:EM w wr bt bo tb na NN nc sv ov S O)(hk:k<NN)(hb:Below (wr.setCell ⟨tb,k,none⟩ (.bool true)).heap.size (wr.setCell ⟨tb,k,none⟩ (.bool true)) wa)(hg:wa.grownBy wb ov.ownBlock)
 (ho:wb.ownsRow w.heap.size 3 encI.k ah (O++[(k:Int)]).length (encI.all (O++[(k:Int)]))):EM w (wb.setCell ⟨bo,0,none⟩ ah) bt bo tb na NN nc sv ah S (O++[(k:Int)]):=by
 obtain⟨w1,hw1⟩:=my (wr.setCell ⟨tb,k,none⟩ (.bool true));have hst:∀g,g≠tb->w1.heap[g]?=wr.heap[g]?:=λg hgg=>by rw[<-hw1];exact yK _ _ _ _ hgg
 have hlow:=(h.mark (O':=O) hk).1;have hT1:w1.ownsRow w.heap.size 4 xV.k (.slice (some ⟨tb,0,none⟩) NN NN) (marks NN (O++[(k:Int)])).length (xV.all (marks NN (O++[(k:Int)]))):=by
  have:=uf (E:=xV) h.told k 0 _ true (.bool true) (yx O hk) rfl (by decide);rw[M3,show k*xV.k+0=k from by show k*1+0=k;omega,hw1]at this;exact this
 have htb:∀g,(Value.slice (some ⟨tb,0,none⟩) NN NN).ownBlock=some g->g=tb:=λg hgg=>by
  have:tb=g:=by simpa [Value.ownBlock]using hgg
  exact this.symm
 have hoff:∀(T:TypeId)(s n:Nat)(v:Value)(xs:List Value),4≠T->wr.ownsRow w.heap.size T s v n xs->w1.ownsRow w.heap.size T s v n xs:=λT s n v xs hT hO=>
  oC hO (λg hgg=>hst g (λe=>by subst e;exact nV hO h.told (Iv hT) g hgg (by simp[Value.ownBlock])))
 have ai:∀(b:Nat)(C:Array Value)(T:TypeId)(fr:Nat×Nat),4≠T->wr.heap[b]?=some (.cells C T fr)->w1.heap[b]?=some (.cells C T fr):=λb C T fr hT hbk=>(hst b (λe=>by subst e;exact mV h.told hbk hT (by simp[Value.ownBlock]))).trans hbk
 have hb1:Below w.heap.size w w1:=by rw[<-hw1];exact h.qK.setCell (p:=⟨tb,k,none⟩) hlow _
 rw[hw1]at hb;have aj:=ai bt _ _ _ (by decide) h.tree;have ay:=ai bo _ _ _ (by decide) h.box;have aA:=hoff _ _ _ _ _ (by decide) h.ord;have aB:=hoff _ _ _ _ _ (by decide) h.tZ;have ba:Below w.heap.size w wa:=lu hb1 hb;have af:=(hb.block bt (nQ aj)).trans aj;have ak:=(hb.block bo (nQ ay)).trans ay;have ae:=mU aA hb;have av:=mU aB hb;have ag:=mU hT1 hb;have bb:Below w.heap.size w wb:=ba.grown hg ba.size (λq hq=>(ae.lt q hq).1);have ax:=(hg.block bt (nQ af) (λe=>mV ae af (by decide) e.symm)).trans af;have aa:=(hg.block bo (nQ ak) (λe=>mV ae ak (by decide) e.symm)).trans ak;have az:=oC av (λg hgg=>hg.block g (av.lt g hgg).2 (λe=>nV av ae (by decide) g hgg e.symm));have zf:=oC ag (λg hgg=>hg.block g (ag.lt g hgg).2 (λe=>nV ag ae (by decide) g hgg e.symm));have st2:∀g,g≠bo->(wb.setCell ⟨bo,0,none⟩ ah).heap[g]?=wb.heap[g]?:=λg hgg=>yK _ _ _ _ hgg
 have hbt:bt≠bo:=by
  rintro rfl;rw[ax]at aa;injection aa with aa
  injection aa with _ hT
  exact absurd hT (by decide)
 refine⟨bb.setCell (p:=⟨bo,0,none⟩) h.NP _,(st2 bt hbt).trans ax,h.RE,
  oC zf (λg hgg=>st2 g (λe=>by subst e;exact mV zf aa (by decide) hgg)),uq aa ah,h.NP,
  oC ho (λg hgg=>st2 g (λe=>by subst e;exact mV ho aa (by decide) hgg)),
  oC az (λg hgg=>st2 g (λe=>by subst e;exact mV az aa (by decide) hgg)),h.kids⟩
end
theorem Xf(w W:World)(bo:Nat)(ov:Value)(O:List Int)(k:Int)(ag:W.heap[bo]?=some (.cells #[ov] 22 (0,0)))(hO:W.ownsRow w.heap.size 3 encI.k ov O.length (encI.all O))(hl:O.length<=1000000)(hs:w.heap.size<=W.heap.size):
 Calls prog 27 #[.int .i64 k,.pointer (some ⟨bo,0,none⟩)] W λe w'=>e=.returned (.tuple #[])/\∃aa wb,(W.alloc (.cells #[.int .i64 k] 3)).grownBy wb ov.ownBlock/\wb.ownsRow w.heap.size 3 encI.k aa (O++[k]).length (encI.all (O++[k]))/\w'=wb.setCell ⟨bo,0,none⟩ aa:=by
 obtain⟨Q,hQ⟩:=my ((λe w'=>e=Ending.returned (.tuple #[])/\∃aa wb,(W.alloc (.cells #[.int .i64 k] 3)).grownBy wb ov.ownBlock/\wb.ownsRow w.heap.size 3 encI.k aa (O++[k]).length (encI.all (O++[k]))/\w'=wb.setCell ⟨bo,0,none⟩ aa));have HQ:=eu (λaa wb (h1:(W.alloc (.cells #[.int .i64 k] 3)).grownBy wb ov.ownBlock)(h2:wb.ownsRow w.heap.size 3 encI.k aa (O++[k]).length (encI.all (O++[k])))=>show Q (.returned (.tuple #[])) (wb.setCell ⟨bo,0,none⟩ aa)from by rw[<-hQ];exact⟨rfl,aa,wb,h1,h2,rfl⟩);rw[hQ];have c0:W.cell? ⟨bo,0,none⟩=some ov:=nz ag 0;obtain⟨ON,ah⟩:=my (O.length);have aj:=eu ah;obtain⟨oa,oc,hov⟩:=(Reads.mW (E:=encI) hO).shape;rw[ah]at hov;subst hov;obtain⟨HO,af⟩:=mR hO ag;have ak:=eu (show O.length+1<=maxLen by simp only[maxLen];omega);have av:=eu (show(O.length+1)*8<=140737488355328 by omega);have HS:=eu hs;clear hQ hO ag hs ah
 go_enter func27,ntmps27
 go_wp2_with (at_builtin;go_must (refine qm VW rfl (.tmp 3) (.tmp 5) rfl w.heap.size _ O k _ rfl rfl HO.out rfl ak.out av.out HS.out ?_;intro v4 w4 ae hg4;have hb4:w4.heap[bo]?=some (.cells #[.slice oa ON oc] 22 (0,0)):=(hg4.block bo (nQ (((mr W _).block bo (nQ af.out)).trans af.out)) (λe=>mV HO.out af.out (by decide) e.symm)).trans (((mr W _).block bo (nQ af.out)).trans af.out);have c4:=nz hb4 0;have f4:=oI hb4 0;have HD:=eu (HQ.out v4 w4 hg4 ae);obtain⟨va,vc,hv4⟩:=(Reads.mW (E:=encI) ae).shape;obtain⟨M7,ai⟩:∃M7,(O++[k]).length=M7:=⟨_,rfl⟩;have ax:M7=ON+1:=(ai.symm.trans (oq)).trans (congrArg (·+1) aj.out);rw[ai]at hv4;subst ax;subst hv4;clear ai;clear ae hg4 hb4 c0))
 go_end0
 exact HD.out
theorem Xg(w w0:World)(bo:Nat)(na:Option Addr)(nc:Nat)(l:List Nd)(n:Int)(hN:qH w (.slice na l.length nc) l)(hc:Ck l n)(hl:l.length<=1000000)(hb:Below w.heap.size w w0)(aI:w0.heap[bo]?=some (.cells #[.slice none 0 0] 22 (0,0)))(hlow:w.heap.size<=bo):
 Calls prog 26 #[.agg #[.slice na l.length nc],.func (.func 27) #[] #[.pointer (some ⟨bo,0,none⟩)]] w0 λe w'=>e=.returned (.tuple #[])/\∃ov O,Wk.All l O/\w'.heap[bo]?=some (.cells #[ov] 22 (0,0))/\w'.ownsRow w.heap.size 3 encI.k ov O.length (encI.all O)/\Below w.heap.size w w':=by
 obtain⟨Q,hQ⟩:=my ((λe (w':World)=>e=Ending.returned (.tuple #[])/\∃ov O,Wk.All l O/\w'.heap[bo]?=some (.cells #[ov] 22 (0,0))/\w'.ownsRow w.heap.size 3 encI.k ov O.length (encI.all O)/\Below w.heap.size w w'));have HQ:=eu (λw' ov O (h1:Wk.All l O)(h2:w'.heap[bo]?=some (.cells #[ov] 22 (0,0)))(h3:w'.ownsRow w.heap.size 3 encI.k ov O.length (encI.all O))(h4:Below w.heap.size w w')=>show Q (.returned (.tuple #[])) w' from by rw[<-hQ];exact⟨rfl,ov,O,h1,h2,h3,h4⟩);rw[hQ];have HX:=eu (λW (hW:Below w.heap.size w W) j x hj=>(hN.below hW).at_ j x hj);have bz:=eu (λj x hj=>hN.at_ j x hj);have HC:=eu hc;have hpos:=hc.pos;obtain⟨NN,aJ⟩:=my (l.length);have aK:=eu aJ;rw[aJ]at hl hpos⊢
 have bA:=eu (show∀W,Below w.heap.size w W->∀(j:Nat)(x:Nd),l[j]?=some x->∃b off ka kc,na=some ⟨b,off,none⟩/\W.cell? ⟨b,off+j*6+4,none⟩=some (.slice ka x.ks.length kc)/\Reads encI w (.slice ka x.ks.length kc) x.ks from λW hW j x hj=>by
  obtain⟨b,off,ka,kc,e,c0,c1,c2,c3,c4,c5,c6⟩:=bz.out j x hj
  exact⟨b,off,ka,kc,e,ku hW c4,c6⟩)
 obtain⟨w1,hw1⟩:=my (w0.alloc (.cells #[.slice na NN nc] 34));have hb1:Below w0.heap.size w0 w1:=hw1▸mr w0 _;have hbw:Below w.heap.size w w1:=lu hb hb1;obtain⟨bt,hbt⟩:=my (w0.heap.size);have htr:w1.heap[bt]?=some (.cells #[.slice na NN nc] 34 (0,0)):=by rw[<-hw1,<-hbt];exact rA _ _
 have c0:w1.cell? ⟨bt,0,none⟩=some (.slice na NN nc):=nz htr 0;obtain⟨w2,hmk,hown,hg⟩:=JB NN w.heap.size w1 (by omega) hbw.size;obtain⟨tb,htb⟩:=my (w1.heap.size);rw[htb]at hmk hown;have aR:=hmk (NN:Int) rfl;have hb2:Below w1.heap.size w1 w2:=(mF _ _).grown hg (mJ _) (λq hq=>by cases hq);obtain⟨w3,hw3⟩:=my (w2.alloc (.cells #[.iface 3 (.int .i64 0)] 20));have hb3:Below w2.heap.size w2 w3:=hw3▸mr w2 _;obtain⟨bs,hbs⟩:=my (w2.heap.size);have ai:=lu hb2 hb3;have aS:EM w w3 bt bo tb na NN nc (.slice (some ⟨bs,0,none⟩) 1 1) (.slice none 0 0) [.one 0] []:=by
  refine⟨lu hbw ai,(ai.block bt (nQ htr)).trans htr,by rw[<-hbt];exact hb.size,mU hown hb3,?_,hlow,qG encI _ _,?_,λa ks c h=>by simp at h⟩
  ·have h1:=(hb1.block bo (nQ aI)).trans aI;exact(ai.block bo (nQ h1)).trans h1
  have hsz:=hbw.size;have hsz2:=hb2.size;rw[<-hw3,<-hbs];exact J4 BU w2 _ _ [Sv.one 0] _ rfl (by decide) (by omega)
 obtain⟨bB,HW1,HW3,bC,bD,bE⟩:=qW aS hw1 hw3 hbt hbs (Wk.Ord.start hc);obtain⟨J,hJ⟩:∃J:Value->World->Nat->Prop,(λsv wr m=>∃(S:List Sv)(O:List Int)(ov:Value),EM w wr bt bo tb na NN nc sv ov S O/\Wk.Ord l O ((S.map Sv.it).reverse)/\(S.length<=O.length+1/\∀S0 a ks c,S=S0++[Sv.row a ks c]->S.length<=O.length)/\m=Wk.stM l ((S.map Sv.it).reverse))=J:=⟨_,rfl⟩
 have bF:=eu (λsv wr m (h:J sv wr m)=>show∃(S:List Sv)(O:List Int)(ov:Value),EM w wr bt bo tb na NN nc sv ov S O/\Wk.Ord l O ((S.map Sv.it).reverse)/\(S.length<=O.length+1/\∀S0 a ks c,S=S0++[Sv.row a ks c]->S.length<=O.length)/\m=Wk.stM l ((S.map Sv.it).reverse)from by rw[<-hJ]at h;exact h);have aB:=eu (λsv wr (S:List Sv)(O:List Int)(ov:Value)(h1:EM w wr bt bo tb na NN nc sv ov S O)(h2:Wk.Ord l O ((S.map Sv.it).reverse))(h3:S.length<=O.length+1/\∀S0 a ks c,S=S0++[Sv.row a ks c]->S.length<=O.length)=>show J sv wr (Wk.stM l ((S.map Sv.it).reverse))from by rw[<-hJ];exact⟨S,O,ov,h1,h2,h3,rfl⟩);clear hQ aJ hw1 hbt hb1 hbw htr hmk hown hg hb2 hw3 hb3 hbs ai aS hN hc hb aI htb hJ
 go_enter func26,ntmps26
 go_upto_region 1 with fail
 rw[HW1.out,bC.out];clear HW1;go_upto_region 3 with fail
 rw[bD.out,HW3.out];clear HW3 c0 aR;go_wp2_with fail
 go_loopw [5] (λsv wr=>∃m,J sv wr m) (λsv wr=>least (J sv wr))
 case atStart=>exact⟨_,aB.out _ _ [.one 0] [] _ bB.out bE.out ⟨by decide,λS0 a ks c e=>by
  have e2:([]:List Sv)++[Sv.one 0]=S0++[Sv.row a ks c]:=e;have e3:=(QZ e2 rfl).2;injection e3 with e3
  cases e3⟩⟩
 case round=>
  obtain⟨h1,h2⟩:=wP hrel;obtain⟨S,O,ov,hE,hO,hB,hm⟩:=bF.out _ _ _ h1;have ax:=eu hm;have bG:=hO.len;rw[aK.out]at bG;clear hrel h1 h2 hm
  rcases(show S=[]\/∃S0 x,S=S0++[x]from by
   rcases Uo S with h|⟨S0,x,h⟩
   ·exact .inl h
   exact .inr ⟨S0,x,by rw[h,V2]⟩)with rfl|⟨S0,x,rfl⟩
  ·obtain⟨sa,sc,hsv⟩:=(Reads.mW (E:=BU) hE.tZ).shape;subst hsv;have HD:=eu (HQ.out wr ov O (hO.done HC.out) hE.box hE.ord hE.qK);clear hE hO hB ax;go_wp2_with fail
   go_end0
   exact HD.out
  have hrev:((S0++[x]).map Sv.it).reverse=x.it::(S0.map Sv.it).reverse:=by simp
  rw[hrev]at hO ax;obtain⟨n0,hn0⟩:=my (S0.length);obtain⟨g,cap,hsv,hBg,hfz,hlc,hcm⟩:=pP (E:=BU) hE.tZ (by simp);have hlen:(S0++[x]).length=n0+1:=by rw[oq,hn0];rfl
  rw[hlen]at hsv hlc;subst hsv;have hcell:wr.cell? ⟨g,n0,none⟩=some (UT x):=by
   have h9:=hE.tZ.cells (g:=g) rfl _ _ ((qh BU (S0++[x]) n0 x (by rw[yF (by omega),hn0,DL];rfl) 0 (by decide)).trans rfl);rw[nX,qz,show n0*BU.k+0=n0 from by show n0*1+0=n0;omega]at h9;exact h9
  have hE1:=hE.pop hn0;obtain⟨ay,af,HB⟩:=nY hE1 hn0 hB;have bW:n0<=1000000:=by have h9:=hB.1;rw[hlen]at h9;omega
  have hkd:=hE.kids;simp only[maxLen]at hcm;have gw:IntKind.i64.wrap (((n0+1:Nat):Int)-1)=(n0:Int):=by
   rw[show((n0+1:Nat):Int)-1=(n0:Int)by omega];exact qA _ (by omega)
  have gi:(n0:Int)<((n0:Nat):Int)+1:=by omega
  have bX:n0<=cap:=by omega
  have bY:(n0:Int)<=(cap:Int):=by omega
  clear hE hE1 hB hn0 hBg hfz hrev;cases x with
  |one k=>
   obtain⟨i,hki,hil⟩:=hO.Uk k (Iq _ (by rw[uW];exact Li _ (za.2 rfl)));subst hki;rw[aK.out]at hil;obtain⟨y,hy⟩:=pG l i (by rw[aK.out];omega);obtain⟨hfr,-⟩:=Wk.Ord.fresh hy hO;have hO2:=Wk.Ord.tell HC.out hy hO;have hlt2:=Wk.QE HC.out hy ((S0.map Sv.it).reverse);obtain⟨aL,HL2⟩:=mR hO2 hlt2;have aM:=eu (XA wr na NN nc (i:Int) (by omega) (by omega));have bH:decide ((i:Int)<(NN:Int))=true:=oP (by omega);have bV:(i:Int)<(NN:Int):=by omega
   have ct:wr.cell? ⟨bt,0,none⟩=some (.slice na NN nc):=nz ay.out.tree 0;obtain⟨HY,bI⟩:=mR hy hfr;have ae:=VD (.int .i64 (i:Int));clear hO hO2 hlt2 hy hfr hkd
   change wr.cell? ⟨g,n0,none⟩=some (.iface 3 (.int .i64 (i:Int)))at hcell
   go_wp2_with fail
   rw[bH]at aM;refine aM.out.mono ?_;rintro e4 w4 ⟨rfl,hb4⟩;have aC:=ay.out.below hb4;obtain⟨bJ,bK,hc4,-⟩:=aC.mark (O':=O) hil;rw[nK bI.out]at hc4;obtain⟨hbx,hor,hsz⟩:=aC.after hil;obtain⟨w5,aN⟩:=my (w4.setCell ⟨tb,i,none⟩ (.bool true));rw[aN]at hbx hor hsz;have aT:=eu (Xf w w5 bo ov O (i:Int) hbx hor (by omega) hsz);obtain⟨aU,aO⟩:=mR aC aN;clear hb4 aC bJ hbx hor hsz aN aM hcell ct ae gw gi;go_upto_region 10 with fail
   rw[aO.out];clear hc4 bK;go_wp2_with fail
   refine aT.out.mono ?_;rintro e6 w6 ⟨rfl,aV,wb,az,aW,rfl⟩;have ag:=aU.out.tell hil (by rw[aO.out];exact mr w5 (.cells #[.int .i64 (i:Int)] 3)) az aW;obtain⟨w7,hw7⟩:=my (wb.setCell ⟨bo,0,none⟩ aV);rw[hw7]at ag⊢;have bL:w7.cell? ⟨bt,0,none⟩=some (.slice na NN nc):=nz ag.tree 0;obtain⟨nb,no,ka,kc,rfl,ck,hkr⟩:=bA.out w7 ag.qK i y HY.out;obtain⟨aP,bM⟩:=mR ag hkr;obtain⟨KL,aD⟩:=my (y.ks.length);have bZ:=eu aD;rw[aD]at ck;have aX:=eu (show S0.length+1<=maxLen by rw[af.out];simp only[maxLen];omega);have aY:=eu (show(S0.length+1)*16<=140737488355328 by rw[af.out];omega);have aZ:=eu ag.qK.size;have bf:=eu (show UT (Sv.row ka y.ks kc)=.iface 22 (.slice ka KL kc)by rw[<-aD];rfl);clear az aW hw7 ag hkr aD aT aU aO;go_wp2_with (at_builtin;go_must (refine qm XJ rfl (.tmp 52) (.tmp 60) rfl w.heap.size _ S0 (Sv.row ka y.ks kc) [.iface 22 (.slice ka KL kc)] (congrArg (λv=>[v]) bf.out) rfl aP.out.tZ rfl aX.out aY.out aZ.out ?_;intro v8 w8 aA bg))
   have bn:=(aP.out.below (mr w7 (.cells #[.iface 22 (.slice ka KL kc)] 20))).Ug bg aA (λa ks c hm=>by
    rcases rQ.1 hm with hm|hm
    ·exact aP.out.kids a ks c hm
    have e:=za.1 hm;injection e with e1 e2 e3
    subst e1 e2 e3
    exact bM.out)
   have ak:=HB.out.1;rw[hlen]at ak
   have ah:=aB.out v8 w8 (S0++[Sv.row ka y.ks kc]) (O++[(i:Int)]) aV bn (by
    have e:((S0++[Sv.row ka y.ks kc]).map Sv.it).reverse=.row y.ks::(S0.map Sv.it).reverse:=by simp[Sv.it]
    rw[e];exact aL.out) ⟨by rw[oq,oq,af.out];simp;omega,λS1 a ks c e=>by rw[oq,oq,af.out];simp;omega⟩
   have aa:=eu ah;clear aA bg bn ak ah bL ck aX aY aZ bf
   go_roundw
   case rel=>exact⟨_,aa.out⟩
   case measure=>
    rw[ax.out];refine UD ((wP ⟨_,aa.out⟩).2 _ aa.out) ?_;have e:((S0++[Sv.row ka y.ks kc]).map Sv.it).reverse=.row y.ks::(S0.map Sv.it).reverse:=by simp[Sv.it]
    rw[e];exact HL2.out
  |row a ks c=>
   have ak:=HB.out.1;have aF:=HB.out.2 S0 a ks c rfl;rw[hlen]at ak aF;have ae:=TM (.slice a ks.length c);have aj:=VE (.slice a ks.length c);have hkr:=hkd a ks c (Iq _ (za.2 rfl))
   change wr.cell? ⟨g,n0,none⟩=some (.iface 22 (.slice a ks.length c))at hcell
   cases ks with
   |nil=>
    have ah:=aB.out _ wr S0 O ov ay.out (Wk.Ord.drop hO) ⟨by rw[af.out];omega,λS1 a ks c e=>by rw[af.out];omega⟩;have aa:=eu ah;have HL2:=eu (Wk.QF l ((S0.map Sv.it).reverse));clear ah hO hkr hkd ak aF;rw[sH]at hcell ae aj;go_wp2_with fail
    go_roundw
    case rel=>exact⟨_,aa.out⟩
    case measure=>
     rw[ax.out];exact UD ((wP ⟨_,aa.out⟩).2 _ aa.out) HL2.out
   |cons z r=>
    obtain⟨kb,ko,hae,hz⟩:=Bu hkr 0 z rfl;subst hae;obtain⟨vc,hsl,aG⟩:=Sq.Xc (P:=prog) VW hkr (n:=1) (by simp);obtain⟨a2,c2,hvs⟩:=aG.shape;have hdr:(z::r).drop 1=r:=rfl;rw[hdr]at hvs aG;have aL:=eu (Wk.Ord.next hO);have HL2:=eu (Wk.QG l z r ((S0.map Sv.it).reverse));have bN:=eu (show Reads encI w (.slice a2 r.length c2) r by rw[<-hvs];exact aG);rw[nI]at hcell ae aj hsl;subst hvs;obtain⟨RL,aQ⟩:=my (r.length);have bO:=eu aQ;rw[aQ]at hcell ae aj hsl;have hsl1:∀W:World,(Instr.slice 22 (.slice (some ⟨kb,ko,none⟩) (RL+1) c) (some (.int .i64 1)) none none).run prog W=.ok (.slice a2 RL c2) W:=hsl;have gz:(0:Int)<(RL:Int)+1:=by omega
    have hz1:wr.drew.cell? ⟨kb,ko,none⟩=some (.int .i64 z):=pR (ku ay.out.qK hz);have bP:=eu (ay.out.below (mF _ wr).drew);have bQ:=eu (show S0.length+2<=maxLen by rw[af.out];simp only[maxLen];omega);have bR:=eu (show(S0.length+2)*16<=140737488355328 by rw[af.out];omega);obtain⟨HZ,bS⟩:=mR hz aF;clear hsl aG hdr hO hkr hkd ak aF hz aQ;go_upto_region 14 with fail
    clear hcell ae aj gz gw;refine mK (λwx=>wx.cell? ⟨kb,ko,none⟩=some (.int .i64 z)) 9 (by kernel_rfl) ?_;have hH:(λwx:World=>wx.cell? ⟨kb,ko,none⟩=some (.int .i64 z)) wr.drew:=hz1;refine mI 0 (.slice (some ⟨g,0,none⟩) n0 cap) rfl (by kernel_rfl) rfl mD (λW hW=>by go_simp) hH ?_;refine nA 1 (.slice (some ⟨kb,ko,none⟩) (RL+1) c) rfl (by kernel_rfl) rfl mD (λW=>by go_simp) (λ_=>hH) ?_;refine nA 2 (.slice a2 RL c2) rfl (by kernel_rfl) rfl mD (λW=>by go_simp) (λ_=>hH) ?_;refine nA 3 (.iface 22 (.slice a2 RL c2)) rfl (by kernel_rfl) rfl mD (λW=>by go_simp) (λ_=>hH) ?_;refine nA 4 (.slice (some ⟨kb,ko,none⟩) (RL+1) c) rfl (by kernel_rfl) rfl mD (λW=>by go_simp) (λ_=>hH) ?_;refine nA 5 (.pointer (some ⟨kb,ko,none⟩)) rfl (by kernel_rfl) rfl mD (λW=>by go_simp) (λ_=>hH) ?_;refine QS 8 7 6 (.int .i64 z) rfl (by kernel_rfl) rfl mD (λW hW=>by go_simp) hH ?_;refine nA 7 (.iface 3 (.int .i64 z)) rfl (by kernel_rfl) rfl mD (λW=>by go_simp) (λ_=>hH) ?_;refine oD 8 (by kernel_rfl) rfl λK hK=>?_
    go_simp;obtain⟨wx,hwx⟩:=my ((wr.alloc (.cells #[.iface 22 (.slice a2 RL c2),.iface 3 (.int .i64 z)] 20)).drew);rw[hwx];have hbx:Below wr.drew.heap.size wr.drew wx:=by rw[<-hwx];exact mr wr.drew _
    have aH:=eu (show∀jj cc,(BU.all [Sv.row a2 r c2,Sv.one z])[jj]?=some cc->wx.cell? ⟨wr.heap.size,jj,none⟩=some cc from by
     intro jj cc hj;rw[<-hwx];show(wr.alloc _).cell? ⟨wr.heap.size,jj,none⟩=_;rw[wh];have h9:([.iface 22 (.slice a2 RL c2),.iface 3 (.int .i64 z)]:List Value)[jj]?=some cc:=by rw[<-bO.out];exact hj
     simpa using h9)
    have av:=eu (bP.out.below hbx);have hz2:wx.cell? ⟨kb,ko,none⟩=some (.int .i64 z):=ku av.out.qK HZ.out;have hws:w.heap.size<=wx.heap.size:=av.out.qK.size;clear hwx hbx;refine hK.out _ _ (λ_=>hz2) (λhH2=>?_);clear hK K;replace hH:=hH2 (by kernel_rfl);clear hH2;try simp only[Act.put,mM,mP,mO]
    refine oD 9 (by kernel_rfl) rfl λK hK=>?_
    refine nU XJ rfl (.tmp 67) (.tmp 75) rfl w.heap.size (.slice (some ⟨g,0,none⟩) n0 cap) S0 rfl av.out.tZ wr.heap.size 2 [Sv.row a2 r c2,Sv.one z] rfl rfl aH.out bQ.out bR.out hws ?_;intro v6 w6 hown6 az bq
    have ag:=av.out.Ug az hown6 (λa ks c hm=>by
     rcases rQ.1 hm with hm|hm
     ·exact av.out.kids a ks c hm
     rcases xg.1 hm with e|hm
     ·injection e with e1 e2 e3
      subst e1 e2 e3;exact bN.out
     have e:=za.1 hm
     cases e)
    have bT:=eu ag;clear hown6 az bq ag aH av hws hz1 hz2;refine hK.out _ _ (pV (by kernel_rfl)) (λ_=>?_);clear hK K;try simp only[Act.put,mM,mP,mO]
    refine nA 10 v6 rfl (by kernel_rfl) rfl mD (λW=>by go_simp) (pV (by kernel_rfl)) ?_;try rename_i bU
    try clear bU hH
    refine mH (by kernel_rfl) ?_ _
    have ah:=aB.out v6 w6 (S0++[Sv.row a2 r c2,Sv.one z]) O ov bT.out (by
     have e:((S0++[Sv.row a2 r c2,Sv.one z]).map Sv.it).reverse=.one z::.row r::(S0.map Sv.it).reverse:=by simp[Sv.it]
     rw[e];exact aL.out) ⟨by have h9:=bS.out;rw[oq,af.out];simp;omega,λS1 a ks c e=>by
      have e2:(S0++[Sv.row a2 r c2])++[Sv.one z]=S1++[Sv.row a ks c]:=by rw[<-e];simp
      have e3:=(QZ e2 rfl).2;injection e3 with e3
      cases e3⟩
    have aa:=eu ah;clear ah hsl1;go_wp2_with fail
    go_roundw
    case rel=>exact⟨_,aa.out⟩
    case measure=>
     rw[ax.out];refine UD ((wP ⟨_,aa.out⟩).2 _ aa.out) ?_;have e:((S0++[Sv.row a2 r c2,Sv.one z]).map Sv.it).reverse=.one z::.row r::(S0.map Sv.it).reverse:=by simp[Sv.it]
     rw[e];exact HL2.out
theorem VF(w:World)(nv:Value)(l:List Nd)(n:Int)(hN:qH w nv l)(hc:Ck l n)(hl:l.length<=1000000):
 Calls prog 10 #[.agg #[nv]] w λe w'=>∃v O,e=.returned v/\Wk.All l O/\w'.ownsRow w.heap.size 3 1 v O.length (encI.all O)/\Below w.heap.size w w':=by
 obtain⟨na,nc,rfl⟩:=hN.shape;obtain⟨Q,hQ⟩:=my ((λe (w':World)=>∃v O,e=Ending.returned v/\Wk.All l O/\w'.ownsRow w.heap.size 3 1 v O.length (encI.all O)/\Below w.heap.size w w'));have HQ:=eu (λw' v O (h1:Wk.All l O)(h2:w'.ownsRow w.heap.size 3 encI.k v O.length (encI.all O))(h3:Below w.heap.size w w')=>show Q (.returned v) w' from by rw[<-hQ];exact⟨v,O,rfl,h1,h2,h3⟩);rw[hQ];obtain⟨w1,hw1⟩:=my (w.alloc (.cells #[.slice na l.length nc] 34));obtain⟨w2,hw2⟩:=my (w1.alloc (.cells #[.slice none 0 0] 22));have hb1:Below w.heap.size w w1:=hw1▸mr w _;have hb2:Below w1.heap.size w1 w2:=hw2▸mr w1 _;have hb:=lu hb1 hb2;obtain⟨bt,hbt⟩:=my (w.heap.size);obtain⟨bo,aa⟩:=my (w1.heap.size);have hs1:bt+1=bo:=by rw[<-aa,<-hw1,<-hbt];simp
 have x0:w2.cell? ⟨bt,0,none⟩=some (.slice na l.length nc):=by rw[<-hw2];refine oG ?_;rw[<-hw1,<-hbt];exact at_new rfl
 have hbk:w2.heap[bo]?=some (.cells #[.slice none 0 0] 22 (0,0)):=by rw[<-hw2,<-aa];exact rA _ _
 have HE:=eu (Xg w w2 bo na nc l n hN hc hl hb hbk (by rw[hbt,<-hs1];omega));obtain⟨NN,ae⟩:=my (l.length);rw[ae]at hw1 x0 HE⊢;obtain⟨HW1,HW2,ag,ah,af⟩:=BN hw1 hw2 hbt hs1 aa;clear hQ hw1 hw2 hb1 hb2 hb hbt aa hs1 hbk hN hc ae
 go_enter func10,ntmps10
 go_upto_region 2 with fail
 rw[HW1.out,ag.out]
 first|rw[ah.out,HW2.out]|rw[af.out,HW2.out]
 clear HW1 HW2;go_wp2_with fail
 refine HE.out.mono ?_;rintro e w3 ⟨rfl,ov,O,hA,hbx,hor,hbl⟩;have c3:w3.cell? ⟨bo,0,none⟩=some ov:=nz hbx 0;have HD:=eu (HQ.out w3 ov O hA hor hbl);clear hA hbx hor hbl x0 HE;go_wp2_with fail
 first|exact HD.out|(go_ret;exact HD.out)
end
section
open Go.RowKit
open Sq
open Ar
def OJ(w:World)(a:Option Addr)(ks:List Int):Prop:=∀(j:Nat)(z:Int),ks[j]?=some z->∃b off,a=some ⟨b,off,none⟩/\w.cell? ⟨b,off+j,none⟩=some (.int .i64 z)
def vB(w:World)(v:Value)(l:List Nd):Prop:=∃L:List Ln,L.map Ln.nd=l/\Reads uY w v L/\∀p∈L,p.n=p.nd.ks.length/\p.n<=maxLen/\OJ w p.a p.nd.ks
section
variable {w w':World}{v:Value}{l:List Nd}
theorem qH.weak(h:qH w v l):vB w v l:=by
 obtain⟨L,h1,h2,h3⟩:=h;refine⟨L,h1,h2,λp hp=>?_⟩;have hk:=h3 p hp;have hn:=J2 hk;refine⟨hn,by rw[hn];exact hk.size_le,λj z hz=>?_⟩;have hk':Reads encI w (.slice p.a p.nd.ks.length p.c) p.nd.ks:=by rw[<-hn];exact hk
 exact Bu hk' j z hz
theorem vB.below(h:vB w v l)(hb:Below w.heap.size w w'):vB w' v l:=by
 obtain⟨L,h1,h2,h3⟩:=h;refine⟨L,h1,h2.below hb,λp hp=>⟨(h3 p hp).1,(h3 p hp).2.1,λj z hz=>?_⟩⟩;obtain⟨b,off,e,hc⟩:=(h3 p hp).2.2 j z hz;exact⟨b,off,e,ku hb hc⟩
theorem vB.shape(h:vB w v l):∃a cap,v=.slice a l.length cap:=by
 obtain⟨L,h1,h2,_⟩:=h;obtain⟨a,cap,e⟩:=h2.shape;exact⟨a,cap,by rw[e,<-h1,tV]⟩
theorem vB.at_{a:Option Addr}{cap:Nat}(h:vB w (.slice a l.length cap) l)(j:Nat)(x:Nd)(hj:l[j]?=some x):
 ∃b off ka kc,a=some ⟨b,off,none⟩/\w.cell? ⟨b,off+j*6,none⟩=some (.int .i64 x.k)/\w.cell? ⟨b,off+j*6+1,none⟩=some (.int .i64 x.f)/\w.cell? ⟨b,off+j*6+2,none⟩=some (.int .i64 x.t)/\w.cell? ⟨b,off+j*6+3,none⟩=some (.int .i64 x.u)/\
  w.cell? ⟨b,off+j*6+4,none⟩=some (.slice ka x.ks.length kc)/\w.cell? ⟨b,off+j*6+5,none⟩=some (.bool x.y)/\OJ w ka x.ks/\x.ks.length<=maxLen:=by
 obtain⟨L,h1,h2,h3⟩:=h;have hlen:L.length=l.length:=by rw[<-h1,tV]
 rw[<-hlen]at h2;rw[<-h1,r9]at hj;cases hp:L[j]? with
 |none=>rw[hp]at hj;cases hj
 |some p=>
  rw[hp]at hj;injection hj with hj
  subst hj;obtain⟨b,off,e,hc⟩:=h2.at_ j p hp;obtain⟨hn,hm,hk⟩:=h3 p (sI hp);refine⟨b,off,p.a,p.c,e,hc 0 _ rfl,hc 1 _ rfl,hc 2 _ rfl,hc 3 _ rfl,?_,hc 5 _ rfl,hk,by rw[<-hn];exact hm⟩;rw[<-hn];exact hc 4 _ rfl
end
end
section
open Go.RowKit
open Sq
open Ar
namespace Ar
def inc(s:List Int)(n:Int):List Int:=match s[n.toNat]? with
 |some c=>s.set n.toNat (c+1)
 |none=>s
def uT(s:List Int)(ks:List Int):List Int:=ks.foldl inc s
theorem KX(s:List Int)(n:Int):(inc s n).length=s.length:=by
 unfold inc;split
 ·rw[xe]
 rfl
theorem CX:∀(ks s:List Int),(uT s ks).length=s.length
 |[],s=>rfl
 |n::r,s=>by
  show(uT (inc s n) r).length=_;rw[CX r,KX]
theorem M5(s ks:List Int)(k:Nat)(n:Int)(h:ks[k]?=some n):uT s (ks.take (k+1))=inc (uT s (ks.take k)) n:=by
 rw[Ir,h];unfold uT;rw[Q9];rfl
theorem VH{s:List Int}{b:Int}(h:∀c∈s,0<=c/\c<=b)(n:Int):∀c∈inc s n,0<=c/\c<=b+1:=by
 unfold inc;intro c hc;split at hc
 ·rename_i d hd;rcases List.mem_or_eq_of_mem_set hc with h1|h1
  ·have:=h c h1;omega
  have:=h d (sI hd);omega
 have:=h c hc;omega
theorem FO:∀(ks s:List Int)(b:Int),(∀c∈s,0<=c/\c<=b)->∀c∈uT s ks,0<=c/\c<=b+ks.length
 |[],s,b=>λh c hc=>by have:=h c hc;simp;omega
 |n::r,s,b=>λh c hc=>by
  have:=FO r (inc s n) (b+1) (VH h n) c hc;simp only[nI];omega
end Ar
def I4(R:Bool)(B:Nat)(S:List Int)(v:Value)(w:World)(e:Ending)(w':World):Prop:=
 e=.returned (.bool R)/\Below B w w'/\(R=true->w'.ownsRow B 3 encI.k v S.length (encI.all S))
theorem Xh(v:Value)(l:List Nd)(i:Nat)(x:Nd)(s:List Int)(sg sc B:Nat)(w:World)(h:∀W,Below B w W->vB W v l)(hl:l.length<=20000)(hx:l[i]?=some x)(hk:x.ks.length<=20000)(hs:s.length=l.length)
 (ho:w.ownsRow B 3 encI.k (.slice (some ⟨sg,0,none⟩) l.length sc) s.length (encI.all s)) (hb:∀c∈s,0<=c/\c<=1000000000) (hB:B<=w.heap.size):
 Calls prog 28 #[v,.int .i64 i,.slice (some ⟨sg,0,none⟩) l.length sc] w (I4 (yC l i) B (uT s x.ks) (.slice (some ⟨sg,0,none⟩) l.length sc) w):=by
 have hi:=(nC.1 hx).1;have h0:=h w (mF _ _);obtain⟨a,cap,rfl⟩:=h0.shape;obtain⟨bb,off,_,_,rfl,-⟩:=h0.at_ i x hx;have hkn:yC l i=vI l i x x.f x.ks:=by unfold yC;rw[hx]
 rw[hkn];obtain⟨R,hR⟩:=my (vI l i x x.f x.ks);rw[hR];obtain⟨N,hN⟩:=my (l.length);rw[hN]at hl hi hs ho⊢;have HQ:=eu (λb w'=>show(b=R/\Below B w w'/\(R=true->w'.ownsRow B 3 encI.k (.slice (some ⟨sg,0,none⟩) N sc) (uT s x.ks).length (encI.all (uT s x.ks))))->I4 R B (uT s x.ks) (.slice (some ⟨sg,0,none⟩) N sc) w (.returned (.bool b)) w' from λh=>⟨by rw[h.1],h.2⟩);obtain⟨Q,hQ⟩:=my (I4 R B (uT s x.ks) (.slice (some ⟨sg,0,none⟩) N sc) w);rw[hQ]at HQ⊢;have HX:=eu (λW (hb:Below B w W) j y (hj:l[j]?=some y)=>(h W hb).at_ j y hj);obtain⟨HN,HR,aB,HO,aC,HS⟩:=qW hN hR hx ho hb hs;obtain⟨n,hn⟩:=my (x.ks.length);have Hn:=eu hn;rw[hn]at hk;have hii:(i:Int)<(N:Int):=by omega
 have hY:=HX.out w (mF _ _) i x hx;obtain⟨_,_,ka,kc,he,x0,x1,x2,x3,x4,x5,hkr⟩:=hY;injection he with he
 injection he with e1 e2
 subst e1 e2;clear h h0 hx hb hN hR hQ hkn ho hs hn
 go_enter func28,ntmps28
 go_wp2_with fail
 go_loopw [7,8] (λav kv wr=>∃(k:Nat)(p:Int)(S:List Int),av=.int .i64 p/\kv=.int .i64 k/\k<=n/\Hid (vI l i x p (x.ks.drop k)=R)/\Hid (S=uT s (x.ks.take k))/\Hid (wr.ownsRow B 3 encI.k (.slice (some ⟨sg,0,none⟩) N sc) S.length (encI.all S))/\Hid (Below B w wr)) (λ_ kv _=>n-(intOf kv).toNat)
 case atStart=>exact⟨0,x.f,s,rfl,rfl,nO _,HR,eu rfl,HO,eu (mF _ _)⟩
 case round=>
  clear x0 x1 x2 x3 x4 x5 hkr ka kc;obtain⟨k,p,S,rfl,rfl,hk1,HF,ae,aj,HB⟩:=hrel;obtain⟨b',off',ka,kc,he,x0,x1,x2,x3,x4,x5,hkr⟩:=HX.out wr HB.out i x aB.out;injection he with he
  injection he with e1 e2
  subst e1 e2;rw[Hn.out]at x4;have aD:=eu hkr;clear x0 x1 x3 x5 hkr;by_cases hlt:k<n
  ·obtain⟨z,hz⟩:=pG x.ks k (by rw[Hn.out];exact hlt);have hdr:x.ks.drop k=z::x.ks.drop (k+1):=by
    have h1:=(nC.1 hz)
    rw[yE h1.1,h1.2]
   obtain⟨kb,ko,rfl,hzc⟩:=aD.out.1 k z hz;have hkk:(k:Int)<(n:Int):=by omega
   have ah:=HF.out;rw[hdr]at ah;have HZ:=eu hz;obtain⟨bd,hbd⟩:=my (Iz l i x p z);obtain⟨aa,ak⟩:=mR hbd ah;clear hz hdr ah hbd;go_upto_region 6 with fail
   clear x4 hzc
   go_cut [84] (λq wx=>q=.bool bd/\Below wr.heap.size wr wx)
   case first=>
    have hm:=aa.out;unfold Iz at hm;rw[HN.out]at hm;by_cases q1:z<=0
    ·obtain rfl:bd=true:=by rw[<-hm];simp[q1]
     clear hm;go_wp2_with fail
     go_big_quiet (fail)
     have hq:=nG (mF wr.heap.size wr) nq;go_wp2_with fail
     go_meet
     exact⟨rfl,hq⟩
    have e1:decide (z<=0)=false:=nK q1;by_cases q2:(N:Int)<=z
    ·obtain rfl:bd=true:=by rw[<-hm];simp[q2]
     clear hm q1;go_wp2_with fail
     go_big_quiet (fail)
     have hq:=nG (mF wr.heap.size wr) nq;go_wp2_with fail
     go_meet
     exact⟨rfl,hq⟩
    have e2:decide ((N:Int)<=z)=false:=nK q2;obtain⟨zn,rfl⟩:∃zn:Nat,z=(zn:Int):=⟨z.toNat,by omega⟩
    obtain⟨c,hc⟩:=pG l zn (by rw[HN.out];omega);rw[e1,e2,oN,hc]at hm;dsimp only at hm;obtain⟨b9,ax,_,_,he,-,c1,c2,c3,-,-,-⟩:=HX.out wr HB.out zn c hc;injection he with he
    injection he with e3 e4
    subst e3 e4;have g1:(zn:Int)<(N:Int):=by omega
    have aG:decide (zn=0)=false:=nK (by omega);have aH:decide (N<=zn)=false:=nK (by omega);clear hc;by_cases q3:c.u=(i:Int)
    case neg=>
     obtain rfl:bd=true:=by rw[<-hm];simp[q3]
     have n3:(c.u==(i:Int))=false:=by simp[q3]
     have m3:(c.u !=(i:Int))=true:=by simp[q3]
     clear hm q1 q2 q3;go_wp2_with fail
     go_big_quiet (fail)
     have hq:=nG (mF wr.heap.size wr) nq;go_wp2_with fail
     go_meet
     exact⟨rfl,hq⟩
    have n3:(c.u==(i:Int))=true:=by simp[q3]
    have m3:(c.u !=(i:Int))=false:=by simp[q3]
    by_cases q4:c.f<p
    ·obtain rfl:bd=true:=by rw[<-hm];simp[q4]
     clear hm q1 q2 q3;go_wp2_with fail
     go_big_quiet (fail)
     have hq:=nG (mF wr.heap.size wr) nq;go_wp2_with fail
     go_meet
     exact⟨rfl,hq⟩
    have e4:decide (c.f<p)=false:=nK q4;by_cases q5:x.t<c.t
    ·obtain rfl:bd=true:=by rw[<-hm];simp[q5]
     clear hm q1 q2 q3 q4;go_wp2_with fail
     go_big_quiet (fail)
     have hq:=nG (mF wr.heap.size wr) nq;go_wp2_with fail
     go_meet
     exact⟨rfl,hq⟩
    have e5:decide (x.t<c.t)=false:=nK q5;by_cases q6:c.t<c.f
    ·obtain rfl:bd=true:=by rw[<-hm];simp[q6]
     clear hm q1 q2 q3 q4 q5;go_wp2_with fail
     go_big_quiet (fail)
     have hq:=nG (mF wr.heap.size wr) nq;go_wp2_with fail
     go_meet
     exact⟨rfl,hq⟩
    obtain rfl:bd=false:=by rw[<-hm];simp[q3,q4,q5,q6]
    have e6:decide (c.t<c.f)=false:=nK q6;clear hm q1 q2 q3 q4 q5 q6;go_wp2_with fail
    go_big_quiet (fail)
    have hq:=nG (mF wr.heap.size wr) nq;go_wp2_with fail
    go_meet
    exact⟨rfl,hq⟩
   case rest=>
   obtain⟨rfl,hbc⟩:=hcut
   rename World=>w4
   have hwr:=HB.out.size;have ai:=eu (HB.out.trans (hbc.mono (qy hB hwr)));cases bd with
   |true=>
    have hr:R=false:=by rw[<-ak.out];exact EW aa.out
    have HD:=eu (HQ.out false w4 ⟨hr.symm,ai.out,λe=>absurd (hr.symm.trans e) (by decide)⟩);clear hr hbc;go_wp2_with fail
    exact HD.out
   |false=>
    obtain⟨c,h0z,aF,hc,hst⟩:=Dm (r:=x.ks.drop (k+1)) aa.out;rw[HN.out]at aF;obtain⟨zn,rfl⟩:∃zn:Nat,z=(zn:Int):=⟨z.toNat,by omega⟩
    rw[oN]at hc;obtain⟨b9,ax,_,_,he,-,-,c2,-,-,-,-⟩:=HX.out w4 ai.out zn c hc;injection he with he
    injection he with e3 e4
    subst e3 e4;have aI:S.length=N:=by rw[ae.out,CX,HS.out]
    obtain⟨d,hd⟩:=pG S zn (by omega);have hrow:w4.ownsRow B 3 encI.k (.slice (some ⟨sg,0,none⟩) N sc) S.length (encI.all S):=own_below aj.out hbc;have cs:w4.cell? ⟨sg,zn,none⟩=some (.int .i64 d):=by
     have h5:=hrow.cells (g:=sg) rfl _ _ ((qh encI S zn d hd 0 (by decide)).trans rfl);rw[nX,qz]at h5;rw[show zn*encI.k+0=zn from by show zn*1+0=zn;omega]at h5;exact h5
    obtain⟨g',cp',hv',hBg,af,ay,hcm'⟩:=pP hrow (by omega);have ex:=(sK hv').1;injection ex with ex
    injection ex with ex
    subst ex;have fs:w4.frozen? ⟨sg,zn,none⟩=false:=af zn;have hd1:=FO (x.ks.take k) s 1000000000 aC.out d (by rw[<-ae.out];exact sI hd);have hd2:(x.ks.take k).length<=20000:=by rw[qx];omega
    have hwp:IntKind.i64.wrap (d+1)=d+1:=qA _ (by omega);have hrow2:=uf hrow zn 0 d (d+1) (.int .i64 (d+1)) hd rfl (by decide);rw[show zn*encI.k+0=zn from by show zn*1+0=zn;omega]at hrow2;have ag:S.set zn (d+1)=uT s (x.ks.take (k+1)):=by
     rw[M5 s x.ks k _ HZ.out,<-ae.out];unfold inc;rw[oN,hd]
    rw[ag]at hrow2;have HR2:=eu hrow2;have az:=eu (ai.out.setCell (p:=⟨sg,zn,none⟩) (by show B<=sg;exact hBg) (.int .i64 (d+1)));have aA:=eu (hst.symm.trans ak.out);have g1:(zn:Int)<(N:Int):=by omega
    clear hst hc hd hrow hd1 hd2 hrow2 ag af ay hcm' hv';go_wp2_with fail
    go_roundw
    case rel=>
     first
      |exact⟨k+1,c.t,_,rfl,by go_num,by omega,aA,eu rfl,HR2,az⟩
      |((repeat apply Exists.intro);exact⟨⟨k+1,c.t,_,rfl,by go_num,by omega,aA,eu rfl,HR2,az⟩,rfl⟩)
    case measure=>simp[intOf];omega
  obtain rfl:k=n:=by omega
  have hkk:¬((k:Int)<(k:Int)):=by omega
  have hr:true=R:=by
   have h:=HF.out;rw[Q7 (by rw[Hn.out];exact mJ _)]at h;rw[<-h];rfl
  have hS2:S=uT s x.ks:=by rw[ae.out,DI (by rw[Hn.out];exact mJ _)]
  have HD:=eu (HQ.out true wr ⟨hr,HB.out,λ_=>hS2▸aj.out⟩);clear hr hS2 hlt;go_wp2_with fail
  exact HD.out
end
end Go.Proofs.Ytfbiffdmhcjhbaa

import Derived.Test.YtfbiffdmhcjhbaaZa01
import Derived.Below
import Derived.BigQuiet
import Derived.Deep.RegionHeld
import Derived.Deep.RegionHeld3
import Derived.KernelRfl
import Derived.OrdersHeld
import Derived.Shelf.SlSorted.Search
import Derived.StillTail
import Derived.Test.YtfbiffdmhcjhbaaProg
set_option linter.all false
set_option maxHeartbeats 16000000
set_option maxRecDepth 100000
namespace Go.Proofs.Ytfbiffdmhcjhbaa
open Go.RowKit Try
def Ls:=@wpOp_mono
def uX:=@getD_set_ne
def yI:=@ready_mono
def DT:=@mem_ready
def Nw:=@Oper.apart_spec
def Ny:=@wpOp_putIf
def Nz:=@execOp_put
def NA:=@wanted_put
def NC:=@Region.noSelect_spec
def ND:=@Region.free_spec
def UI:=@AllReadyH.cons
end Go.Proofs.Ytfbiffdmhcjhbaa
namespace Go
open Go.Proofs.Ytfbiffdmhcjhbaa
section
variable {P:Program}{ops:Array Oper}{Q:Exit->Act->World->Prop}{md:Region.Mode}{C:World->Prop}{st:Nat}
def nZ(P:Program)(m:Sem Next)(v:Value)(w:World):Prop:=
 match m.run P w with
 | .ok (.value u) w'=>u=v/\w'=w
 | .ok (.enter f args) w'=>w'=w/\Calls P f args w (λe w''=>e=.returned v/\w=w'')
 |_=>False
theorem nZ.of_run{m:Sem Next}{v:Value}{w:World}(h:m.run P w=.ok (.value v) w):nZ P m v w:=by
 unfold nZ;rw[h];exact⟨rfl,rfl⟩
def o7(P:Program)(ops:Array Oper)(C:World->Prop)(o:Oper)(v:Value)(a:Act):Prop:=
 (Region.wanted o (yielded ops a.tmps)=true/\∀w,C w->nZ P (execOp a.eval o) v w)\/
 (Region.wanted o (yielded ops a.tmps)=false/\v=undef)
theorem o7.of_same{o:Oper}{v:Value}{a a':Act}(hy:o7 P ops C o v a)(he:execOp a'.eval o=execOp a.eval o)
 (hw:Region.wanted o (yielded ops a'.tmps)=Region.wanted o (yielded ops a.tmps)):o7 P ops C o v a':=by
 unfold o7 at*;rw[he,hw];exact hy
theorem o7.wpOp{i:Nat}{o:Oper}{v:Value}{a:Act}(hi:ops[i]?=some o)(hy:o7 P ops C o v a)
 {K:Act->World->Prop} {w:World} (hC:C w) (h:K (a.put o.dst v) w):wpOp P ops Q i K a w:=by
 unfold Go.wpOp;simp only[hi];rcases hy with⟨hw,hv⟩|⟨hw,rfl⟩
 ·rw[gu hw];refine .inl ?_;have hq:=hv w hC;unfold nZ at hq;unfold Oper.wp
  revert hq
  generalize (execOp a.eval o).run P w=r;intro hq;cases r with
  |halt x w'=>exact hq.elim
  |ok n w' =>
   cases n<;>simp only at hq
   case value u=>
    obtain⟨rfl,rfl⟩:=hq;exact h
   case enter f args=>
    obtain⟨rfl,hc⟩:=hq;simp only[Oper.upon];refine Calls.mono hc λe w'' he=>?_
    obtain⟨rfl,rfl⟩:=he;exact h
 rw[fu (by rw[hw];decide)];exact h
theorem uP{j:Nat}{oj:Oper}{R:Act->Prop}(hj:ops[j]?=some oj)(hp:∀a u,R a->R (a.put oj.dst u))(hd:∀a d,R a->R {a with defers:=d::a.defers}){K:Act->World->Prop}{a:Act}{w:World}
 (hR:R a) (h:wpOp P ops Q j K a w):wpOp P ops Q j (λa' w'=>R a'/\K a' w') a w:=by
 unfold wpOp at*;simp only[hj]at*;split
 ·rename_i hw;simp only[hw,if_true]at h;rcases h with h|h
  ·refine .inl ?_;unfold Oper.wp at*;generalize (execOp a.eval oj).run P w=r at*;cases r with
   |ok n w' =>
    cases n<;>simp only[Oper.upon]at h⊢
    case value u=>exact⟨hp _ _ hR,h⟩
    case skip=>exact⟨hp _ _ hR,h⟩
    case defer d=>exact⟨hp _ _ (hd _ _ hR),h⟩
    case enter f args=>
     refine Calls.mono h λe w'' he=>?_
     cases e with
     |returned u=>exact⟨hp _ _ hR,he⟩
     |panicked c=>exact he
     |outgrown=>exact he
    case row row args=>exact Rows.mono h λu w'' he=>⟨hp _ _ hR,he⟩
   |halt x w' =>
    cases x<;>simp only[Oper.upon]at h⊢
    case panic u=>exact h
  exact .inr h
 rename_i hw;simp only[hw]at h;exact⟨hp _ _ hR,h⟩
def nW(P:Program)(md:Region.Mode)(ops:Array Oper)(Q:Exit->Act->World->Prop)(C:World->Prop)(st:Nat):Nat->Array Bool->Act->World->Prop
 |0,listed,a,w=>Region.ready md ops listed=[]/\Q .normal a w
 |fuel+1,listed,a,w=>
  (Region.ready md ops listed=[]->Q .normal a w)/\
  ∀i∈Region.ready md ops listed,wpOp P ops Q i (λa' w'=>((listed.setIfInBounds i true).getD st true=false->C w')/\nW P md ops Q C st fuel (listed.setIfInBounds i true) a' w') a w
theorem C6:∀(fuel:Nat)(listed:Array Bool)(a:Act)(w:World),nW P md ops Q C st fuel listed a w->wpAny P md ops Q fuel listed a w
 |0,_,_,_,h=>h
 |fuel+1,_,_,_,h=>⟨h.1,λi hi=>Ls (λa' w' h'=>C6 fuel _ a' w' h'.2) (h.2 i hi)⟩
theorem FT{i:Nat}{oi ae:Oper}{v:Value}(hi:ops[i]?=some oi)(hsel:∀(j:Nat)(o:Oper) cs b,ops[j]?=some o->o.op≠.select cs b)
 (hQ:∀c a w,Q (.panic c) (a.put oi.dst v) w->Q (.panic c) a w) (hst:ops[st]?=some ae) (af:∃e∈ae.after,Region.binds md e=true/\e.on=i) (hne:i≠st):
 ∀(fuel:Nat)(listed:Array Bool)(a:Act)(w:World),
  (∀j oj,ops[j]?=some oj->j≠i->listed.getD j true=false->(∀e∈oj.after,Region.binds md e=true->e.on≠i)->oi.apart ops oj=true)->
  i∈Region.ready md ops listed->listed.getD st true=false->o7 P ops C oi v a->C w->
  nW P md ops Q C st fuel (listed.setIfInBounds i true) (a.put oi.dst v) w->nW P md ops Q C st (fuel+1) listed a w:=by
 have ag:∀(listed:Array Bool),(listed.setIfInBounds i true).getD st true=listed.getD st true:=λlisted=>uX true hne
 intro fuel
 induction fuel with
 |zero=>
  intro listed a w _ hr hs hy hC H;refine⟨λh=>(by rw[h]at hr;cases hr),λj hj=>?_⟩;by_cases hji:j=i
  ·subst hji;exact hy.wpOp hi hC ⟨λ_=>hC,H⟩
  have h1:=yI hj hji;rw[H.1]at h1;cases h1
 |succ fuel ih=>
  intro listed a w hfree hr hs hy hC H;refine⟨λh=>(by rw[h]at hr;cases hr),λj hj=>?_⟩;by_cases hji:j=i
  ·subst hji;exact hy.wpOp hi hC ⟨λ_=>hC,H⟩
  have h1:=H.2 j (yI hj hji);obtain⟨hjun,oj,hoj,hall⟩:=DT.1 hj;have hnot:∀e∈oj.after,Region.binds md e=true->e.on≠i:=λe he hb heq=>by
   have h3:=hall e he hb;have h0:=(DT.1 hr).1;rw[heq]at h3;rcases sJ i listed.size with h'|h'
   ·simp[h']at h0 h3;rw[h0]at h3;cases h3
   simp[Array.getElem?_eq_none h']at h3
  have aa:j≠st:=λe=>by
   subst e;rw[hoj]at hst;obtain rfl:=qJ hst;obtain⟨e,he,hb,heq⟩:=af;exact hnot e he hb heq
  have hap:=hfree j oj hoj hji hjun hnot;obtain⟨_,_,h3⟩:=Nw hap;have hw:YieldsIf P ops (λ_=>False) oi v a:=hy.imp (λh=>⟨h.1,λ_ h=>h.elim⟩) id;have h2:=Ny (S:=λ_=>False) hoj hap (λcs b=>hsel i oi cs b hi) (λcs b=>hsel j oj cs b hoj) hQ hw h1;have h4:=uP (R:=λa'=>o7 P ops C oi v a') hoj
   (λa' u hR=>hR.of_same (Nz oi (λcs b=>hsel i oi cs b hi) a' oj.dst u h3) (NA oi a' oj.dst u h3)) (λa' d hR=>hR.of_same rfl rfl) hy h2
  have hfree':∀k ok,ops[k]?=some ok->k≠i->(listed.setIfInBounds j true).getD k true=false->
   (∀e∈ok.after,Region.binds md e=true->e.on≠i)->oi.apart ops ok=true:=λk ok hk hki hun hno=>by
   refine hfree k ok hk hki ?_ hno;by_cases hjk:j=k
   ·subst hjk;exact hjun
   rw[uX true hjk]at hun;exact hun
  have hs':(listed.setIfInBounds j true).getD st true=false:=by rw[uX true aa];exact hs
  refine Ls (λa' w' h5=>?_) h4;obtain⟨h6,h7,h8,h9⟩:=h5;have hC':C w':=h8 (by rw[uX true aa,ag];exact hs);refine⟨λ_=>hC',ih (listed.setIfInBounds j true) a' w' hfree' (yI hr (Iv hji)) hs' h6 hC' ?_⟩;rw[K7 _ _ hji];exact h9
theorem DZ{i k:Nat}{oi ae ok:Oper}{v:Value}(hi:ops[i]?=some oi)(hsel:∀(j:Nat)(o:Oper) cs b,ops[j]?=some o->o.op≠.select cs b)
 (hQ:∀c a w,Q (.panic c) (a.put oi.dst v) w->Q (.panic c) a w) (hst:ops[st]?=some ae) (hok:ops[k]?=some ok) (af:∃e∈ae.after,Region.binds md e=true/\e.on=k) (ag:∃e∈ok.after,Region.binds md e=true/\e.on=i) (hne:i≠st):
 ∀(fuel:Nat)(listed:Array Bool)(a:Act)(w:World),
  (∀j oj,ops[j]?=some oj->j≠i->listed.getD j true=false->(∀e∈oj.after,Region.binds md e=true->e.on≠i)->oi.apart ops oj=true)->
  i∈Region.ready md ops listed->listed.getD st true=false->listed.getD k true=false->o7 P ops C oi v a->C w->
  nW P md ops Q C st fuel (listed.setIfInBounds i true) (a.put oi.dst v) w->nW P md ops Q C st (fuel+1) listed a w:=by
 have ah:∀(listed:Array Bool),(listed.setIfInBounds i true).getD st true=listed.getD st true:=λlisted=>uX true hne
 intro fuel
 induction fuel with
 |zero=>
  intro listed a w _ hr hs hk hy hC H;refine⟨λh=>(by rw[h]at hr;cases hr),λj hj=>?_⟩;by_cases hji:j=i
  ·subst hji;exact hy.wpOp hi hC ⟨λ_=>hC,H⟩
  have h1:=yI hj hji;rw[H.1]at h1;cases h1
 |succ fuel ih=>
  intro listed a w hfree hr hs hk hy hC H;refine⟨λh=>(by rw[h]at hr;cases hr),λj hj=>?_⟩;by_cases hji:j=i
  ·subst hji;exact hy.wpOp hi hC ⟨λ_=>hC,H⟩
  have h1:=H.2 j (yI hj hji);obtain⟨hjun,oj,hoj,hall⟩:=DT.1 hj;have hnot:∀e∈oj.after,Region.binds md e=true->e.on≠i:=λe he hb heq=>by
   have h3:=hall e he hb;have h0:=(DT.1 hr).1;rw[heq]at h3;rcases sJ i listed.size with h'|h'
   ·simp[h']at h0 h3;rw[h0]at h3;cases h3
   simp[Array.getElem?_eq_none h']at h3
  have hjk:j≠k:=λe=>by
   subst e;rw[hoj]at hok;obtain rfl:=qJ hok;obtain⟨e,he,hb,heq⟩:=ag;exact hnot e he hb heq
  have aa:j≠st:=λe=>by
   subst e;rw[hoj]at hst;obtain rfl:=qJ hst;obtain⟨e,he,hb,heq⟩:=af;have h3:=hall e he hb;rw[heq]at h3;rcases sJ k listed.size with h'|h'
   ·simp[h']at hk h3;rw[hk]at h3;cases h3
   simp[Array.getElem?_eq_none h']at h3
  have hap:=hfree j oj hoj hji hjun hnot;obtain⟨_,_,h3⟩:=Nw hap;have hw:YieldsIf P ops (λ_=>False) oi v a:=hy.imp (λh=>⟨h.1,λ_ h=>h.elim⟩) id;have h2:=Ny (S:=λ_=>False) hoj hap (λcs b=>hsel i oi cs b hi) (λcs b=>hsel j oj cs b hoj) hQ hw h1;have h4:=uP (R:=λa'=>o7 P ops C oi v a') hoj
   (λa' u hR=>hR.of_same (Nz oi (λcs b=>hsel i oi cs b hi) a' oj.dst u h3) (NA oi a' oj.dst u h3)) (λa' d hR=>hR.of_same rfl rfl) hy h2
  have hfree':∀k ok,ops[k]?=some ok->k≠i->(listed.setIfInBounds j true).getD k true=false->
   (∀e∈ok.after,Region.binds md e=true->e.on≠i)->oi.apart ops ok=true:=λk ok hk hki hun hno=>by
   refine hfree k ok hk hki ?_ hno;by_cases hjk:j=k
   ·subst hjk;exact hjun
   rw[uX true hjk]at hun;exact hun
  have hs':(listed.setIfInBounds j true).getD st true=false:=by rw[uX true aa];exact hs
  have hk':(listed.setIfInBounds j true).getD k true=false:=by rw[uX true hjk];exact hk
  refine Ls (λa' w' h5=>?_) h4;obtain⟨h6,h7,h8,h9⟩:=h5;have hC':C w':=h8 (by rw[uX true aa,ah];exact hs);refine⟨λ_=>hC',ih (listed.setIfInBounds j true) a' w' hfree' (yI hr (Iv hji)) hs' hk' h6 hC' ?_⟩;rw[K7 _ _ hji];exact h9
theorem D3{i k m:Nat}{oi ae ok om:Oper}{v:Value}(hi:ops[i]?=some oi)(hsel:∀(j:Nat)(o:Oper) cs b,ops[j]?=some o->o.op≠.select cs b)
 (hQ:∀c a w,Q (.panic c) (a.put oi.dst v) w->Q (.panic c) a w) (hst:ops[st]?=some ae) (hok:ops[k]?=some ok) (af:ops[m]?=some om) (ag:∃e∈ae.after,Region.binds md e=true/\e.on=k) (ah:∃e∈ok.after,Region.binds md e=true/\e.on=m) (ai:∃e∈om.after,Region.binds md e=true/\e.on=i) (hne:i≠st):
 ∀(fuel:Nat)(listed:Array Bool)(a:Act)(w:World),
  (∀j oj,ops[j]?=some oj->j≠i->listed.getD j true=false->(∀e∈oj.after,Region.binds md e=true->e.on≠i)->oi.apart ops oj=true)->
  i∈Region.ready md ops listed->listed.getD st true=false->listed.getD k true=false->listed.getD m true=false->o7 P ops C oi v a->C w->
  nW P md ops Q C st fuel (listed.setIfInBounds i true) (a.put oi.dst v) w->nW P md ops Q C st (fuel+1) listed a w:=by
 have aj:∀(listed:Array Bool),(listed.setIfInBounds i true).getD st true=listed.getD st true:=λlisted=>uX true hne
 intro fuel
 induction fuel with
 |zero=>
  intro listed a w _ hr hs hk hm hy hC H;refine⟨λh=>(by rw[h]at hr;cases hr),λj hj=>?_⟩;by_cases hji:j=i
  ·subst hji;exact hy.wpOp hi hC ⟨λ_=>hC,H⟩
  have h1:=yI hj hji;rw[H.1]at h1;cases h1
 |succ fuel ih=>
  intro listed a w hfree hr hs hk hm hy hC H;refine⟨λh=>(by rw[h]at hr;cases hr),λj hj=>?_⟩;by_cases hji:j=i
  ·subst hji;exact hy.wpOp hi hC ⟨λ_=>hC,H⟩
  have h1:=H.2 j (yI hj hji);obtain⟨hjun,oj,hoj,hall⟩:=DT.1 hj;have hnot:∀e∈oj.after,Region.binds md e=true->e.on≠i:=λe he hb heq=>by
   have h3:=hall e he hb;have h0:=(DT.1 hr).1;rw[heq]at h3;rcases sJ i listed.size with h'|h'
   ·simp[h']at h0 h3;rw[h0]at h3;cases h3
   simp[Array.getElem?_eq_none h']at h3
  have hjm:j≠m:=λe=>by
   subst e;rw[hoj]at af;obtain rfl:=qJ af;obtain⟨e,he,hb,heq⟩:=ai;exact hnot e he hb heq
  have hjk:j≠k:=λe=>by
   subst e;rw[hoj]at hok;obtain rfl:=qJ hok;obtain⟨e,he,hb,heq⟩:=ah;have h3:=hall e he hb;rw[heq]at h3;rcases sJ m listed.size with h'|h'
   ·simp[h']at hm h3;rw[hm]at h3;cases h3
   simp[Array.getElem?_eq_none h']at h3
  have aa:j≠st:=λe=>by
   subst e;rw[hoj]at hst;obtain rfl:=qJ hst;obtain⟨e,he,hb,heq⟩:=ag;have h3:=hall e he hb;rw[heq]at h3;rcases sJ k listed.size with h'|h'
   ·simp[h']at hk h3;rw[hk]at h3;cases h3
   simp[Array.getElem?_eq_none h']at h3
  have hap:=hfree j oj hoj hji hjun hnot;obtain⟨_,_,h3⟩:=Nw hap;have hw:YieldsIf P ops (λ_=>False) oi v a:=hy.imp (λh=>⟨h.1,λ_ h=>h.elim⟩) id;have h2:=Ny (S:=λ_=>False) hoj hap (λcs b=>hsel i oi cs b hi) (λcs b=>hsel j oj cs b hoj) hQ hw h1;have h4:=uP (R:=λa'=>o7 P ops C oi v a') hoj
   (λa' u hR=>hR.of_same (Nz oi (λcs b=>hsel i oi cs b hi) a' oj.dst u h3) (NA oi a' oj.dst u h3)) (λa' d hR=>hR.of_same rfl rfl) hy h2
  have hfree':∀k ok,ops[k]?=some ok->k≠i->(listed.setIfInBounds j true).getD k true=false->
   (∀e∈ok.after,Region.binds md e=true->e.on≠i)->oi.apart ops ok=true:=λk ok hk hki hun hno=>by
   refine hfree k ok hk hki ?_ hno;by_cases hjk:j=k
   ·subst hjk;exact hjun
   rw[uX true hjk]at hun;exact hun
  have hs':(listed.setIfInBounds j true).getD st true=false:=by rw[uX true aa];exact hs
  have hk':(listed.setIfInBounds j true).getD k true=false:=by rw[uX true hjk];exact hk
  have hm':(listed.setIfInBounds j true).getD m true=false:=by rw[uX true hjm];exact hm
  refine Ls (λa' w' h5=>?_) h4;obtain⟨h6,h7,h8,h9⟩:=h5;have hC':C w':=h8 (by rw[uX true aa,aj];exact hs);refine⟨λ_=>hC',ih (listed.setIfInBounds j true) a' w' hfree' (yI hr (Iv hji)) hs' hk' hm' h6 hC' ?_⟩;rw[K7 _ _ hji];exact h9
theorem D4{i:Nat}{oi:Oper}{v:Value}(hi:ops[i]?=some oi)(hsel:∀(j:Nat)(o:Oper) cs b,ops[j]?=some o->o.op≠.select cs b)
 (hQ:∀c a w,Q (.panic c) (a.put oi.dst v) w->Q (.panic c) a w) (hne:i≠st):
 ∀(fuel:Nat)(listed:Array Bool)(a:Act)(w:World),
  (∀j oj,ops[j]?=some oj->j≠i->listed.getD j true=false->(∀e∈oj.after,Region.binds md e=true->e.on≠i)->oi.apart ops oj=true)->
  i∈Region.ready md ops listed->o7 P ops (λ_=>True) oi v a->(listed.getD st true=false->C w)->
  nW P md ops Q C st fuel (listed.setIfInBounds i true) (a.put oi.dst v) w->nW P md ops Q C st (fuel+1) listed a w:=by
 have aa:∀(listed:Array Bool),(listed.setIfInBounds i true).getD st true=listed.getD st true:=λlisted=>uX true hne
 intro fuel
 induction fuel with
 |zero=>
  intro listed a w _ hr hy hC H;refine⟨λh=>(by rw[h]at hr;cases hr),λj hj=>?_⟩;by_cases hji:j=i
  ·subst hji;exact hy.wpOp hi trivial ⟨λh=>hC (by rw[<-aa];exact h),H⟩
  have h1:=yI hj hji;rw[H.1]at h1;cases h1
 |succ fuel ih=>
  intro listed a w hfree hr hy hC H;refine⟨λh=>(by rw[h]at hr;cases hr),λj hj=>?_⟩;by_cases hji:j=i
  ·subst hji;exact hy.wpOp hi trivial ⟨λh=>hC (by rw[<-aa];exact h),H⟩
  have h1:=H.2 j (yI hj hji);obtain⟨hjun,oj,hoj,hall⟩:=DT.1 hj;have hnot:∀e∈oj.after,Region.binds md e=true->e.on≠i:=λe he hb heq=>by
   have h3:=hall e he hb;have h0:=(DT.1 hr).1;rw[heq]at h3;rcases sJ i listed.size with h'|h'
   ·simp[h']at h0 h3;rw[h0]at h3;cases h3
   simp[Array.getElem?_eq_none h']at h3
  have hap:=hfree j oj hoj hji hjun hnot;obtain⟨_,_,h3⟩:=Nw hap;have hw:YieldsIf P ops (λ_=>False) oi v a:=hy.imp (λh=>⟨h.1,λ_ h=>h.elim⟩) id;have h2:=Ny (S:=λ_=>False) hoj hap (λcs b=>hsel i oi cs b hi) (λcs b=>hsel j oj cs b hoj) hQ hw h1;have h4:=uP (R:=λa'=>o7 P ops (λ_=>True) oi v a') hoj
   (λa' u hR=>hR.of_same (Nz oi (λcs b=>hsel i oi cs b hi) a' oj.dst u h3) (NA oi a' oj.dst u h3)) (λa' d hR=>hR.of_same rfl rfl) hy h2
  have hfree':∀k ok,ops[k]?=some ok->k≠i->(listed.setIfInBounds j true).getD k true=false->
   (∀e∈ok.after,Region.binds md e=true->e.on≠i)->oi.apart ops ok=true:=λk ok hk hki hun hno=>by
   refine hfree k ok hk hki ?_ hno;by_cases hjk:j=k
   ·subst hjk;exact hjun
   rw[uX true hjk]at hun;exact hun
  refine Ls (λa' w' h5=>?_) h4;obtain⟨h6,h7,h8,h9⟩:=h5;have hC':(listed.setIfInBounds j true).getD st true=false->C w':=λh=>h8 (by rw[K7 _ _ (Iv hji),aa];exact h)
  refine⟨hC',ih (listed.setIfInBounds j true) a' w' hfree' (yI hr (Iv hji)) h6 hC' ?_⟩;rw[K7 _ _ hji];exact h9
theorem FU{i:Nat}{oi:Oper}{v:Value}{fuel:Nat}{listed:Array Bool}{a:Act}{w:World}(hi:ops[i]?=some oi)
 (hs:Region.noSelect ops=true) (hf:Region.free md ops listed i=true) (hr:(Region.ready md ops listed).contains i=true) (hne:(i !=st)=true)
 (hQ:∀c a w,Q (.panic c) (a.put oi.dst v) w->Q (.panic c) a w) (hy:o7 P ops (λ_=>True) oi v a) (hC:listed.getD st true=false->C w)
 (h:nW P md ops Q C st fuel (listed.setIfInBounds i true) (a.put oi.dst v) w):nW P md ops Q C st (fuel+1) listed a w:=
 D4 hi (NC hs) hQ (E9.1 hne) fuel listed a w (ND hi hf) (by simpa using hr) hy hC h
def Region.waits(md:Region.Mode)(ops:Array Oper)(st i:Nat):Bool:=match ops[st]? with
 |some o=>o.after.any (λe=>Region.binds md e&&e.on==i)&&(i !=st)
 |none=>false
theorem xL{i:Nat}{oi:Oper}{v:Value}{fuel:Nat}{listed:Array Bool}{a:Act}{w:World}(hi:ops[i]?=some oi)
 (hs:Region.noSelect ops=true) (hf:Region.free md ops listed i=true) (hr:(Region.ready md ops listed).contains i=true) (hw:Region.waits md ops st i=true) (hst:listed.getD st true=false)
 (hQ:∀c a w,Q (.panic c) (a.put oi.dst v) w->Q (.panic c) a w) (hy:o7 P ops C oi v a) (hC:C w)
 (h:nW P md ops Q C st fuel (listed.setIfInBounds i true) (a.put oi.dst v) w):nW P md ops Q C st (fuel+1) listed a w:=by
 unfold Region.waits at hw;cases ho:ops[st]? with
 |none=>rw[ho]at hw;cases hw
 |some aa=>
  rw[ho]at hw;simp only[vY,QX,E9,ne_eq,Lr]at hw;obtain⟨⟨e,he,hb,heq⟩,hne⟩:=hw;exact FT hi (NC hs) hQ ho ⟨e,he,hb,heq⟩ hne fuel listed a w (ND hi hf) (by simpa using hr) hst hy hC h
theorem FV{i:Nat}(k:Nat){oi:Oper}{v:Value}{fuel:Nat}{listed:Array Bool}{a:Act}{w:World}(hi:ops[i]?=some oi)
 (hs:Region.noSelect ops=true) (hf:Region.free md ops listed i=true) (hr:(Region.ready md ops listed).contains i=true) (hw:(Region.waits md ops st k&&Region.waits md ops k i&&(i !=st))=true) (hst:(!listed.getD st true&& !listed.getD k true)=true)
 (hQ:∀c a w,Q (.panic c) (a.put oi.dst v) w->Q (.panic c) a w) (hy:o7 P ops C oi v a) (hC:C w)
 (h:nW P md ops Q C st fuel (listed.setIfInBounds i true) (a.put oi.dst v) w):nW P md ops Q C st (fuel+1) listed a w:=by
 unfold Region.waits at hw;rw[vY,Ni,Ni]at hst;cases ho:ops[st]? with
 |none=>rw[ho]at hw;simp at hw
 |some aa=>
  cases hk:ops[k]? with
  |none=>rw[ho,hk]at hw;simp at hw
  |some ok=>
   rw[ho,hk]at hw;simp only[vY,QX,E9,ne_eq,Lr]at hw;obtain⟨⟨⟨⟨e,he,hb,heq⟩,_⟩,⟨e',he',hb',heq'⟩,_⟩,hne⟩:=hw;exact DZ hi (NC hs) hQ ho hk ⟨e,he,hb,heq⟩ ⟨e',he',hb',heq'⟩ hne fuel listed a w (ND hi hf) (by simpa using hr) hst.1 hst.2 hy hC h
theorem FW{i:Nat}(k m:Nat){oi:Oper}{v:Value}{fuel:Nat}{listed:Array Bool}{a:Act}{w:World}(hi:ops[i]?=some oi)
 (hs:Region.noSelect ops=true) (hf:Region.free md ops listed i=true) (hr:(Region.ready md ops listed).contains i=true) (hw:(Region.waits md ops st k&&(Region.waits md ops k m&&Region.waits md ops m i&&(i !=st)))=true) (hst:(!listed.getD st true&&(!listed.getD k true&& !listed.getD m true))=true)
 (hQ:∀c a w,Q (.panic c) (a.put oi.dst v) w->Q (.panic c) a w) (hy:o7 P ops C oi v a) (hC:C w)
 (h:nW P md ops Q C st fuel (listed.setIfInBounds i true) (a.put oi.dst v) w):nW P md ops Q C st (fuel+1) listed a w:=by
 unfold Region.waits at hw;rw[vY,vY,Ni,Ni,Ni]at hst;cases ho:ops[st]? with
 |none=>rw[ho]at hw;simp at hw
 |some aa=>
  cases hk:ops[k]? with
  |none=>rw[ho,hk]at hw;simp at hw
  |some ok=>
   cases hm:ops[m]? with
   |none=>rw[ho,hk,hm]at hw;simp at hw
   |some om=>
    rw[ho,hk,hm]at hw;simp only[vY,QX,E9,ne_eq,Lr]at hw;obtain⟨⟨⟨e,he,hb,heq⟩,_⟩,⟨⟨⟨e',he',hb',heq'⟩,_⟩,⟨e2,he2,hb2,heq2⟩,_⟩,hne⟩:=hw;exact D3 hi (NC hs) hQ ho hk hm ⟨e,he,hb,heq⟩ ⟨e',he',hb',heq'⟩ ⟨e2,he2,hb2,heq2⟩ hne fuel listed a w (ND hi hf) (by simpa using hr) hst.1 hst.2.1 hst.2.2 hy hC h
theorem mH{listed:Array Bool}{a:Act}{w:World}(hr:Region.ready md ops listed=[])(h:Q .normal a w):
 ∀fuel,nW P md ops Q C st fuel listed a w
 |0=>⟨hr,h⟩
 |_+1=>⟨λ_=>h,by rw[hr];simp⟩
def mZ(P:Program)(md:Region.Mode)(ops:Array Oper)(Q:Exit->Act->World->Prop)(C:World->Prop)(st fuel:Nat)(listed:Array Bool)(a:Act)(w:World)(rs:List Nat):Prop:=
 ∀i∈rs,wpOp P ops Q i (λa' w'=>((listed.setIfInBounds i true).getD st true=false->C w')/\nW P md ops Q C st fuel (listed.setIfInBounds i true) a' w') a w
theorem mZ.nil{fuel:Nat}{listed:Array Bool}{a:Act}{w:World}:mZ P md ops Q C st fuel listed a w []:=λ_ h=>by cases h
theorem mZ.cons{fuel:Nat}{listed:Array Bool}{a:Act}{w:World}{i:Nat}{o:Oper}{rs:List Nat}(ho:ops[i]?=some o)
 (h:∀K':Act->World->Prop,Shut (∀a w,((listed.setIfInBounds i true).getD st true=false->C w)->(((listed.setIfInBounds i true).getD st true=false->C w)->nW P md ops Q C st fuel (listed.setIfInBounds i true) a w)->K' a w)->if Region.wanted o (yielded ops a.tmps)=true then Oper.wp P o a w K' Q else K' (a.put o.dst undef) w)
 (hs:mZ P md ops Q C st fuel listed a w rs):mZ P md ops Q C st fuel listed a w (i::rs):=λj hj=>by
 rcases xg.1 hj with rfl|hj
 ·exact wpOp_step ho (λK' hK=>h K' (λa w hC hW=>hK a w ⟨hC,hW hC⟩))
 exact hs j hj
theorem pF{rs:List Nat}{fuel:Nat}{listed:Array Bool}{a:Act}{w:World}(hr:Region.ready md ops listed=rs)(hne:rs≠[])
 (h:mZ P md ops Q C st fuel listed a w rs):nW P md ops Q C st (fuel+1) listed a w:=
 ⟨λh0=>absurd (hr▸h0) hne,hr▸h⟩
theorem mK{id:Nat}{a:Act}{w:World}(C:World->Prop)(st:Nat)(hm:P.follows .mixedOrders=true)
 (h:nW P .any ops Q C st ops.size (Array.replicate ops.size false) a w.drew):(Code.region id ops true).wp P Q a w:=
 wp_region_any hm (C6 _ _ _ _ h)
end
end Go
namespace Go.Proofs.Ytfbiffdmhcjhbaa
open RowKit Try
end Go.Proofs.Ytfbiffdmhcjhbaa
namespace Go
open Go.Proofs.Ytfbiffdmhcjhbaa
class wR (l:List Value) (n:Nat) (v:Value) (r:outParam (List Value)):Prop where
 is:l.set n v=r
instance {x v:Value}{l:List Value}:wR (x::l) 0 v (v::l):=⟨rfl⟩
instance {x v:Value}{l r:List Value}{n:Nat}[h:wR l n v r]:wR (x::l) (n+1) v (x::r):=⟨by rw[mO,h.is]⟩
instance {v u:Value}{l k r:List Value}{n m:Nat}[h:wR l m u k][g:wR k n v r]:wR (l.set m u) n v r:=⟨by rw[h.is,g.is]⟩
def AY(md:Region.Mode)(ops:Array Oper)(listed:Array Bool)(i:Nat):Bool:=Region.noSelect ops&&Region.free md ops listed i&&(Region.ready md ops listed).contains i
section
variable {P:Program}{ops:Array Oper}{Q:Exit->Act->World->Prop}{md:Region.Mode}{C:World->Prop}{st:Nat}
variable {d:Tmp}{op:Op}{ty:TypeId}{ps:String}{af:Array Edge}{g:Option (Nat×Bool)}{fuel:Nat}{listed:Array Bool}{l l':List Value}{df:List Deferred}{w:World}
theorem nA(i:Nat)(v:Value)(hi:ops[i]?=some ⟨some d,op,ty,ps,af,g⟩)(hk:(AY md ops listed i&&(i !=st))=true)(hw:Region.wanted ⟨some d,op,ty,ps,af,g⟩ (yielded ops l.toArray)=true)
 (hQ:∀c a w,Q (.panic c) (Act.put a (some d) v) w->Q (.panic c) a w) (hy:∀w,(execOp (Act.eval ⟨l.toArray,df⟩) ⟨some d,op,ty,ps,af,g⟩).run P w=.ok (.value v) w) (hC:listed.getD st true=false->C w) [hs:wR l d v l'] (h:nW P md ops Q C st fuel (listed.setIfInBounds i true) ⟨l'.toArray,df⟩ w):nW P md ops Q C st (fuel+1) listed ⟨l.toArray,df⟩ w:=by
 have ha:Act.put ⟨l.toArray,df⟩ (some d) v=⟨l'.toArray,df⟩:=by simp only[Act.put,mM,hs.is]
 rw[<-ha]at h;simp only[AY,vY]at hk;obtain⟨⟨⟨h1,h2⟩,h3⟩,h4⟩:=hk;exact FU hi h1 h2 h3 h4 hQ (.inl ⟨hw,λw _=>.of_run (hy w)⟩) hC h
theorem mI(i:Nat)(v:Value)(hi:ops[i]?=some ⟨some d,op,ty,ps,af,g⟩)(hk:(AY md ops listed i&&Region.waits md ops st i&&(!listed.getD st true))=true)(hw:Region.wanted ⟨some d,op,ty,ps,af,g⟩ (yielded ops l.toArray)=true)
 (hQ:∀c a w,Q (.panic c) (Act.put a (some d) v) w->Q (.panic c) a w) (hy:∀w,C w->(execOp (Act.eval ⟨l.toArray,df⟩) ⟨some d,op,ty,ps,af,g⟩).run P w=.ok (.value v) w) (hC:C w) [hs:wR l d v l'] (h:nW P md ops Q C st fuel (listed.setIfInBounds i true) ⟨l'.toArray,df⟩ w):nW P md ops Q C st (fuel+1) listed ⟨l.toArray,df⟩ w:=by
 have ha:Act.put ⟨l.toArray,df⟩ (some d) v=⟨l'.toArray,df⟩:=by simp only[Act.put,mM,hs.is]
 rw[<-ha]at h;simp only[AY,vY]at hk;obtain⟨⟨⟨⟨h1,h2⟩,h3⟩,h4⟩,h5⟩:=hk;exact xL hi h1 h2 h3 h4 (by simpa using h5) hQ (.inl ⟨hw,λw hC=>.of_run (hy w hC)⟩) hC h
theorem XF(k i:Nat)(v:Value)(hi:ops[i]?=some ⟨some d,op,ty,ps,af,g⟩)(hk:(AY md ops listed i&&(Region.waits md ops st k&&Region.waits md ops k i&&(i !=st))&&(!listed.getD st true&& !listed.getD k true))=true)(hw:Region.wanted ⟨some d,op,ty,ps,af,g⟩ (yielded ops l.toArray)=true)
 (hQ:∀c a w,Q (.panic c) (Act.put a (some d) v) w->Q (.panic c) a w) (hy:∀w,C w->(execOp (Act.eval ⟨l.toArray,df⟩) ⟨some d,op,ty,ps,af,g⟩).run P w=.ok (.value v) w) (hC:C w) [hs:wR l d v l'] (h:nW P md ops Q C st fuel (listed.setIfInBounds i true) ⟨l'.toArray,df⟩ w):nW P md ops Q C st (fuel+1) listed ⟨l.toArray,df⟩ w:=by
 have ha:Act.put ⟨l.toArray,df⟩ (some d) v=⟨l'.toArray,df⟩:=by simp only[Act.put,mM,hs.is]
 rw[<-ha]at h;simp only[AY,vY]at hk;obtain⟨⟨⟨⟨h1,h2⟩,h3⟩,h4⟩,h5⟩:=hk;exact FV k hi h1 h2 h3 (by simpa using h4) (by simpa using h5) hQ (.inl ⟨hw,λw hC=>.of_run (hy w hC)⟩) hC h
theorem QS(k m i:Nat)(v:Value)(hi:ops[i]?=some ⟨some d,op,ty,ps,af,g⟩)(hk:(AY md ops listed i&&(Region.waits md ops st k&&(Region.waits md ops k m&&Region.waits md ops m i&&(i !=st)))&&(!listed.getD st true&&(!listed.getD k true&& !listed.getD m true)))=true)(hw:Region.wanted ⟨some d,op,ty,ps,af,g⟩ (yielded ops l.toArray)=true)
 (hQ:∀c a w,Q (.panic c) (Act.put a (some d) v) w->Q (.panic c) a w) (hy:∀w,C w->(execOp (Act.eval ⟨l.toArray,df⟩) ⟨some d,op,ty,ps,af,g⟩).run P w=.ok (.value v) w) (hC:C w) [hs:wR l d v l'] (h:nW P md ops Q C st fuel (listed.setIfInBounds i true) ⟨l'.toArray,df⟩ w):nW P md ops Q C st (fuel+1) listed ⟨l.toArray,df⟩ w:=by
 have ha:Act.put ⟨l.toArray,df⟩ (some d) v=⟨l'.toArray,df⟩:=by simp only[Act.put,mM,hs.is]
 rw[<-ha]at h;simp only[AY,vY]at hk;obtain⟨⟨⟨⟨h1,h2⟩,h3⟩,h4⟩,h5⟩:=hk;exact FW k m hi h1 h2 h3 (by simpa using h4) (by simpa using h5) hQ (.inl ⟨hw,λw hC=>.of_run (hy w hC)⟩) hC h
theorem zg(i:Nat)(v:Value)(hi:ops[i]?=some ⟨some d,op,ty,ps,af,g⟩)(hk:(AY md ops listed i)=true)(hw:Region.wanted ⟨some d,op,ty,ps,af,g⟩ (yielded ops l.toArray)=true)
 (hQ:∀c a w,Q (.panic c) (Act.put a (some d) v) w->Q (.panic c) a w) (hy:∀w,C w->(execOp (Act.eval ⟨l.toArray,df⟩) ⟨some d,op,ty,ps,af,g⟩).run P w=.ok (.value v) w) (hC:C w) [hs:wR l d v l'] (h:wpAnyH P md ops Q C fuel (listed.setIfInBounds i true) ⟨l'.toArray,df⟩ w):wpAnyH P md ops Q C (fuel+1) listed ⟨l.toArray,df⟩ w:=by
 have ha:Act.put ⟨l.toArray,df⟩ (some d) v=⟨l'.toArray,df⟩:=by simp only[Act.put,mM,hs.is]
 rw[<-ha]at h;simp only[AY,vY]at hk;obtain⟨⟨h1,h2⟩,h3⟩:=hk;exact wpAnyH_take hi h1 h2 h3 hQ (.inl ⟨hw,hy⟩) hC h
theorem XQ(i:Nat)(hi:ops[i]?=some ⟨some d,op,ty,ps,af,g⟩)(hk:(AY md ops listed i)=true)(hw:Region.wanted ⟨some d,op,ty,ps,af,g⟩ (yielded ops l.toArray)=false)
 (hQ:∀c a w,Q (.panic c) (Act.put a (some d) undef) w->Q (.panic c) a w) (hC:C w) [hs:wR l d undef l'] (h:wpAnyH P md ops Q C fuel (listed.setIfInBounds i true) ⟨l'.toArray,df⟩ w):wpAnyH P md ops Q C (fuel+1) listed ⟨l.toArray,df⟩ w:=by
 have ha:Act.put ⟨l.toArray,df⟩ (some d) undef=⟨l'.toArray,df⟩:=by simp only[Act.put,mM,hs.is]
 rw[<-ha]at h;simp only[AY,vY]at hk;obtain⟨⟨h1,h2⟩,h3⟩:=hk;exact wpAnyH_take hi h1 h2 h3 hQ (.inr ⟨hw,rfl⟩) hC h
theorem oD(i:Nat)(hr:Region.ready md ops listed=[i]){e:Option Tmp}{a:Act}(hi:ops[i]?=some ⟨e,op,ty,ps,af,g⟩)(h:∀K':Act->World->Prop,Shut (∀a w,((listed.setIfInBounds i true).getD st true=false->C w)->(((listed.setIfInBounds i true).getD st true=false->C w)->nW P md ops Q C st fuel (listed.setIfInBounds i true) a w)->K' a w)->if Region.wanted ⟨e,op,ty,ps,af,g⟩ (yielded ops a.tmps)=true then Oper.wp P ⟨e,op,ty,ps,af,g⟩ a w K' Q else K' (a.put e undef) w):nW P md ops Q C st (fuel+1) listed a w:=
 pF hr (by simp) (mZ.cons hi h mZ.nil)
theorem Uh(i:Nat)(hr:Region.ready md ops listed=[i]){e:Option Tmp}{a:Act}(hi:ops[i]?=some ⟨e,op,ty,ps,af,g⟩)(h:∀K':Act->World->Prop,Shut (∀a w,C w->(C w->wpAnyH P md ops Q C fuel (listed.setIfInBounds i true) a w)->K' a w)->if Region.wanted ⟨e,op,ty,ps,af,g⟩ (yielded ops a.tmps)=true then Oper.wp P ⟨e,op,ty,ps,af,g⟩ a w K' Q else K' (a.put e undef) w):wpAnyH P md ops Q C (fuel+1) listed a w:=
 wpAnyH_ready hr (by simp) (UI hi h AllReadyH.nil)
end
theorem pV{a:Bool}{q:Prop}(h1:a=true):a=false->q:=λh=>absurd (h1.symm.trans h) (by decide)
end Go
namespace Go.Proofs.Ytfbiffdmhcjhbaa
open RowKit Try
end Go.Proofs.Ytfbiffdmhcjhbaa
namespace Go
open Go.Proofs.Ytfbiffdmhcjhbaa
theorem AF{P:Program}{o:Oper}{a:Act}{w:World}{v:Value}{K:Act->Prop}(h:o.quietAt P a (λW=>W=w) w v)(hk:K (a.put o.dst v)):o.still P a w K:=by
 unfold Oper.quietAt at h;unfold Oper.still
 revert h
 generalize (execOp a.eval o).run P w=r;intro h;cases r with
 |halt x w'=>exact h.elim
 |ok n w' =>
  cases n with
  |value u=>obtain⟨rfl,rfl⟩:=h;exact⟨rfl,hk⟩
  |skip=>obtain⟨rfl,rfl⟩:=h;exact⟨rfl,hk⟩
  |enter f args=>obtain⟨rfl,hc⟩:=h;exact⟨rfl,v,hc,hk⟩
  |_=>exact h.elim
theorem sZ{P:Program}{ops:Array Oper}{w:World}{Q:Act->Prop}:∀(l:List Oper)(a:Act),wpQuiet P ops (λW=>W=w) Q l a->wpStill P ops w Q l a
 |[],_,h=>h
 |o::rest,a,h=>by
  unfold wpQuiet at h;unfold wpStill;by_cases hw:Region.wanted o (yielded ops a.tmps)=true
  ·rw[gu hw]at h⊢;obtain⟨v,h1,h2⟩:=h;exact AF (h1 w rfl) (sZ rest _ h2)
  rw[fu hw]at h⊢;exact sZ rest _ h
theorem rf{P:Program}{id:Nat}{Q:Exit->Act->World->Prop}{a:Act}{w:World}{l:List Oper}(n:Nat)(hm:P.follows .mixedOrders=true)(hB:Region.lexTailB .any l.toArray n=true)
 (h:wpQuiet P l.toArray (λW=>W=w.drew) (λa'=>wpList P l.toArray Q (l.drop n) a' w.drew) (l.take n) a):(Code.region id l.toArray true).wp P Q a w:=
 wp_region_still_tail n hm hB (sZ _ _ h)
end Go
namespace Go.Proofs.Ytfbiffdmhcjhbaa
open RowKit Try
end Go.Proofs.Ytfbiffdmhcjhbaa
namespace Go
open Go.Proofs.Ytfbiffdmhcjhbaa
section
variable {P:Program}{ops:Array Oper}{Q:Exit->Act->World->Prop}{md:Region.Mode}{C:World->Prop}{st:Nat}
theorem D5{i:Nat}(S:List Nat){oi:Oper}{v:Value}(hi:ops[i]?=some oi)(hsel:∀(j:Nat)(o:Oper) cs b,ops[j]?=some o->o.op≠.select cs b)
 (hQ:∀c a w,Q (.panic c) (a.put oi.dst v) w->Q (.panic c) a w) (hS:∀j∈S,∃oj,ops[j]?=some oj/\∃e∈oj.after,Region.binds md e=true/\(e.on=i\/e.on∈S)) (hSt:st∈S) (hne:i≠st):
 ∀(fuel:Nat)(listed:Array Bool)(a:Act)(w:World),
  (∀j oj,ops[j]?=some oj->j≠i->listed.getD j true=false->(∀e∈oj.after,Region.binds md e=true->e.on≠i)->oi.apart ops oj=true)->
  i∈Region.ready md ops listed->(∀j∈S,listed.getD j true=false)->o7 P ops C oi v a->C w->
  nW P md ops Q C st fuel (listed.setIfInBounds i true) (a.put oi.dst v) w->nW P md ops Q C st (fuel+1) listed a w:=by
 have af:∀(listed:Array Bool),(listed.setIfInBounds i true).getD st true=listed.getD st true:=λlisted=>uX true hne
 intro fuel
 induction fuel with
 |zero=>
  intro listed a w _ hr hs hy hC H;refine⟨λh=>(by rw[h]at hr;cases hr),λj hj=>?_⟩;by_cases hji:j=i
  ·subst hji;exact hy.wpOp hi hC ⟨λ_=>hC,H⟩
  have h1:=yI hj hji;rw[H.1]at h1;cases h1
 |succ fuel ih=>
  intro listed a w hfree hr hs hy hC H;refine⟨λh=>(by rw[h]at hr;cases hr),λj hj=>?_⟩;by_cases hji:j=i
  ·subst hji;exact hy.wpOp hi hC ⟨λ_=>hC,H⟩
  have h1:=H.2 j (yI hj hji);obtain⟨hjun,oj,hoj,hall⟩:=DT.1 hj;have hnot:∀e∈oj.after,Region.binds md e=true->e.on≠i:=λe he hb heq=>by
   have h3:=hall e he hb;have h0:=(DT.1 hr).1;rw[heq]at h3;rcases sJ i listed.size with h'|h'
   ·simp[h']at h0 h3;rw[h0]at h3;cases h3
   simp[Array.getElem?_eq_none h']at h3
  have aa:∀k∈S,j≠k:=λk hk e=>by
   subst e;obtain⟨ok,h5,e,he,hb,heq⟩:=hS j hk;rw[hoj]at h5;obtain rfl:=qJ h5;rcases heq with heq|heq
   ·exact hnot e he hb heq
   have h3:=hall e he hb;have hm:=hs e.on heq;rcases sJ e.on listed.size with h'|h'
   ·simp[h']at hm h3;rw[hm]at h3;cases h3
   simp[Array.getElem?_eq_none h']at h3
  have ae:j≠st:=aa st hSt;have hap:=hfree j oj hoj hji hjun hnot;obtain⟨_,_,h3⟩:=Nw hap;have hw:YieldsIf P ops (λ_=>False) oi v a:=hy.imp (λh=>⟨h.1,λ_ h=>h.elim⟩) id;have h2:=Ny (S:=λ_=>False) hoj hap (λcs b=>hsel i oi cs b hi) (λcs b=>hsel j oj cs b hoj) hQ hw h1;have h4:=uP (R:=λa'=>o7 P ops C oi v a') hoj
   (λa' u hR=>hR.of_same (Nz oi (λcs b=>hsel i oi cs b hi) a' oj.dst u h3) (NA oi a' oj.dst u h3)) (λa' d hR=>hR.of_same rfl rfl) hy h2
  have hfree':∀k ok,ops[k]?=some ok->k≠i->(listed.setIfInBounds j true).getD k true=false->
   (∀e∈ok.after,Region.binds md e=true->e.on≠i)->oi.apart ops ok=true:=λk ok hk hki hun hno=>by
   refine hfree k ok hk hki ?_ hno;by_cases hjk:j=k
   ·subst hjk;exact hjun
   rw[uX true hjk]at hun;exact hun
  have hs':∀k∈S,(listed.setIfInBounds j true).getD k true=false:=λk hk=>by rw[uX true (aa k hk)];exact hs k hk
  refine Ls (λa' w' h5=>?_) h4;obtain⟨h6,h7,h8,h9⟩:=h5;have hC':C w':=h8 (by rw[uX true ae,af];exact hs st hSt);refine⟨λ_=>hC',ih (listed.setIfInBounds j true) a' w' hfree' (yI hr (Iv hji)) hs' h6 hC' ?_⟩;rw[K7 _ _ hji];exact h9
theorem ow{i:Nat}(S:List Nat){oi:Oper}{v:Value}{fuel:Nat}{listed:Array Bool}{a:Act}{w:World}(hi:ops[i]?=some oi)
 (hs:Region.noSelect ops=true) (hf:Region.free md ops listed i=true) (hr:(Region.ready md ops listed).contains i=true)
 (hw:(S.all (λj=>match ops[j]? with|some o=>o.after.any (λe=>Region.binds md e&&(e.on==i||S.contains e.on))|none=>false)&&(S.contains st&&(i !=st)))=true) (hst:S.all (λj=>!listed.getD j true)=true)
 (hQ:∀c a w,Q (.panic c) (a.put oi.dst v) w->Q (.panic c) a w) (hy:o7 P ops C oi v a) (hC:C w)
 (h:nW P md ops Q C st fuel (listed.setIfInBounds i true) (a.put oi.dst v) w):nW P md ops Q C st (fuel+1) listed a w:=by
 simp only[vY,Io,E9,ne_eq,Q6]at hw;obtain⟨h1,h2,h3⟩:=hw;refine D5 S hi (NC hs) hQ (λj hj=>?_) h2 h3 fuel listed a w (ND hi hf) (by simpa using hr) (λj hj=>by simpa using(Io.1 hst) j hj) hy hC h;have h4:=h1 j hj;cases ho:ops[j]? with
 |none=>rw[ho]at h4;cases h4
 |some oj=>
  rw[ho]at h4;simp only[QX,vY,Nj,Lr,Q6]at h4;obtain⟨e,he,hb,h5⟩:=h4;exact⟨oj,rfl,e,he,hb,h5⟩
end
end Go
namespace Go.Proofs.Ytfbiffdmhcjhbaa
open RowKit Try
section
open Go.Shelf Go.RowKit
def Ba:Go.Shelf.Ren:=⟨fun|16=>50|n=>n,fun|3=>3|4=>4|35=>47|38=>116|n=>n,λn=>n⟩
theorem RP:SlLaysO.n16 prog Ba:={
 mixed:=by kernel_rfl,
 f16:=XE func50 (by kernel_rfl),
 t3:=underlying3,
 a3:=isAgg3,
 z3:=sizeOf3,
 v3:=zeroValue3,
 t4:=underlying4,
 a4:=isAgg4,
 z4:=sizeOf4,
 v4:=zeroValue4,
 t35:=underlying47,
 a35:=isAgg47,
 z35:=sizeOf47,
 v35:=zeroValue47,
 t38:=underlying116,
 a38:=isAgg116,
 z38:=sizeOf116,
 v38:=zeroValue116}
end
end Go.Proofs.Ytfbiffdmhcjhbaa

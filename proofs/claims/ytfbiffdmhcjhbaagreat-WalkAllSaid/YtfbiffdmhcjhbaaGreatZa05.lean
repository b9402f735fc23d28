import Derived.Test.YtfbiffdmhcjhbaaGreatZa00
import Derived.Deep.RegionHeld
import Derived.Deep.RegionHeld3
import Derived.KernelRfl
import Derived.OrdersHeld
set_option linter.all false
set_option maxHeartbeats 16000000
set_option maxRecDepth 100000
set_option synthInstance.maxSize 4000
set_option synthInstance.maxHeartbeats 0
namespace Go.Proofs.YtfbiffdmhcjhbaaGreat
def FJ:=@wpOp_mono
def nW:=@getD_set_ne
def rV:=@ready_mono
def x8:=@mem_ready
def Ig:=@Oper.apart_spec
def Ih:=@wpOp_putIf
def Ii:=@execOp_put
def Ij:=@wanted_put
def Ik:=@Region.noSelect_spec
def Il:=@Region.free_spec
def OU:=@AllReadyH.cons
end Go.Proofs.YtfbiffdmhcjhbaaGreat
namespace Go
open Go.Proofs.YtfbiffdmhcjhbaaGreat
section
variable {P:Program}{ops:Array Oper}{Q:Exit->Act->World->Prop}{md:Region.Mode}{C:World->Prop}{st:Nat}
def fZ(P:Program)(m:Sem Next)(v:Value)(w:World):Prop:=
 match m.run P w with
 | .ok (.value u) w'=>u=v/\w'=w
 | .ok (.enter f args) w'=>w'=w/\Calls P f args w (λe w''=>e=.returned v/\w=w'')
 |_=>False
theorem fZ.of_run{m:Sem Next}{v:Value}{w:World}(h:m.run P w=.ok (.value v) w):fZ P m v w:=by
 unfold fZ;rw[h];exact⟨rfl,rfl⟩
theorem fZ.zG{m:Sem Next}{v:Value}{w:World}{f:FuncId}{args:Array Value}(h:m.run P w=.ok (.enter f args) w)(hc:Calls P f args w (λe w''=>e=.returned v/\w=w'')):fZ P m v w:=by
 unfold fZ;rw[h];exact⟨rfl,hc⟩
def iP(P:Program)(ops:Array Oper)(C:World->Prop)(o:Oper)(v:Value)(a:Act):Prop:=
 (Region.wanted o (yielded ops a.tmps)=true/\∀w,C w->fZ P (execOp a.eval o) v w)\/
 (Region.wanted o (yielded ops a.tmps)=false/\v=undef)
theorem iP.of_same{o:Oper}{v:Value}{a a':Act}(hy:iP P ops C o v a)(he:execOp a'.eval o=execOp a.eval o)
 (hw:Region.wanted o (yielded ops a'.tmps)=Region.wanted o (yielded ops a.tmps)):iP P ops C o v a':=by
 unfold iP at*;rw[he,hw];exact hy
theorem iP.wpOp{i:Nat}{o:Oper}{v:Value}{a:Act}(hi:ops[i]?=some o)(hy:iP P ops C o v a)
 {K:Act->World->Prop} {w:World} (hC:C w) (h:K (a.put o.dst v) w):wpOp P ops Q i K a w:=by
 unfold Go.wpOp;simp only[hi];rcases hy with⟨hw,hv⟩|⟨hw,rfl⟩
 ·rw[eT hw];refine .inl ?_;have hq:=hv w hC;unfold fZ at hq;unfold Oper.wp
  revert hq
  generalize (execOp a.eval o).run P w=r;intro hq;cases r with
  |halt x w'=>exact hq.elim
  |ok n w' =>
   cases n<;>simp only at hq
   case value u=>
    obtain⟨rfl,rfl⟩:=hq;exact h
   case enter f args=>
    obtain⟨rfl,hc⟩:=hq;simp only[Oper.upon];refine Calls.mono hc λe w'' he=>?_
    obtain⟨rfl,rfl⟩:=he;exact h
 rw[eQ (by rw[hw];decide)];exact h
theorem nL{j:Nat}{oj:Oper}{R:Act->Prop}(hj:ops[j]?=some oj)(hp:∀a u,R a->R (a.put oj.dst u))(hd:∀a d,R a->R {a with defers:=d::a.defers}){K:Act->World->Prop}{a:Act}{w:World}
 (hR:R a) (h:wpOp P ops Q j K a w):wpOp P ops Q j (λa' w'=>R a'/\K a' w') a w:=by
 unfold wpOp at*;simp only[hj]at*;split
 ·rename_i hw;simp only[hw,if_true]at h;rcases h with h|h
  ·refine .inl ?_;unfold Oper.wp at*;generalize (execOp a.eval oj).run P w=r at*;cases r with
   |ok n w' =>
    cases n<;>simp only[Oper.upon]at h⊢
    case value u=>exact⟨hp _ _ hR,h⟩
    case skip=>exact⟨hp _ _ hR,h⟩
    case defer d=>exact⟨hp _ _ (hd _ _ hR),h⟩
    case enter f args=>
     refine Calls.mono h λe w'' he=>?_
     cases e with
     |returned u=>exact⟨hp _ _ hR,he⟩
     |panicked c=>exact he
     |outgrown=>exact he
    case row row args=>exact Rows.mono h λu w'' he=>⟨hp _ _ hR,he⟩
   |halt x w' =>
    cases x<;>simp only[Oper.upon]at h⊢
    case panic u=>exact h
  exact .inr h
 rename_i hw;simp only[hw]at h;exact⟨hp _ _ hR,h⟩
def gV(P:Program)(md:Region.Mode)(ops:Array Oper)(Q:Exit->Act->World->Prop)(C:World->Prop)(st:Nat):Nat->Array Bool->Act->World->Prop
 |0,listed,a,w=>Region.ready md ops listed=[]/\Q .normal a w
 |fuel+1,listed,a,w=>
  (Region.ready md ops listed=[]->Q .normal a w)/\
  ∀i∈Region.ready md ops listed,wpOp P ops Q i (λa' w'=>((listed.setIfInBounds i true).getD st true=false->C w')/\gV P md ops Q C st fuel (listed.setIfInBounds i true) a' w') a w
theorem xB:∀(fuel:Nat)(listed:Array Bool)(a:Act)(w:World),gV P md ops Q C st fuel listed a w->wpAny P md ops Q fuel listed a w
 |0,_,_,_,h=>h
 |fuel+1,_,_,_,h=>⟨h.1,λi hi=>FJ (λa' w' h'=>xB fuel _ a' w' h'.2) (h.2 i hi)⟩
theorem Ac{i:Nat}{oi ae:Oper}{v:Value}(hi:ops[i]?=some oi)(hsel:∀(j:Nat)(o:Oper) cs b,ops[j]?=some o->o.op≠.select cs b)
 (hQ:∀c a w,Q (.panic c) (a.put oi.dst v) w->Q (.panic c) a w) (hst:ops[st]?=some ae) (af:∃e∈ae.after,Region.binds md e=true/\e.on=i) (hne:i≠st):
 ∀(fuel:Nat)(listed:Array Bool)(a:Act)(w:World),
  (∀j oj,ops[j]?=some oj->j≠i->listed.getD j true=false->(∀e∈oj.after,Region.binds md e=true->e.on≠i)->oi.apart ops oj=true)->
  i∈Region.ready md ops listed->listed.getD st true=false->iP P ops C oi v a->C w->
  gV P md ops Q C st fuel (listed.setIfInBounds i true) (a.put oi.dst v) w->gV P md ops Q C st (fuel+1) listed a w:=by
 have ag:∀(listed:Array Bool),(listed.setIfInBounds i true).getD st true=listed.getD st true:=λlisted=>nW true hne
 intro fuel
 induction fuel with
 |zero=>
  intro listed a w _ hr hs hy hC H;refine⟨λh=>(by rw[h]at hr;cases hr),λj hj=>?_⟩;by_cases hji:j=i
  ·subst hji;exact hy.wpOp hi hC ⟨λ_=>hC,H⟩
  have h1:=rV hj hji;rw[H.1]at h1;cases h1
 |succ fuel ih=>
  intro listed a w hfree hr hs hy hC H;refine⟨λh=>(by rw[h]at hr;cases hr),λj hj=>?_⟩;by_cases hji:j=i
  ·subst hji;exact hy.wpOp hi hC ⟨λ_=>hC,H⟩
  have h1:=H.2 j (rV hj hji);obtain⟨hjun,oj,hoj,hall⟩:=x8.1 hj;have hnot:∀e∈oj.after,Region.binds md e=true->e.on≠i:=λe he hb heq=>by
   have h3:=hall e he hb;have h0:=(x8.1 hr).1;rw[heq]at h3;rcases lu i listed.size with h'|h'
   ·simp[h']at h0 h3;rw[h0]at h3;cases h3
   simp[Array.getElem?_eq_none h']at h3
  have aa:j≠st:=λe=>by
   subst e;rw[hoj]at hst;obtain rfl:=jF hst;obtain⟨e,he,hb,heq⟩:=af;exact hnot e he hb heq
  have hap:=hfree j oj hoj hji hjun hnot;obtain⟨_,_,h3⟩:=Ig hap;have hw:YieldsIf P ops (λ_=>False) oi v a:=hy.imp (λh=>⟨h.1,λ_ h=>h.elim⟩) id;have h2:=Ih (S:=λ_=>False) hoj hap (λcs b=>hsel i oi cs b hi) (λcs b=>hsel j oj cs b hoj) hQ hw h1;have h4:=nL (R:=λa'=>iP P ops C oi v a') hoj
   (λa' u hR=>hR.of_same (Ii oi (λcs b=>hsel i oi cs b hi) a' oj.dst u h3) (Ij oi a' oj.dst u h3)) (λa' d hR=>hR.of_same rfl rfl) hy h2
  have hfree':∀k ok,ops[k]?=some ok->k≠i->(listed.setIfInBounds j true).getD k true=false->
   (∀e∈ok.after,Region.binds md e=true->e.on≠i)->oi.apart ops ok=true:=λk ok hk hki hun hno=>by
   refine hfree k ok hk hki ?_ hno;by_cases hjk:j=k
   ·subst hjk;exact hjun
   rw[nW true hjk]at hun;exact hun
  have hs':(listed.setIfInBounds j true).getD st true=false:=by rw[nW true aa];exact hs
  refine FJ (λa' w' h5=>?_) h4;obtain⟨h6,h7,h8,h9⟩:=h5;have hC':C w':=h8 (by rw[nW true aa,ag];exact hs);refine⟨λ_=>hC',ih (listed.setIfInBounds j true) a' w' hfree' (rV hr (Cw hji)) hs' h6 hC' ?_⟩;rw[Fs _ _ hji];exact h9
theorem yj{i k:Nat}{oi ae ok:Oper}{v:Value}(hi:ops[i]?=some oi)(hsel:∀(j:Nat)(o:Oper) cs b,ops[j]?=some o->o.op≠.select cs b)
 (hQ:∀c a w,Q (.panic c) (a.put oi.dst v) w->Q (.panic c) a w) (hst:ops[st]?=some ae) (hok:ops[k]?=some ok) (af:∃e∈ae.after,Region.binds md e=true/\e.on=k) (ag:∃e∈ok.after,Region.binds md e=true/\e.on=i) (hne:i≠st):
 ∀(fuel:Nat)(listed:Array Bool)(a:Act)(w:World),
  (∀j oj,ops[j]?=some oj->j≠i->listed.getD j true=false->(∀e∈oj.after,Region.binds md e=true->e.on≠i)->oi.apart ops oj=true)->
  i∈Region.ready md ops listed->listed.getD st true=false->listed.getD k true=false->iP P ops C oi v a->C w->
  gV P md ops Q C st fuel (listed.setIfInBounds i true) (a.put oi.dst v) w->gV P md ops Q C st (fuel+1) listed a w:=by
 have ah:∀(listed:Array Bool),(listed.setIfInBounds i true).getD st true=listed.getD st true:=λlisted=>nW true hne
 intro fuel
 induction fuel with
 |zero=>
  intro listed a w _ hr hs hk hy hC H;refine⟨λh=>(by rw[h]at hr;cases hr),λj hj=>?_⟩;by_cases hji:j=i
  ·subst hji;exact hy.wpOp hi hC ⟨λ_=>hC,H⟩
  have h1:=rV hj hji;rw[H.1]at h1;cases h1
 |succ fuel ih=>
  intro listed a w hfree hr hs hk hy hC H;refine⟨λh=>(by rw[h]at hr;cases hr),λj hj=>?_⟩;by_cases hji:j=i
  ·subst hji;exact hy.wpOp hi hC ⟨λ_=>hC,H⟩
  have h1:=H.2 j (rV hj hji);obtain⟨hjun,oj,hoj,hall⟩:=x8.1 hj;have hnot:∀e∈oj.after,Region.binds md e=true->e.on≠i:=λe he hb heq=>by
   have h3:=hall e he hb;have h0:=(x8.1 hr).1;rw[heq]at h3;rcases lu i listed.size with h'|h'
   ·simp[h']at h0 h3;rw[h0]at h3;cases h3
   simp[Array.getElem?_eq_none h']at h3
  have hjk:j≠k:=λe=>by
   subst e;rw[hoj]at hok;obtain rfl:=jF hok;obtain⟨e,he,hb,heq⟩:=ag;exact hnot e he hb heq
  have aa:j≠st:=λe=>by
   subst e;rw[hoj]at hst;obtain rfl:=jF hst;obtain⟨e,he,hb,heq⟩:=af;have h3:=hall e he hb;rw[heq]at h3;rcases lu k listed.size with h'|h'
   ·simp[h']at hk h3;rw[hk]at h3;cases h3
   simp[Array.getElem?_eq_none h']at h3
  have hap:=hfree j oj hoj hji hjun hnot;obtain⟨_,_,h3⟩:=Ig hap;have hw:YieldsIf P ops (λ_=>False) oi v a:=hy.imp (λh=>⟨h.1,λ_ h=>h.elim⟩) id;have h2:=Ih (S:=λ_=>False) hoj hap (λcs b=>hsel i oi cs b hi) (λcs b=>hsel j oj cs b hoj) hQ hw h1;have h4:=nL (R:=λa'=>iP P ops C oi v a') hoj
   (λa' u hR=>hR.of_same (Ii oi (λcs b=>hsel i oi cs b hi) a' oj.dst u h3) (Ij oi a' oj.dst u h3)) (λa' d hR=>hR.of_same rfl rfl) hy h2
  have hfree':∀k ok,ops[k]?=some ok->k≠i->(listed.setIfInBounds j true).getD k true=false->
   (∀e∈ok.after,Region.binds md e=true->e.on≠i)->oi.apart ops ok=true:=λk ok hk hki hun hno=>by
   refine hfree k ok hk hki ?_ hno;by_cases hjk:j=k
   ·subst hjk;exact hjun
   rw[nW true hjk]at hun;exact hun
  have hs':(listed.setIfInBounds j true).getD st true=false:=by rw[nW true aa];exact hs
  have hk':(listed.setIfInBounds j true).getD k true=false:=by rw[nW true hjk];exact hk
  refine FJ (λa' w' h5=>?_) h4;obtain⟨h6,h7,h8,h9⟩:=h5;have hC':C w':=h8 (by rw[nW true aa,ah];exact hs);refine⟨λ_=>hC',ih (listed.setIfInBounds j true) a' w' hfree' (rV hr (Cw hji)) hs' hk' h6 hC' ?_⟩;rw[Fs _ _ hji];exact h9
theorem ym{i k m:Nat}{oi ae ok om:Oper}{v:Value}(hi:ops[i]?=some oi)(hsel:∀(j:Nat)(o:Oper) cs b,ops[j]?=some o->o.op≠.select cs b)
 (hQ:∀c a w,Q (.panic c) (a.put oi.dst v) w->Q (.panic c) a w) (hst:ops[st]?=some ae) (hok:ops[k]?=some ok) (af:ops[m]?=some om) (ag:∃e∈ae.after,Region.binds md e=true/\e.on=k) (ah:∃e∈ok.after,Region.binds md e=true/\e.on=m) (ai:∃e∈om.after,Region.binds md e=true/\e.on=i) (hne:i≠st):
 ∀(fuel:Nat)(listed:Array Bool)(a:Act)(w:World),
  (∀j oj,ops[j]?=some oj->j≠i->listed.getD j true=false->(∀e∈oj.after,Region.binds md e=true->e.on≠i)->oi.apart ops oj=true)->
  i∈Region.ready md ops listed->listed.getD st true=false->listed.getD k true=false->listed.getD m true=false->iP P ops C oi v a->C w->
  gV P md ops Q C st fuel (listed.setIfInBounds i true) (a.put oi.dst v) w->gV P md ops Q C st (fuel+1) listed a w:=by
 have aj:∀(listed:Array Bool),(listed.setIfInBounds i true).getD st true=listed.getD st true:=λlisted=>nW true hne
 intro fuel
 induction fuel with
 |zero=>
  intro listed a w _ hr hs hk hm hy hC H;refine⟨λh=>(by rw[h]at hr;cases hr),λj hj=>?_⟩;by_cases hji:j=i
  ·subst hji;exact hy.wpOp hi hC ⟨λ_=>hC,H⟩
  have h1:=rV hj hji;rw[H.1]at h1;cases h1
 |succ fuel ih=>
  intro listed a w hfree hr hs hk hm hy hC H;refine⟨λh=>(by rw[h]at hr;cases hr),λj hj=>?_⟩;by_cases hji:j=i
  ·subst hji;exact hy.wpOp hi hC ⟨λ_=>hC,H⟩
  have h1:=H.2 j (rV hj hji);obtain⟨hjun,oj,hoj,hall⟩:=x8.1 hj;have hnot:∀e∈oj.after,Region.binds md e=true->e.on≠i:=λe he hb heq=>by
   have h3:=hall e he hb;have h0:=(x8.1 hr).1;rw[heq]at h3;rcases lu i listed.size with h'|h'
   ·simp[h']at h0 h3;rw[h0]at h3;cases h3
   simp[Array.getElem?_eq_none h']at h3
  have hjm:j≠m:=λe=>by
   subst e;rw[hoj]at af;obtain rfl:=jF af;obtain⟨e,he,hb,heq⟩:=ai;exact hnot e he hb heq
  have hjk:j≠k:=λe=>by
   subst e;rw[hoj]at hok;obtain rfl:=jF hok;obtain⟨e,he,hb,heq⟩:=ah;have h3:=hall e he hb;rw[heq]at h3;rcases lu m listed.size with h'|h'
   ·simp[h']at hm h3;rw[hm]at h3;cases h3
   simp[Array.getElem?_eq_none h']at h3
  have aa:j≠st:=λe=>by
   subst e;rw[hoj]at hst;obtain rfl:=jF hst;obtain⟨e,he,hb,heq⟩:=ag;have h3:=hall e he hb;rw[heq]at h3;rcases lu k listed.size with h'|h'
   ·simp[h']at hk h3;rw[hk]at h3;cases h3
   simp[Array.getElem?_eq_none h']at h3
  have hap:=hfree j oj hoj hji hjun hnot;obtain⟨_,_,h3⟩:=Ig hap;have hw:YieldsIf P ops (λ_=>False) oi v a:=hy.imp (λh=>⟨h.1,λ_ h=>h.elim⟩) id;have h2:=Ih (S:=λ_=>False) hoj hap (λcs b=>hsel i oi cs b hi) (λcs b=>hsel j oj cs b hoj) hQ hw h1;have h4:=nL (R:=λa'=>iP P ops C oi v a') hoj
   (λa' u hR=>hR.of_same (Ii oi (λcs b=>hsel i oi cs b hi) a' oj.dst u h3) (Ij oi a' oj.dst u h3)) (λa' d hR=>hR.of_same rfl rfl) hy h2
  have hfree':∀k ok,ops[k]?=some ok->k≠i->(listed.setIfInBounds j true).getD k true=false->
   (∀e∈ok.after,Region.binds md e=true->e.on≠i)->oi.apart ops ok=true:=λk ok hk hki hun hno=>by
   refine hfree k ok hk hki ?_ hno;by_cases hjk:j=k
   ·subst hjk;exact hjun
   rw[nW true hjk]at hun;exact hun
  have hs':(listed.setIfInBounds j true).getD st true=false:=by rw[nW true aa];exact hs
  have hk':(listed.setIfInBounds j true).getD k true=false:=by rw[nW true hjk];exact hk
  have hm':(listed.setIfInBounds j true).getD m true=false:=by rw[nW true hjm];exact hm
  refine FJ (λa' w' h5=>?_) h4;obtain⟨h6,h7,h8,h9⟩:=h5;have hC':C w':=h8 (by rw[nW true aa,aj];exact hs);refine⟨λ_=>hC',ih (listed.setIfInBounds j true) a' w' hfree' (rV hr (Cw hji)) hs' hk' hm' h6 hC' ?_⟩;rw[Fs _ _ hji];exact h9
theorem yn{i:Nat}{oi:Oper}{v:Value}(hi:ops[i]?=some oi)(hsel:∀(j:Nat)(o:Oper) cs b,ops[j]?=some o->o.op≠.select cs b)
 (hQ:∀c a w,Q (.panic c) (a.put oi.dst v) w->Q (.panic c) a w) (hne:i≠st):
 ∀(fuel:Nat)(listed:Array Bool)(a:Act)(w:World),
  (∀j oj,ops[j]?=some oj->j≠i->listed.getD j true=false->(∀e∈oj.after,Region.binds md e=true->e.on≠i)->oi.apart ops oj=true)->
  i∈Region.ready md ops listed->iP P ops (λ_=>True) oi v a->(listed.getD st true=false->C w)->
  gV P md ops Q C st fuel (listed.setIfInBounds i true) (a.put oi.dst v) w->gV P md ops Q C st (fuel+1) listed a w:=by
 have aa:∀(listed:Array Bool),(listed.setIfInBounds i true).getD st true=listed.getD st true:=λlisted=>nW true hne
 intro fuel
 induction fuel with
 |zero=>
  intro listed a w _ hr hy hC H;refine⟨λh=>(by rw[h]at hr;cases hr),λj hj=>?_⟩;by_cases hji:j=i
  ·subst hji;exact hy.wpOp hi trivial ⟨λh=>hC (by rw[<-aa];exact h),H⟩
  have h1:=rV hj hji;rw[H.1]at h1;cases h1
 |succ fuel ih=>
  intro listed a w hfree hr hy hC H;refine⟨λh=>(by rw[h]at hr;cases hr),λj hj=>?_⟩;by_cases hji:j=i
  ·subst hji;exact hy.wpOp hi trivial ⟨λh=>hC (by rw[<-aa];exact h),H⟩
  have h1:=H.2 j (rV hj hji);obtain⟨hjun,oj,hoj,hall⟩:=x8.1 hj;have hnot:∀e∈oj.after,Region.binds md e=true->e.on≠i:=λe he hb heq=>by
   have h3:=hall e he hb;have h0:=(x8.1 hr).1;rw[heq]at h3;rcases lu i listed.size with h'|h'
   ·simp[h']at h0 h3;rw[h0]at h3;cases h3
   simp[Array.getElem?_eq_none h']at h3
  have hap:=hfree j oj hoj hji hjun hnot;obtain⟨_,_,h3⟩:=Ig hap;have hw:YieldsIf P ops (λ_=>False) oi v a:=hy.imp (λh=>⟨h.1,λ_ h=>h.elim⟩) id;have h2:=Ih (S:=λ_=>False) hoj hap (λcs b=>hsel i oi cs b hi) (λcs b=>hsel j oj cs b hoj) hQ hw h1;have h4:=nL (R:=λa'=>iP P ops (λ_=>True) oi v a') hoj
   (λa' u hR=>hR.of_same (Ii oi (λcs b=>hsel i oi cs b hi) a' oj.dst u h3) (Ij oi a' oj.dst u h3)) (λa' d hR=>hR.of_same rfl rfl) hy h2
  have hfree':∀k ok,ops[k]?=some ok->k≠i->(listed.setIfInBounds j true).getD k true=false->
   (∀e∈ok.after,Region.binds md e=true->e.on≠i)->oi.apart ops ok=true:=λk ok hk hki hun hno=>by
   refine hfree k ok hk hki ?_ hno;by_cases hjk:j=k
   ·subst hjk;exact hjun
   rw[nW true hjk]at hun;exact hun
  refine FJ (λa' w' h5=>?_) h4;obtain⟨h6,h7,h8,h9⟩:=h5;have hC':(listed.setIfInBounds j true).getD st true=false->C w':=λh=>h8 (by rw[Fs _ _ (Cw hji),aa];exact h)
  refine⟨hC',ih (listed.setIfInBounds j true) a' w' hfree' (rV hr (Cw hji)) h6 hC' ?_⟩;rw[Fs _ _ hji];exact h9
theorem Ad{i:Nat}{oi:Oper}{v:Value}{fuel:Nat}{listed:Array Bool}{a:Act}{w:World}(hi:ops[i]?=some oi)
 (hs:Region.noSelect ops=true) (hf:Region.free md ops listed i=true) (hr:(Region.ready md ops listed).contains i=true) (hne:(i !=st)=true)
 (hQ:∀c a w,Q (.panic c) (a.put oi.dst v) w->Q (.panic c) a w) (hy:iP P ops (λ_=>True) oi v a) (hC:listed.getD st true=false->C w)
 (h:gV P md ops Q C st fuel (listed.setIfInBounds i true) (a.put oi.dst v) w):gV P md ops Q C st (fuel+1) listed a w:=
 yn hi (Ik hs) hQ (zo.1 hne) fuel listed a w (Il hi hf) (by simpa using hr) hy hC h
def Region.waits(md:Region.Mode)(ops:Array Oper)(st i:Nat):Bool:=match ops[st]? with
 |some o=>o.after.any (λe=>Region.binds md e&&e.on==i)&&(i !=st)
 |none=>false
theorem oq{i:Nat}{oi:Oper}{v:Value}{fuel:Nat}{listed:Array Bool}{a:Act}{w:World}(hi:ops[i]?=some oi)
 (hs:Region.noSelect ops=true) (hf:Region.free md ops listed i=true) (hr:(Region.ready md ops listed).contains i=true) (hw:Region.waits md ops st i=true) (hst:listed.getD st true=false)
 (hQ:∀c a w,Q (.panic c) (a.put oi.dst v) w->Q (.panic c) a w) (hy:iP P ops C oi v a) (hC:C w)
 (h:gV P md ops Q C st fuel (listed.setIfInBounds i true) (a.put oi.dst v) w):gV P md ops Q C st (fuel+1) listed a w:=by
 unfold Region.waits at hw;cases ho:ops[st]? with
 |none=>rw[ho]at hw;cases hw
 |some aa=>
  rw[ho]at hw;simp only[qQ,Lr,zo,ne_eq,FH]at hw;obtain⟨⟨e,he,hb,heq⟩,hne⟩:=hw;exact Ac hi (Ik hs) hQ ho ⟨e,he,hb,heq⟩ hne fuel listed a w (Il hi hf) (by simpa using hr) hst hy hC h
theorem Ae{i:Nat}(k:Nat){oi:Oper}{v:Value}{fuel:Nat}{listed:Array Bool}{a:Act}{w:World}(hi:ops[i]?=some oi)
 (hs:Region.noSelect ops=true) (hf:Region.free md ops listed i=true) (hr:(Region.ready md ops listed).contains i=true) (hw:(Region.waits md ops st k&&Region.waits md ops k i&&(i !=st))=true) (hst:(!listed.getD st true&& !listed.getD k true)=true)
 (hQ:∀c a w,Q (.panic c) (a.put oi.dst v) w->Q (.panic c) a w) (hy:iP P ops C oi v a) (hC:C w)
 (h:gV P md ops Q C st fuel (listed.setIfInBounds i true) (a.put oi.dst v) w):gV P md ops Q C st (fuel+1) listed a w:=by
 unfold Region.waits at hw;rw[qQ,Hr,Hr]at hst;cases ho:ops[st]? with
 |none=>rw[ho]at hw;simp at hw
 |some aa=>
  cases hk:ops[k]? with
  |none=>rw[ho,hk]at hw;simp at hw
  |some ok=>
   rw[ho,hk]at hw;simp only[qQ,Lr,zo,ne_eq,FH]at hw;obtain⟨⟨⟨⟨e,he,hb,heq⟩,_⟩,⟨e',he',hb',heq'⟩,_⟩,hne⟩:=hw;exact yj hi (Ik hs) hQ ho hk ⟨e,he,hb,heq⟩ ⟨e',he',hb',heq'⟩ hne fuel listed a w (Il hi hf) (by simpa using hr) hst.1 hst.2 hy hC h
theorem Af{i:Nat}(k m:Nat){oi:Oper}{v:Value}{fuel:Nat}{listed:Array Bool}{a:Act}{w:World}(hi:ops[i]?=some oi)
 (hs:Region.noSelect ops=true) (hf:Region.free md ops listed i=true) (hr:(Region.ready md ops listed).contains i=true) (hw:(Region.waits md ops st k&&(Region.waits md ops k m&&Region.waits md ops m i&&(i !=st)))=true) (hst:(!listed.getD st true&&(!listed.getD k true&& !listed.getD m true))=true)
 (hQ:∀c a w,Q (.panic c) (a.put oi.dst v) w->Q (.panic c) a w) (hy:iP P ops C oi v a) (hC:C w)
 (h:gV P md ops Q C st fuel (listed.setIfInBounds i true) (a.put oi.dst v) w):gV P md ops Q C st (fuel+1) listed a w:=by
 unfold Region.waits at hw;rw[qQ,qQ,Hr,Hr,Hr]at hst;cases ho:ops[st]? with
 |none=>rw[ho]at hw;simp at hw
 |some aa=>
  cases hk:ops[k]? with
  |none=>rw[ho,hk]at hw;simp at hw
  |some ok=>
   cases hm:ops[m]? with
   |none=>rw[ho,hk,hm]at hw;simp at hw
   |some om=>
    rw[ho,hk,hm]at hw;simp only[qQ,Lr,zo,ne_eq,FH]at hw;obtain⟨⟨⟨e,he,hb,heq⟩,_⟩,⟨⟨⟨e',he',hb',heq'⟩,_⟩,⟨e2,he2,hb2,heq2⟩,_⟩,hne⟩:=hw;exact ym hi (Ik hs) hQ ho hk hm ⟨e,he,hb,heq⟩ ⟨e',he',hb',heq'⟩ ⟨e2,he2,hb2,heq2⟩ hne fuel listed a w (Il hi hf) (by simpa using hr) hst.1 hst.2.1 hst.2.2 hy hC h
theorem fA{listed:Array Bool}{a:Act}{w:World}(hr:Region.ready md ops listed=[])(h:Q .normal a w):
 ∀fuel,gV P md ops Q C st fuel listed a w
 |0=>⟨hr,h⟩
 |_+1=>⟨λ_=>h,by rw[hr];simp⟩
def jH(P:Program)(md:Region.Mode)(ops:Array Oper)(Q:Exit->Act->World->Prop)(C:World->Prop)(st fuel:Nat)(listed:Array Bool)(a:Act)(w:World)(rs:List Nat):Prop:=
 ∀i∈rs,wpOp P ops Q i (λa' w'=>((listed.setIfInBounds i true).getD st true=false->C w')/\gV P md ops Q C st fuel (listed.setIfInBounds i true) a' w') a w
theorem jH.nil{fuel:Nat}{listed:Array Bool}{a:Act}{w:World}:jH P md ops Q C st fuel listed a w []:=λ_ h=>by cases h
theorem jH.cons{fuel:Nat}{listed:Array Bool}{a:Act}{w:World}{i:Nat}{o:Oper}{rs:List Nat}(ho:ops[i]?=some o)
 (h:∀K':Act->World->Prop,Shut (∀a w,((listed.setIfInBounds i true).getD st true=false->C w)->(((listed.setIfInBounds i true).getD st true=false->C w)->gV P md ops Q C st fuel (listed.setIfInBounds i true) a w)->K' a w)->if Region.wanted o (yielded ops a.tmps)=true then Oper.wp P o a w K' Q else K' (a.put o.dst undef) w)
 (hs:jH P md ops Q C st fuel listed a w rs):jH P md ops Q C st fuel listed a w (i::rs):=λj hj=>by
 rcases qV.1 hj with rfl|hj
 ·exact wpOp_step ho (λK' hK=>h K' (λa w hC hW=>hK a w ⟨hC,hW hC⟩))
 exact hs j hj
theorem uh{rs:List Nat}{fuel:Nat}{listed:Array Bool}{a:Act}{w:World}(hr:Region.ready md ops listed=rs)(hne:rs≠[])
 (h:jH P md ops Q C st fuel listed a w rs):gV P md ops Q C st (fuel+1) listed a w:=
 ⟨λh0=>absurd (hr▸h0) hne,hr▸h⟩
theorem fB{id:Nat}{a:Act}{w:World}(C:World->Prop)(st:Nat)(hm:P.follows .mixedOrders=true)
 (h:gV P .any ops Q C st ops.size (Array.replicate ops.size false) a w.drew):(Code.region id ops true).wp P Q a w:=
 wp_region_any hm (xB _ _ _ _ h)
end
end Go
namespace Go.Proofs.YtfbiffdmhcjhbaaGreat
end Go.Proofs.YtfbiffdmhcjhbaaGreat
namespace Go
open Go.Proofs.YtfbiffdmhcjhbaaGreat
class qf (l:List Value) (n:Nat) (v:Value) (r:outParam (List Value)):Prop where
 is:l.set n v=r
instance {x v:Value}{l:List Value}:qf (x::l) 0 v (v::l):=⟨rfl⟩
instance {x v:Value}{l r:List Value}{n:Nat}[h:qf l n v r]:qf (x::l) (n+1) v (x::r):=⟨by rw[fG,h.is]⟩
instance {v u:Value}{l k r:List Value}{n m:Nat}[h:qf l m u k][g:qf k n v r]:qf (l.set m u) n v r:=⟨by rw[h.is,g.is]⟩
def uZ(md:Region.Mode)(ops:Array Oper)(listed:Array Bool)(i:Nat):Bool:=Region.noSelect ops&&Region.free md ops listed i&&(Region.ready md ops listed).contains i
section
variable {P:Program}{ops:Array Oper}{Q:Exit->Act->World->Prop}{md:Region.Mode}{C:World->Prop}{st:Nat}
variable {d:Tmp}{op:Op}{ty:TypeId}{ps:String}{af:Array Edge}{g:Option (Nat×Bool)}{fuel:Nat}{listed:Array Bool}{l l':List Value}{df:List Deferred}{w:World}
theorem fM(i:Nat)(v:Value)(hi:ops[i]?=some ⟨some d,op,ty,ps,af,g⟩)(hk:(uZ md ops listed i&&(i !=st))=true)(hw:Region.wanted ⟨some d,op,ty,ps,af,g⟩ (yielded ops l.toArray)=true)
 (hQ:∀c a w,Q (.panic c) (Act.put a (some d) v) w->Q (.panic c) a w) (hy:∀w,(execOp (Act.eval ⟨l.toArray,df⟩) ⟨some d,op,ty,ps,af,g⟩).run P w=.ok (.value v) w) (hC:listed.getD st true=false->C w) [hs:qf l d v l'] (h:gV P md ops Q C st fuel (listed.setIfInBounds i true) ⟨l'.toArray,df⟩ w):gV P md ops Q C st (fuel+1) listed ⟨l.toArray,df⟩ w:=by
 have ha:Act.put ⟨l.toArray,df⟩ (some d) v=⟨l'.toArray,df⟩:=by simp only[Act.put,fF,hs.is]
 rw[<-ha]at h;simp only[uZ,qQ]at hk;obtain⟨⟨⟨h1,h2⟩,h3⟩,h4⟩:=hk;exact Ad hi h1 h2 h3 h4 hQ (.inl ⟨hw,λw _=>.of_run (hy w)⟩) hC h
theorem fw(i:Nat)(v:Value)(hi:ops[i]?=some ⟨some d,op,ty,ps,af,g⟩)(hk:(uZ md ops listed i&&Region.waits md ops st i&&(!listed.getD st true))=true)(hw:Region.wanted ⟨some d,op,ty,ps,af,g⟩ (yielded ops l.toArray)=true)
 (hQ:∀c a w,Q (.panic c) (Act.put a (some d) v) w->Q (.panic c) a w) (hy:∀w,C w->(execOp (Act.eval ⟨l.toArray,df⟩) ⟨some d,op,ty,ps,af,g⟩).run P w=.ok (.value v) w) (hC:C w) [hs:qf l d v l'] (h:gV P md ops Q C st fuel (listed.setIfInBounds i true) ⟨l'.toArray,df⟩ w):gV P md ops Q C st (fuel+1) listed ⟨l.toArray,df⟩ w:=by
 have ha:Act.put ⟨l.toArray,df⟩ (some d) v=⟨l'.toArray,df⟩:=by simp only[Act.put,fF,hs.is]
 rw[<-ha]at h;simp only[uZ,qQ]at hk;obtain⟨⟨⟨⟨h1,h2⟩,h3⟩,h4⟩,h5⟩:=hk;exact oq hi h1 h2 h3 h4 (by simpa using h5) hQ (.inl ⟨hw,λw hC=>.of_run (hy w hC)⟩) hC h
theorem Qc(k i:Nat)(v:Value)(hi:ops[i]?=some ⟨some d,op,ty,ps,af,g⟩)(hk:(uZ md ops listed i&&(Region.waits md ops st k&&Region.waits md ops k i&&(i !=st))&&(!listed.getD st true&& !listed.getD k true))=true)(hw:Region.wanted ⟨some d,op,ty,ps,af,g⟩ (yielded ops l.toArray)=true)
 (hQ:∀c a w,Q (.panic c) (Act.put a (some d) v) w->Q (.panic c) a w) (hy:∀w,C w->(execOp (Act.eval ⟨l.toArray,df⟩) ⟨some d,op,ty,ps,af,g⟩).run P w=.ok (.value v) w) (hC:C w) [hs:qf l d v l'] (h:gV P md ops Q C st fuel (listed.setIfInBounds i true) ⟨l'.toArray,df⟩ w):gV P md ops Q C st (fuel+1) listed ⟨l.toArray,df⟩ w:=by
 have ha:Act.put ⟨l.toArray,df⟩ (some d) v=⟨l'.toArray,df⟩:=by simp only[Act.put,fF,hs.is]
 rw[<-ha]at h;simp only[uZ,qQ]at hk;obtain⟨⟨⟨⟨h1,h2⟩,h3⟩,h4⟩,h5⟩:=hk;exact Ae k hi h1 h2 h3 (by simpa using h4) (by simpa using h5) hQ (.inl ⟨hw,λw hC=>.of_run (hy w hC)⟩) hC h
theorem Cr(k m i:Nat)(v:Value)(hi:ops[i]?=some ⟨some d,op,ty,ps,af,g⟩)(hk:(uZ md ops listed i&&(Region.waits md ops st k&&(Region.waits md ops k m&&Region.waits md ops m i&&(i !=st)))&&(!listed.getD st true&&(!listed.getD k true&& !listed.getD m true)))=true)(hw:Region.wanted ⟨some d,op,ty,ps,af,g⟩ (yielded ops l.toArray)=true)
 (hQ:∀c a w,Q (.panic c) (Act.put a (some d) v) w->Q (.panic c) a w) (hy:∀w,C w->(execOp (Act.eval ⟨l.toArray,df⟩) ⟨some d,op,ty,ps,af,g⟩).run P w=.ok (.value v) w) (hC:C w) [hs:qf l d v l'] (h:gV P md ops Q C st fuel (listed.setIfInBounds i true) ⟨l'.toArray,df⟩ w):gV P md ops Q C st (fuel+1) listed ⟨l.toArray,df⟩ w:=by
 have ha:Act.put ⟨l.toArray,df⟩ (some d) v=⟨l'.toArray,df⟩:=by simp only[Act.put,fF,hs.is]
 rw[<-ha]at h;simp only[uZ,qQ]at hk;obtain⟨⟨⟨⟨h1,h2⟩,h3⟩,h4⟩,h5⟩:=hk;exact Af k m hi h1 h2 h3 (by simpa using h4) (by simpa using h5) hQ (.inl ⟨hw,λw hC=>.of_run (hy w hC)⟩) hC h
theorem sQ(i:Nat)(v:Value)(hi:ops[i]?=some ⟨some d,op,ty,ps,af,g⟩)(hk:(uZ md ops listed i)=true)(hw:Region.wanted ⟨some d,op,ty,ps,af,g⟩ (yielded ops l.toArray)=true)
 (hQ:∀c a w,Q (.panic c) (Act.put a (some d) v) w->Q (.panic c) a w) (hy:∀w,C w->(execOp (Act.eval ⟨l.toArray,df⟩) ⟨some d,op,ty,ps,af,g⟩).run P w=.ok (.value v) w) (hC:C w) [hs:qf l d v l'] (h:wpAnyH P md ops Q C fuel (listed.setIfInBounds i true) ⟨l'.toArray,df⟩ w):wpAnyH P md ops Q C (fuel+1) listed ⟨l.toArray,df⟩ w:=by
 have ha:Act.put ⟨l.toArray,df⟩ (some d) v=⟨l'.toArray,df⟩:=by simp only[Act.put,fF,hs.is]
 rw[<-ha]at h;simp only[uZ,qQ]at hk;obtain⟨⟨h1,h2⟩,h3⟩:=hk;exact wpAnyH_take hi h1 h2 h3 hQ (.inl ⟨hw,hy⟩) hC h
theorem RY(i:Nat)(hi:ops[i]?=some ⟨some d,op,ty,ps,af,g⟩)(hk:(uZ md ops listed i)=true)(hw:Region.wanted ⟨some d,op,ty,ps,af,g⟩ (yielded ops l.toArray)=false)
 (hQ:∀c a w,Q (.panic c) (Act.put a (some d) undef) w->Q (.panic c) a w) (hC:C w) [hs:qf l d undef l'] (h:wpAnyH P md ops Q C fuel (listed.setIfInBounds i true) ⟨l'.toArray,df⟩ w):wpAnyH P md ops Q C (fuel+1) listed ⟨l.toArray,df⟩ w:=by
 have ha:Act.put ⟨l.toArray,df⟩ (some d) undef=⟨l'.toArray,df⟩:=by simp only[Act.put,fF,hs.is]
 rw[<-ha]at h;simp only[uZ,qQ]at hk;obtain⟨⟨h1,h2⟩,h3⟩:=hk;exact wpAnyH_take hi h1 h2 h3 hQ (.inr ⟨hw,rfl⟩) hC h
theorem iD(i:Nat)(hr:Region.ready md ops listed=[i]){e:Option Tmp}{a:Act}(hi:ops[i]?=some ⟨e,op,ty,ps,af,g⟩)(h:∀K':Act->World->Prop,Shut (∀a w,((listed.setIfInBounds i true).getD st true=false->C w)->(((listed.setIfInBounds i true).getD st true=false->C w)->gV P md ops Q C st fuel (listed.setIfInBounds i true) a w)->K' a w)->if Region.wanted ⟨e,op,ty,ps,af,g⟩ (yielded ops a.tmps)=true then Oper.wp P ⟨e,op,ty,ps,af,g⟩ a w K' Q else K' (a.put e undef) w):gV P md ops Q C st (fuel+1) listed a w:=
 uh hr (by simp) (jH.cons hi h jH.nil)
theorem Oc(i:Nat)(hr:Region.ready md ops listed=[i]){e:Option Tmp}{a:Act}(hi:ops[i]?=some ⟨e,op,ty,ps,af,g⟩)(h:∀K':Act->World->Prop,Shut (∀a w,C w->(C w->wpAnyH P md ops Q C fuel (listed.setIfInBounds i true) a w)->K' a w)->if Region.wanted ⟨e,op,ty,ps,af,g⟩ (yielded ops a.tmps)=true then Oper.wp P ⟨e,op,ty,ps,af,g⟩ a w K' Q else K' (a.put e undef) w):wpAnyH P md ops Q C (fuel+1) listed a w:=
 wpAnyH_ready hr (by simp) (OU hi h AllReadyH.nil)
end
theorem jg{a:Bool}{q:Prop}(h1:a=true):a=false->q:=λh=>absurd (h1.symm.trans h) (by decide)
end Go
namespace Go.Proofs.YtfbiffdmhcjhbaaGreat
end Go.Proofs.YtfbiffdmhcjhbaaGreat

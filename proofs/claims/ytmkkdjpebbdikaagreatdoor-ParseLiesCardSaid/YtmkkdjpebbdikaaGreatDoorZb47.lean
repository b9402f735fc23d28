/- The law correctorlaw12.ParseLies: whatever the input, the call returns true, and each argument reads afterwards as it read before. Conditions: none but those of the form (package-level variables as the program text lays them, tied by the card).
   The idea stands in the walk (W12Li) and in what it imports; this text is the frame. -/
import Derived.Test.YtmkkdjpebbdikaaGreatDoorZb46
import Derived.ChangeOld
import Derived.ShutString
import Derived.Test.YtmkkdjpebbdikaaGreatDoorCards
import Derived.Test.YtmkkdjpebbdikaaGreatDoorTie
set_option linter.all false
set_option maxHeartbeats 16000000
set_option maxRecDepth 100000
namespace Go.Proofs.YtmkkdjpebbdikaaGreatDoor
open Go.RowKit Go.Proofs.Tryz
def ae1:=@trodAll_cons_mk
namespace parseLiesDone
open Go.ChangeShapes Go.WideShapes Go.ChangeAt Go.RowKit
open Go.ChangeMaps (open_string shut_string)
theorem contract(H:Type)(enc:TypeId×Value->H)(W:World)(base:Nat)(args:Array Value)(ds gs:List (DataW H))(before:List MemPlace)
 (hval:∀(j:Nat) t v,Tryz.f3.params[j]?=some t->args[j]?=some v->Value.okWide prog W .any base t v)
 (hW:DataW.Whole enc prog Tryz.f3.params.toList Rows.parseLiesSpec.vars false W args.toList ds gs before) (hL:laidMetH prog Rows.parseLiesRow.laid W):
 Calls prog 3 args W λe W'=>∃v,e=.returned v/\Rows.parseLiesSpec.post enc prog Tryz.f3 false true false false W args v W':=by
 have ae:=hW;obtain⟨p,q,aa,hV,rfl,hfz,hnd⟩:=hW;have hA:DataW.TrodAll enc prog W 0 (λ_=>true) true Tryz.f3.params.toList args.toList ds p:=aa;rw[params3]at hA hval;obtain⟨v0,ai,d0,ds0,p0,q0,hargs,rfl,rfl,h0,r0⟩:=trodAll_cons hA;obtain⟨v1,vs1,d1,ds1,p1,q1,rfl,rfl,rfl,h1,r1⟩:=trodAll_cons r0;obtain⟨v2,vs2,d2,aj,p2,q2,rfl,rfl,rfl,h2,r2⟩:=trodAll_cons r1;obtain⟨v3,vs3,d3,ds3,p3,q3,rfl,rfl,rfl,h3,r3⟩:=trodAll_cons r2;obtain⟨rfl,rfl,rfl⟩:=trodAll_nil r3;obtain rfl:args=#[v0,v1,v2,v3]:=AU
 obtain⟨rfl,rfl⟩:=trodVars_none hV;have k0:=h0;have af:∀x∈p0,x.block<W.heap.size:=JD
 obtain⟨s0,w0⟩:=lC underlying22 underlying3 dV (hval 0 22 v0 rfl rfl) h0;have k1:=h1;have ag:∀x∈p1,x.block<W.heap.size:=Qn
 obtain⟨s1,w1⟩:=lC underlying22 underlying3 dV (hval 1 22 v1 rfl rfl) h1;have k2:=h2;have ah:∀x∈p2,x.block<W.heap.size:=YS
 obtain⟨s2,w2⟩:=FV (hval 2 23 v2 rfl rfl) h2;obtain⟨a3,rfl,rfl,rfl,w3⟩:=open_int underlying3 (hval 3 3 v3 rfl rfl) h3;clear aa hval;refine(Gf v0 s0 v1 s1 v2 s2 a3 W w0 w1 w2 w3 (mO hL)).mono λe W' ⟨he,kL⟩=>?_
 subst he;exact⟨_,rfl,_,_,_,[],_,[],ae,trodAll_mk1 (Vh underlying4 _),(ae1 (Below.trod laidOut dV (pM dV) k0 kL af) (ae1 (Below.trod laidOut dV (pM dV) k1 kL ag) (ae1 (Below.trod laidOut dV (pM dV) k2 kL ah) (ae1 (shut_int underlying3 w3) trodAll_mk0)))),rfl,kL.frame _,λh=>fV⟩
theorem mi(os:Os):laidMet prog Rows.parseLiesRow.laid ((iP os).forCall (λ_ _=>0) ⟨#[],#[.slice none 0 0,.slice none 0 0,.slice none 0 0,.int .i64 0],[]⟩).memory:=
 laidMet_of_run' 8 dV dV
theorem reads(os:Os){H:Type}(enc:TypeId×Value->H):∃places,DataW.whole enc prog ((iP os).forCall (λ_ _=>0) ⟨#[],#[.slice none 0 0,.slice none 0 0,.slice none 0 0,.int .i64 0],[]⟩).memory Tryz.f3.params.toList Rows.parseLiesSpec.vars false (#[.slice none 0 0,.slice none 0 0,.slice none 0 0,.int .i64 0]:Array Value).toList 8=some ([.nil,.nil,.nil,.lit (.int .i64 0)],[],places):=
 ⟨[],dV⟩
theorem lifted(os:Os)(started:os.Started)(H:Type)(enc:TypeId×Value->H)(F:Stop.Interp):
 ReturnsInHanded {} Tryz.checked os 3 .any ((OpenSpec.ofChange Rows.parseLiesSpec).preRow enc prog Tryz.f3 Rows.parseLiesRow.domain false Rows.parseLiesRow.laid) (((OpenSpec.ofChange Rows.parseLiesSpec).at F).post enc prog Tryz.f3 false true false false):=by
 obtain⟨places,hx⟩:=reads os enc;refine returnsInHanded_of_row (C:=Tryz.checked) (s:=OpenSpec.ofChange Rows.parseLiesSpec) own started dV func3
  (witness_row_at (enc:=enc) (C:=Tryz.checked) false (iP os) #[.slice none 0 0,.slice none 0 0,.slice none 0 0,.int .i64 0] rfl dV dV dV
   (OpenSpec.preRow_of_cond 8 hx dV (λk hk=>wF) dV (mi os))) ?_
 intro W base args ds gs before hval hW _ _ _ hL _ _;exact contract H enc W base args ds gs before hval hW hL
theorem said:Rows.ParseLiesSaid:=
 OpenClaim.holds_of_cond 3 Tryz.f3 rfl rfl rfl rfl rfl rfl rfl ⟨rfl,rfl,rfl,rfl,rfl⟩ rfl rfl rfl rfl rfl dV func3 dV
  (pM dV) (by unfold Func.isWrapper;first|(rw[dX gV];kernel_rfl)|(rw[dW gV];exact⟨rfl,rfl⟩))
  (λos started H enc _ F=>AV)
theorem plain(f:FuncId)(fn:Func)(hf:Tryz.pinned.checked.prog.funcNamed "corrector/correctorlaw12.ParseLies"=some f)(hfn:Tryz.pinned.checked.prog.funcs[f]?=some fn):
 true=Tryz.pinned.checked.prog.looks []/\∀(j:Nat) t,fn.params[j]?=some t->Tryz.pinned.checked.prog.wantsStandIn t=false:=by
 obtain rfl:f=3:=iG ((show prog.funcNamed "corrector/correctorlaw12.ParseLies"=some 3 by kernel_rfl).symm.trans hf)|>.symm
 obtain rfl:fn=Tryz.f3:=(iG (func3.symm.trans hfn)).symm;refine⟨dV,λj t ht=>?_⟩;rw[params3]at ht;have hall:([22,22,23,3]:List TypeId).all (λu=>!prog.wantsStandIn u)=true:=dV
 have hin:t∈([22,22,23,3]:List TypeId):=AX
 have h2:prog.wantsStandIn t=false:=AY
 exact h2
theorem card:Rows.ParseLiesCardSaid:=
 Claim7.holds_tied_plain_at .later [] _ _ _ _ said (λ_ h=>fV) dV (λ_ h=>fV) parseLies_row_tie rfl ⟨rfl,rfl⟩ dV rfl plain dV
#print axioms card
end parseLiesDone
end Go.Proofs.YtmkkdjpebbdikaaGreatDoor

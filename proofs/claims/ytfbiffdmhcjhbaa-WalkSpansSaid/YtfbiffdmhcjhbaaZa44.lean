/- The law correctorlaw13.WalkSpans: whatever the input, the call returns true, and each argument reads afterwards as it read before. Conditions: none but those of the form (the arguments can be read as data, each string and slice within the reach of the form; no package-level variable is listed).
   The idea stands in the walk (Wls) and in what it imports; this text is the frame. -/
import Derived.Test.YtfbiffdmhcjhbaaZa43
import Derived.ChangeOld
import Derived.Deep.DeepHandedRow
import Derived.ShutString
import Derived.Test.YtfbiffdmhcjhbaaRows
set_option linter.all false
set_option maxHeartbeats 16000000
set_option maxRecDepth 100000
set_option synthInstance.maxSize 4000
set_option synthInstance.maxHeartbeats 0
namespace Go.Proofs.Ytfbiffdmhcjhbaa
open Go.RowKit Go.Proofs.Try
namespace walkSpansDone
open Go.ChangeShapes Go.WideShapes Go.ChangeAt Go.RowKit
open Go.ChangeMaps (open_string shut_string)
theorem contract(H:Type)(enc:TypeId×Value->H)(W:World)(base:Nat)(args:Array Value)(ds gs:List (DataW H))(before:List MemPlace)
 (hval:∀(j:Nat) t v,Try.f6.params[j]?=some t->args[j]?=some v->Value.okWide prog W .any base t v)
 (hW:DataW.Whole enc prog Try.f6.params.toList Rows.walkSpansSpec.vars false W args.toList ds gs before):
 Calls prog 6 args W λe W'=>∃v,e=.returned v/\Rows.walkSpansSpec.post enc prog Try.f6 false true false false W args v W':=by
 have ae:=hW;obtain⟨p,q,aa,hV,rfl,hfz,hnd⟩:=hW;have hA:DataW.TrodAll enc prog W 0 (λ_=>true) true Try.f6.params.toList args.toList ds p:=aa;rw[params6]at hA hval;obtain⟨v0,ag,d0,ds0,p0,q0,hargs,rfl,rfl,h0,r0⟩:=trodAll_cons hA;obtain⟨v1,vs1,d1,ds1,p1,q1,rfl,rfl,rfl,h1,r1⟩:=trodAll_cons r0;obtain⟨rfl,rfl,rfl⟩:=trodAll_nil r1;obtain rfl:args=#[v0,v1]:=by cases args;simp_all
 obtain⟨rfl,rfl⟩:=trodVars_none hV;have k0:=h0;have af:∀x∈p0,x.block<W.heap.size:=by obtain⟨m,hm⟩:=k0;exact DataW.trod_lt m _ _ _ hm
 obtain⟨s0,w0⟩:=vo underlying22 underlying3 (by kernel_rfl) (hval 0 22 v0 rfl rfl) h0;obtain⟨a1,rfl,rfl,rfl,w1⟩:=open_int underlying3 (hval 1 3 v1 rfl rfl) h1;clear aa hval;refine(Dw v0 s0 a1 W w0 w1).mono λe W' ⟨he,qK⟩=>?_
 subst he;exact⟨_,rfl,_,_,_,[],_,[],ae,trodAll_mk1 (shut_bool underlying4 _),(trodAll_cons_mk (Below.trod laidOut (by kernel_rfl) (xS (by kernel_rfl)) k0 qK af) (trodAll_cons_mk (shut_int underlying3 w1) trodAll_mk0)),rfl,qK.frame _,λh=>by cases h⟩
theorem lifted(os:Os)(started:os.Started)(H:Type)(enc:TypeId×Value->H):
 ReturnsInHanded {} Try.checked os 6 .any (Rows.walkSpansSpec.pre6 enc prog Try.f6 Rows.walkSpansRow.domain false) (Rows.walkSpansSpec.post enc prog Try.f6 false true false false):=by
 refine returnsInHanded_of_change (C:=Try.checked) own started (by kernel_rfl) func6
  (ChangeSpec.witness6 (enc:=enc) (C:=Try.checked) false ⟨#[],#[.slice none 0 0,.int .i64 0],[]⟩ 8 (by kernel_rfl) (by kernel_rfl) (by kernel_rfl) (by kernel_rfl)) ?_
 intro W base args ds gs before hval hW _ _;exact contract H enc W base args ds gs before hval hW
theorem said:Rows.WalkSpansSaid:=
 OpenClaim.holds_of_wide 6 Try.f6 rfl rfl rfl rfl rfl rfl rfl ⟨rfl,rfl,rfl,rfl,rfl⟩ rfl rfl rfl rfl rfl (by kernel_rfl) func6 (by kernel_rfl)
  (xS (by kernel_rfl)) (by unfold Func.isWrapper;first|(rw[gu (by decide+kernel)];kernel_rfl)|(rw[fu (by decide+kernel)];exact⟨rfl,rfl⟩))
  (λos started H enc _=>lifted os started H enc)
#print axioms said
end walkSpansDone
end Go.Proofs.Ytfbiffdmhcjhbaa

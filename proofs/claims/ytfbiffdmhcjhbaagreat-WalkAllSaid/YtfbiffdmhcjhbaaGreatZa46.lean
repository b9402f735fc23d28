/- The law correctorlaw13.WalkAll: whatever the input, the call returns true, and each argument reads afterwards as it read before. Conditions: none but those of the form (the arguments can be read as data, each string and slice within the reach of the form; no package-level variable is listed).
   The idea stands in the walk (Wzw) and in what it imports; this text is the frame. -/
import Derived.Test.YtfbiffdmhcjhbaaGreatZa45
import Derived.ChangeOld
import Derived.Deep.DeepHandedRow
import Derived.ShutString
import Derived.Test.YtfbiffdmhcjhbaaGreatRows
set_option linter.all false
set_option maxHeartbeats 16000000
set_option maxRecDepth 100000
set_option synthInstance.maxSize 4000
set_option synthInstance.maxHeartbeats 0
namespace Go.Proofs.YtfbiffdmhcjhbaaGreat
open Go.RowKit Go.Proofs.Tryz
def O5:=@DataW.trod_lt
def Iv:=@trodAll_cons_mk
namespace walkAllDone
open Go.ChangeShapes Go.WideShapes Go.ChangeAt Go.RowKit
open Go.ChangeMaps (open_string shut_string)
theorem contract(H:Type)(enc:TypeId×Value->H)(W:World)(base:Nat)(args:Array Value)(ds gs:List (DataW H))(before:List MemPlace)
 (hval:∀(j:Nat) t v,Tryz.f3.params[j]?=some t->args[j]?=some v->Value.okWide prog W .any base t v)
 (hW:DataW.Whole enc prog Tryz.f3.params.toList Rows.walkAllSpec.vars false W args.toList ds gs before):
 Calls prog 3 args W λe W'=>∃v,e=.returned v/\Rows.walkAllSpec.post enc prog Tryz.f3 false true false false W args v W':=by
 have ae:=hW;obtain⟨p,q,aa,hV,rfl,hfz,hnd⟩:=hW;have hA:DataW.TrodAll enc prog W 0 (λ_=>true) true Tryz.f3.params.toList args.toList ds p:=aa;rw[params3]at hA hval;obtain⟨v0,ai,d0,ds0,p0,q0,hargs,rfl,rfl,h0,r0⟩:=trodAll_cons hA;obtain⟨v1,vs1,d1,ds1,p1,q1,rfl,rfl,rfl,h1,r1⟩:=trodAll_cons r0;obtain⟨v2,vs2,d2,aj,p2,q2,rfl,rfl,rfl,h2,r2⟩:=trodAll_cons r1;obtain⟨v3,vs3,d3,ds3,p3,q3,rfl,rfl,rfl,h3,r3⟩:=trodAll_cons r2;obtain⟨v4,ak,d4,av,p4,q4,rfl,rfl,rfl,h4,r4⟩:=trodAll_cons r3;obtain⟨rfl,rfl,rfl⟩:=trodAll_nil r4;obtain rfl:args=#[v0,v1,v2,v3,v4]:=by cases args;simp_all
 obtain⟨rfl,rfl⟩:=trodVars_none hV;have k0:=h0;have af:∀x∈p0,x.block<W.heap.size:=by obtain⟨m,hm⟩:=k0;exact O5 m _ _ _ hm
 obtain⟨s0,w0⟩:=qO underlying22 underlying3 (by kernel_rfl) (hval 0 22 v0 rfl rfl) h0;have k1:=h1;have ag:∀x∈p1,x.block<W.heap.size:=by obtain⟨m,hm⟩:=k1;exact O5 m _ _ _ hm
 obtain⟨s1,w1⟩:=qO underlying22 underlying3 (by kernel_rfl) (hval 1 22 v1 rfl rfl) h1;have k2:=h2;have ah:∀x∈p2,x.block<W.heap.size:=by obtain⟨m,hm⟩:=k2;exact O5 m _ _ _ hm
 obtain⟨s2,w2⟩:=Dm (hval 2 23 v2 rfl rfl) h2;obtain⟨a3,rfl,rfl,rfl,w3⟩:=open_int underlying3 (hval 3 3 v3 rfl rfl) h3;obtain⟨a4,rfl,rfl,rfl,w4⟩:=open_int underlying3 (hval 4 3 v4 rfl rfl) h4;clear aa hval;refine(Aj v0 s0 v1 s1 v2 s2 a3 a4 W w0 w1 w2 w3 w4).mono λe W' ⟨he,kE⟩=>?_
 subst he;exact⟨_,rfl,_,_,_,[],_,[],ae,trodAll_mk1 (shut_bool underlying4 _),(Iv (Below.trod laidOut (by kernel_rfl) (zq (by kernel_rfl)) k0 kE af) (Iv (Below.trod laidOut (by kernel_rfl) (zq (by kernel_rfl)) k1 kE ag) (Iv (Below.trod laidOut (by kernel_rfl) (zq (by kernel_rfl)) k2 kE ah) (Iv (shut_int underlying3 w3) (Iv (shut_int underlying3 w4) trodAll_mk0))))),rfl,kE.frame _,λh=>by cases h⟩
theorem lifted(os:Os)(started:os.Started)(H:Type)(enc:TypeId×Value->H):
 ReturnsInHanded {} Tryz.checked os 3 .any (Rows.walkAllSpec.pre6 enc prog Tryz.f3 Rows.walkAllRow.domain false) (Rows.walkAllSpec.post enc prog Tryz.f3 false true false false):=by
 refine returnsInHanded_of_change (C:=Tryz.checked) own started (by kernel_rfl) func3
  (ChangeSpec.witness6 (enc:=enc) (C:=Tryz.checked) false ⟨#[],#[.slice none 0 0,.slice none 0 0,.slice none 0 0,.int .i64 0,.int .i64 0],[]⟩ 8 (by kernel_rfl) (by kernel_rfl) (by kernel_rfl) (by kernel_rfl)) ?_
 intro W base args ds gs before hval hW _ _;exact contract H enc W base args ds gs before hval hW
theorem said:Rows.WalkAllSaid:=
 OpenClaim.holds_of_wide 3 Tryz.f3 rfl rfl rfl rfl rfl rfl rfl ⟨rfl,rfl,rfl,rfl,rfl⟩ rfl rfl rfl rfl rfl (by kernel_rfl) func3 (by kernel_rfl)
  (zq (by kernel_rfl)) (by unfold Func.isWrapper;first|(rw[eT (by decide+kernel)];kernel_rfl)|(rw[eQ (by decide+kernel)];exact⟨rfl,rfl⟩))
  (λos started H enc _=>lifted os started H enc)
#print axioms said
end walkAllDone
end Go.Proofs.YtfbiffdmhcjhbaaGreat

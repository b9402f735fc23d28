/- The law correctorlaw12.ParseKinds: whatever the input, the call returns true, and each argument reads afterwards as it read before. Conditions: none but those of the form (package-level variables as the program text lays them, tied by the card).
   The idea stands in the walk (W12Ki) and in what it imports; this text is the frame. -/
import Derived.Test.YtmkkdjpebbdikaaGreatDoorZn30
import Derived.ChangeOld
import Derived.ShutString
import Derived.Test.YtmkkdjpebbdikaaGreatDoorCards
import Derived.Test.YtmkkdjpebbdikaaGreatDoorTie
set_option linter.all false
set_option maxHeartbeats 16000000
set_option maxRecDepth 100000
namespace Go.Proofs.YtmkkdjpebbdikaaGreatDoor
open Go.RowKit Go.Proofs.Tryz
namespace Ps
open Ar Fl
def codes(b:List Nat)(depth:Nat):List Nat:=(tree b depth).2.2.map Dg.code
def kindOk(x:List Nat×Nat):Bool:=if x.2=0 then codes x.1 9==[]else codes x.1 9==[x.2]||(x.2==1&&(codes x.1 9).length==2)
end Ps
section
open Go.RowKit
open Sg
open Sq
open Ar
theorem UD(k:Nat)(hk:k<19):∃(S:ByteArray)(c:Nat),(#[.string ⟨#[97,58,32,49,10,45,32,98]⟩,.string ⟨#[97,58,32,49,10,32,32,98,58,32,50]⟩,.string ⟨#[97,10,98]⟩,.string ⟨#[97,58,32,98,32,99,58,32,100]⟩,.string ⟨#[93]⟩,.string ⟨#[97,58,32,91,49]⟩,.string ⟨#[9,97,58,32,49]⟩,.string ⟨#[97,58,32,39,120]⟩,.string ⟨#[97,58,32,34,92,113,34]⟩,.string ⟨#[97,58,32,255]⟩,.string ⟨#[45,32,97,10,98,58,32,49]⟩,.string ⟨#[45,32,45,32,97,10,32,32,32,45,32,98]⟩,.string ⟨#[97,58,32,49,32,93]⟩,.string ⟨#[97,58,10,45,32,98,10,99,58,32,49]⟩,.string ⟨#[97,58,32,42,98]⟩,.string ⟨#[45,45,45,10,45,45,45]⟩,.string ⟨#[46,46,46]⟩,.string ⟨#[97,58,32,124,10,32,32,93,10]⟩,.string ⟨#[123,97,58,32,49,125,58,32,50]⟩]:Array Value)[k]?=some (.string S)/\(#[.int .i64 5,.int .i64 6,.int .i64 7,.int .i64 8,.int .i64 8,.int .i64 9,.int .i64 2,.int .i64 3,.int .i64 4,.int .i64 1,.int .i64 5,.int .i64 6,.int .i64 0,.int .i64 0,.int .i64 0,.int .i64 0,.int .i64 0,.int .i64 0,.int .i64 8]:Array Value)[k]?=some (.int .i64 (c:Int))/\Ps.kindOk (Sc.fw S,c)=true/\S.size<=100/\(c=1->k=9):=by
 match k,hk with
 |0,_=>exact⟨⟨#[97,58,32,49,10,45,32,98]⟩,5,rfl,rfl,by decide+kernel,by decide,by decide⟩
 |1,_=>exact⟨⟨#[97,58,32,49,10,32,32,98,58,32,50]⟩,6,rfl,rfl,by decide+kernel,by decide,by decide⟩
 |2,_=>exact⟨⟨#[97,10,98]⟩,7,rfl,rfl,by decide+kernel,by decide,by decide⟩
 |3,_=>exact⟨⟨#[97,58,32,98,32,99,58,32,100]⟩,8,rfl,rfl,by decide+kernel,by decide,by decide⟩
 |4,_=>exact⟨⟨#[93]⟩,8,rfl,rfl,by decide+kernel,by decide,by decide⟩
 |5,_=>exact⟨⟨#[97,58,32,91,49]⟩,9,rfl,rfl,by decide+kernel,by decide,by decide⟩
 |6,_=>exact⟨⟨#[9,97,58,32,49]⟩,2,rfl,rfl,by decide+kernel,by decide,by decide⟩
 |7,_=>exact⟨⟨#[97,58,32,39,120]⟩,3,rfl,rfl,by decide+kernel,by decide,by decide⟩
 |8,_=>exact⟨⟨#[97,58,32,34,92,113,34]⟩,4,rfl,rfl,by decide+kernel,by decide,by decide⟩
 |9,_=>exact⟨⟨#[97,58,32,255]⟩,1,rfl,rfl,by decide+kernel,by decide,by decide⟩
 |10,_=>exact⟨⟨#[45,32,97,10,98,58,32,49]⟩,5,rfl,rfl,by decide+kernel,by decide,by decide⟩
 |11,_=>exact⟨⟨#[45,32,45,32,97,10,32,32,32,45,32,98]⟩,6,rfl,rfl,by decide+kernel,by decide,by decide⟩
 |12,_=>exact⟨⟨#[97,58,32,49,32,93]⟩,0,rfl,rfl,by decide+kernel,by decide,by decide⟩
 |13,_=>exact⟨⟨#[97,58,10,45,32,98,10,99,58,32,49]⟩,0,rfl,rfl,by decide+kernel,by decide,by decide⟩
 |14,_=>exact⟨⟨#[97,58,32,42,98]⟩,0,rfl,rfl,by decide+kernel,by decide,by decide⟩
 |15,_=>exact⟨⟨#[45,45,45,10,45,45,45]⟩,0,rfl,rfl,by decide+kernel,by decide,by decide⟩
 |16,_=>exact⟨⟨#[46,46,46]⟩,0,rfl,rfl,by decide+kernel,by decide,by decide⟩
 |17,_=>exact⟨⟨#[97,58,32,124,10,32,32,93,10]⟩,0,rfl,rfl,by decide+kernel,by decide,by decide⟩
 |18,_=>exact⟨⟨#[123,97,58,32,49,125,58,32,50]⟩,8,rfl,rfl,by decide+kernel,by decide,by decide⟩
 |n+19,h=>omega
theorem MP{l:List Fl.Dg}{c:Nat}(h:l.map Fl.Dg.code=[c]):∃x,l=[x]/\x.code=c:=by
 match l,h with
 |[x],h=>exact⟨x,rfl,by simpa using h⟩
theorem yV(n0:Int)(w:World)(_:(Lit.int .i64 n0).wf=true)(hT:oO w):
 Calls prog 6 #[.int .i64 n0] w λe w'=>e=.returned (.bool true)/\Below w.heap.size w w':=by
 have HQ:=eZ (λw'=>show Below w.heap.size w w'->(λe (w':World)=>e=Ending.returned (.bool true)/\Below w.heap.size w w') (.returned (.bool true)) w' from λh=>⟨rfl,h⟩);obtain⟨Q,hQ⟩:=fq ((λe (w':World)=>e=Ending.returned (.bool true)/\Below w.heap.size w w'));rw[hQ]at HQ⊢;have HK:=eZ (IE w hT);obtain⟨k,hk,hw1⟩:=uS n0 19 19 rfl (by decide) (by decide);have HW1:=eZ hw1;have HT:=eZ (λW (hW:Below w.heap.size w W)=>hT.below hW);obtain⟨S,c,hS,hc,hok,hsz,h9⟩:=UD k hk;obtain⟨HS,HC,ah,ai,H9⟩:=sP hS hc hok hsz h9;clear hw1 hQ hT hS hc hok hsz h9
 go_enter func6,ntmps6
 go_wp2_with fail
 refine HK.out.mono ?_;rintro e w1 ⟨rfl,hb1⟩;have HB1:=eZ hb1;clear hb1 HK;obtain⟨b1,hb1⟩:∃b,w1.heap.size=b:=⟨_,rfl⟩
 obtain⟨w2,hw2⟩:=fq (w1.alloc (.cells #[.string ⟨#[97,58,32,49,10,45,32,98]⟩,.string ⟨#[97,58,32,49,10,32,32,98,58,32,50]⟩,.string ⟨#[97,10,98]⟩,.string ⟨#[97,58,32,98,32,99,58,32,100]⟩,.string ⟨#[93]⟩,.string ⟨#[97,58,32,91,49]⟩,.string ⟨#[9,97,58,32,49]⟩,.string ⟨#[97,58,32,39,120]⟩,.string ⟨#[97,58,32,34,92,113,34]⟩,.string ⟨#[97,58,32,255]⟩,.string ⟨#[45,32,97,10,98,58,32,49]⟩,.string ⟨#[45,32,45,32,97,10,32,32,32,45,32,98]⟩,.string ⟨#[97,58,32,49,32,93]⟩,.string ⟨#[97,58,10,45,32,98,10,99,58,32,49]⟩,.string ⟨#[97,58,32,42,98]⟩,.string ⟨#[45,45,45,10,45,45,45]⟩,.string ⟨#[46,46,46]⟩,.string ⟨#[97,58,32,124,10,32,32,93,10]⟩,.string ⟨#[123,97,58,32,49,125,58,32,50]⟩] 9));obtain⟨b2,hb2⟩:∃b,w2.heap.size=b:=⟨_,rfl⟩
 obtain⟨w3,hw3⟩:=fq (w2.alloc (.cells #[.int .i64 5,.int .i64 6,.int .i64 7,.int .i64 8,.int .i64 8,.int .i64 9,.int .i64 2,.int .i64 3,.int .i64 4,.int .i64 1,.int .i64 5,.int .i64 6,.int .i64 0,.int .i64 0,.int .i64 0,.int .i64 0,.int .i64 0,.int .i64 0,.int .i64 8] 3));have hr1:w2.heap[b1]?=some (.cells #[.string ⟨#[97,58,32,49,10,45,32,98]⟩,.string ⟨#[97,58,32,49,10,32,32,98,58,32,50]⟩,.string ⟨#[97,10,98]⟩,.string ⟨#[97,58,32,98,32,99,58,32,100]⟩,.string ⟨#[93]⟩,.string ⟨#[97,58,32,91,49]⟩,.string ⟨#[9,97,58,32,49]⟩,.string ⟨#[97,58,32,39,120]⟩,.string ⟨#[97,58,32,34,92,113,34]⟩,.string ⟨#[97,58,32,255]⟩,.string ⟨#[45,32,97,10,98,58,32,49]⟩,.string ⟨#[45,32,45,32,97,10,32,32,32,45,32,98]⟩,.string ⟨#[97,58,32,49,32,93]⟩,.string ⟨#[97,58,10,45,32,98,10,99,58,32,49]⟩,.string ⟨#[97,58,32,42,98]⟩,.string ⟨#[45,45,45,10,45,45,45]⟩,.string ⟨#[46,46,46]⟩,.string ⟨#[97,58,32,124,10,32,32,93,10]⟩,.string ⟨#[123,97,58,32,49,125,58,32,50]⟩] 9 (0,0)):=by rw[<-hw2,<-hb1];exact j5 _ _
 have hr2:w3.heap[b2]?=some (.cells #[.int .i64 5,.int .i64 6,.int .i64 7,.int .i64 8,.int .i64 8,.int .i64 9,.int .i64 2,.int .i64 3,.int .i64 4,.int .i64 1,.int .i64 5,.int .i64 6,.int .i64 0,.int .i64 0,.int .i64 0,.int .i64 0,.int .i64 0,.int .i64 0,.int .i64 8] 3 (0,0)):=by rw[<-hw3,<-hb2];exact j5 _ _
 have k1:w2.cell? ⟨b1,k,none⟩=some (.string S):=(gG hr1 k).trans HS.out;have k2:w3.cell? ⟨b2,k,none⟩=some (.int .i64 (c:Int)):=(gG hr2 k).trans HC.out;have aj:Below w1.heap.size w1 w2:=hw2▸fo w1 _;have ag:Below w2.heap.size w2 w3:=hw3▸fo w2 _;have k1:=fu ag k1;have HB3:=eZ (fD (fD HB1.out aj) ag);obtain⟨HW2,HW3,Hb1,Hb2⟩:=oN hw2 hw3 hb1 hb2;clear hw2 hw3 hb1 hb2 hr1 hr2 aj ag HS HC;go_upto_region 4 with fail
 rw[HW2.out,Hb1.out];clear HW2 Hb1;go_upto_region 5 with fail
 rw[HW3.out,Hb2.out];clear HW3 Hb2;go_wp2_with fail
 refine(HW1.out _).mono ?_;rintro e w4 ⟨rfl,rfl⟩;clear HW1;obtain⟨cap0,w5,hcv,hrow,hb5⟩:=wV S w3 (by have:=ai.out;unfold maxLen;omega);have hbw:=fD HB3.out hb5;have htr:=NG w5 _ S 9 hrow.YB (HT.out _ hbw) (by have:=ai.out;omega) (by decide) (by decide);rw[show((9:Nat):Int)=9 from rfl]at htr;obtain⟨SZ,hSZ⟩:=fq (S.size);rw[hSZ]at htr hcv;have hok:=ah.out;unfold Ps.kindOk Ps.codes at hok;dsimp only at hok;obtain⟨X,hX⟩:=fq (Ps.tree (Sc.fw S) 9);rw[hX]at htr hok;obtain⟨TK,ak⟩:=fq (X.1.length);obtain⟨TL,hTL⟩:=fq (X.2.1.length);obtain⟨DL,av⟩:=fq (X.2.2.length);obtain⟨aA,ae,aB,aC,aD,aa⟩:=kJ htr hok hbw ak hTL av;have K2:=eZ (fu hb5 k2);clear htr hok hbw ak hTL av hX hSZ hrow hb5 k2 ah;go_upto_region 6 with fail
 go_wp2_with fail
 refine aA.out.mono ?_;intro e w6 af;obtain⟨tv,nv,dv,rfl,hth,hb6⟩:=af.three;obtain⟨ta,tc,na,nc,da,dc,rfl,rfl,rfl⟩:=hth.shapes aC.out aD.out aa.out;obtain⟨ax,K3⟩:=fT (fD aB.out hb6) (fu hb6 K2.out);have hdg:=hth.reads.2.2;clear af hcv k1 K2;obtain⟨W,hW⟩:=fq (w6.alloc (.cells #[.slice na TL nc] 31));have hbW:Below w6.heap.size w6 W:=hW▸fo w6 _;have HD:=eZ (HQ.out _ (fD ax.out hbW));have ay:=eZ (fD ax.out hbW);have hdg:=hdg.below hbW;have k2:=fu hbW K3.out;have HW:=eZ hW;clear hb6 hth hbW hW K3;have hok:=ae.out;by_cases h0:c=0
 ·subst h0;rw[eY rfl]at hok;have hnil:X.2.2=[]:=by simpa using hok
  have hl:=aa.out;rw[hnil]at hl;obtain rfl:DL=0:=hl.symm;have k2:W.cell? ⟨b2,k,none⟩=some (.int .i64 0):=k2;clear hok hnil hl hdg ae H9 aa;go_upto_region 7 with fail
  rw[HW.out];go_wp2_with fail
  try simp only[Exit.jump]
  exact HD.out
 rw[eX h0]at hok;have g1:((c:Int)==0)=false:=by simp;omega
 by_cases h1:X.2.2.map Fl.Dg.code=[c]
 ·obtain⟨x,hx,az⟩:=MP h1;have hl:=aa.out;rw[hx]at hl hdg;obtain rfl:DL=1:=hl.symm;have hdg:Reads ib W (.slice da ([x]:List Fl.Dg).length dc) [x]:=hdg;obtain⟨b,off,rfl,hat⟩:=hdg.at_ 0 x rfl;have q0:W.cell? ⟨b,off,none⟩=some (.int .i64 (c:Int)):=by have h:=hat 0 (.int .i64 (x.code:Int)) rfl;rw[az]at h;simpa using h
  have g2:((c:Int)==(c:Int))=true:=by simp
  clear hok h1 hx az hl hdg hat ae H9 aa h0;go_upto_region 7 with fail
  rw[HW.out];go_wp2_with fail
  go_big_quiet (fail)
  have HD:=eZ (HQ.out _ (ji ay.out nq));go_wp2_with fail
  try simp only[Exit.jump]
  exact HD.out
 have h2:c=1/\(X.2.2.map Fl.Dg.code).length=2:=by
  simp only[Bool.or_eq_true,qH,uD]at hok;exact hok.resolve_left h1
 obtain rfl:k=9:=H9.out h2.1;have hl:=h2.2;rw[jD,aa.out]at hl;subst hl;clear hok h1 h2 hdg ae H9 aa h0;go_upto_region 7 with fail
 rw[HW.out];go_wp2_with fail
 go_big_quiet (fail)
 have HD:=eZ (HQ.out _ (ji ay.out nq));go_wp2_with fail
 try simp only[Exit.jump]
 exact HD.out
end
namespace parseKindsDone
open Go.ChangeShapes Go.WideShapes Go.ChangeAt Go.RowKit
open Go.ChangeMaps (open_string shut_string)
theorem contract(H:Type)(enc:TypeId×Value->H)(W:World)(base:Nat)(args:Array Value)(ds gs:List (DataW H))(before:List MemPlace)
 (hval:∀(j:Nat) t v,Tryz.f6.params[j]?=some t->args[j]?=some v->Value.okWide prog W .any base t v)
 (hW:DataW.Whole enc prog Tryz.f6.params.toList Rows.parseKindsSpec.vars false W args.toList ds gs before) (hL:laidMetH prog Rows.parseKindsRow.laid W):
 Calls prog 6 args W λe W'=>∃v,e=.returned v/\Rows.parseKindsSpec.post enc prog Tryz.f6 false true false false W args v W':=by
 have ae:=hW;obtain⟨p,q,aa,hV,rfl,hfz,hnd⟩:=hW;have hA:DataW.TrodAll enc prog W 0 (λ_=>true) true Tryz.f6.params.toList args.toList ds p:=aa;rw[params6]at hA hval;obtain⟨v0,af,d0,ds0,p0,q0,hargs,rfl,rfl,h0,r0⟩:=trodAll_cons hA;obtain⟨rfl,rfl,rfl⟩:=trodAll_nil r0;obtain rfl:args=#[v0]:=by cases args;simp_all
 obtain⟨rfl,rfl⟩:=trodVars_none hV;obtain⟨a0,rfl,rfl,rfl,w0⟩:=open_int underlying3 (hval 0 3 v0 rfl rfl) h0;clear aa hval;refine(yV a0 W w0 (sF hL)).mono λe W' ⟨he,lu⟩=>?_
 subst he;exact⟨_,rfl,_,_,_,[],_,[],ae,trodAll_mk1 (shut_bool underlying4 _),(trodAll_cons_mk (shut_int underlying3 w0) trodAll_mk0),rfl,lu.frame _,λh=>by cases h⟩
theorem uq(os:Os):laidMet prog Rows.parseKindsRow.laid ((mf os).forCall (λ_ _=>0) ⟨#[],#[.int .i64 0],[]⟩).memory:=
 laidMet_of_run' 8 (by kernel_rfl) (by kernel_rfl)
theorem reads(os:Os){H:Type}(enc:TypeId×Value->H):∃places,DataW.whole enc prog ((mf os).forCall (λ_ _=>0) ⟨#[],#[.int .i64 0],[]⟩).memory Tryz.f6.params.toList Rows.parseKindsSpec.vars false (#[.int .i64 0]:Array Value).toList 8=some ([.lit (.int .i64 0)],[],places):=
 ⟨[],by kernel_rfl⟩
theorem lifted(os:Os)(started:os.Started)(H:Type)(enc:TypeId×Value->H)(F:Stop.Interp):
 ReturnsInHanded {} Tryz.checked os 6 .any ((OpenSpec.ofChange Rows.parseKindsSpec).preRow enc prog Tryz.f6 Rows.parseKindsRow.domain false Rows.parseKindsRow.laid) (((OpenSpec.ofChange Rows.parseKindsSpec).at F).post enc prog Tryz.f6 false true false false):=by
 obtain⟨places,hx⟩:=reads os enc;refine returnsInHanded_of_row (C:=Tryz.checked) (s:=OpenSpec.ofChange Rows.parseKindsSpec) own started (by kernel_rfl) func6
  (witness_row_at (enc:=enc) (C:=Tryz.checked) false (mf os) #[.int .i64 0] rfl (by kernel_rfl) (by kernel_rfl) (by kernel_rfl)
   (OpenSpec.preRow_of_cond 8 hx (by kernel_rfl) (λk hk=>by cases hk) (by kernel_rfl) (uq os))) ?_
 intro W base args ds gs before hval hW _ _ _ hL _ _;exact contract H enc W base args ds gs before hval hW hL
theorem said:Rows.ParseKindsSaid:=
 OpenClaim.holds_of_cond 6 Tryz.f6 rfl rfl rfl rfl rfl rfl rfl ⟨rfl,rfl,rfl,rfl,rfl⟩ rfl rfl rfl rfl rfl (by kernel_rfl) func6 (by kernel_rfl)
  (M6 (by kernel_rfl)) (by unfold Func.isWrapper;first|(rw[eY (by decide+kernel)];kernel_rfl)|(rw[eX (by decide+kernel)];exact⟨rfl,rfl⟩))
  (λos started H enc _ F=>by rw[OpenClaim.pre_eq_preRow];exact lifted os started H enc F)
theorem plain(f:FuncId)(fn:Func)(hf:Tryz.pinned.checked.prog.funcNamed "corrector/correctorlaw12.ParseKinds"=some f)(hfn:Tryz.pinned.checked.prog.funcs[f]?=some fn):
 true=Tryz.pinned.checked.prog.looks []/\∀(j:Nat) t,fn.params[j]?=some t->Tryz.pinned.checked.prog.wantsStandIn t=false:=by
 obtain rfl:f=6:=jl ((show prog.funcNamed "corrector/correctorlaw12.ParseKinds"=some 6 by kernel_rfl).symm.trans hf)|>.symm
 obtain rfl:fn=Tryz.f6:=(jl (func6.symm.trans hfn)).symm;refine⟨by kernel_rfl,λj t ht=>?_⟩;rw[params6]at ht;have hall:([3]:List TypeId).all (λu=>!prog.wantsStandIn u)=true:=by kernel_rfl
 have hin:t∈([3]:List TypeId):=by simpa using Ve ht
 have h2:prog.wantsStandIn t=false:=by simpa using Rj.1 hall t hin
 exact h2
theorem card:Rows.ParseKindsCardSaid:=
 Claim7.holds_tied_plain_at .later [] _ _ _ _ said (λ_ h=>by cases h) (by kernel_rfl) (λ_ h=>by cases h) parseKinds_row_tie rfl ⟨rfl,rfl⟩ (by kernel_rfl) rfl plain (by kernel_rfl)
#print axioms card
end parseKindsDone
end Go.Proofs.YtmkkdjpebbdikaaGreatDoor

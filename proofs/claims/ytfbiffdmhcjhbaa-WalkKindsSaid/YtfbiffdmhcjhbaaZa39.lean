/- The law correctorlaw13.WalkKinds: whatever the input, the call returns true, and each argument reads afterwards as it read before. Conditions: none but those of the form (the arguments can be read as data, each string and slice within the reach of the form; no package-level variable is listed).
   The idea stands in the walk (Wlk) and in what it imports; this text is the frame. -/
import Derived.Test.YtfbiffdmhcjhbaaZa32
import Derived.Test.YtfbiffdmhcjhbaaZa36
import Derived.ChangeOld
import Derived.Deep.DeepHandedRow
import Derived.ShutString
import Derived.Test.YtfbiffdmhcjhbaaRows
set_option linter.all false
set_option maxHeartbeats 16000000
set_option maxRecDepth 100000
set_option synthInstance.maxSize 4000
set_option synthInstance.maxHeartbeats 0
namespace Go.Proofs.Ytfbiffdmhcjhbaa
open Go.RowKit Go.Proofs.Try
section
open Go.RowKit
open Sq
open Ar
open Fl (Tk)
def Eg:List Nat:=[97,58,32,91,49,44,32,98,93,10,45,32,93]
def Eh:List Int:=[7,6,6,9,7,9,9,7,9,2,11,11,11]
def NZ(k:Nat):Bool:=
 let n:=Wk.QW (Sc.tokens Eg) (Ps.tree Eg 9).2.1 k
 match(Ps.tree Eg 9).2.1[n.toNat]? with
 |some x=>decide (0<=n)&&(x.k==Eh.getD k 0||k==9)
 |none=>false
theorem Xe:(List.range 13).all NZ=true:=by decide+kernel
theorem Du(a:Int)(w:World)(_:(Lit.int .i64 a).wf=true):
 Calls prog 5 #[.int .i64 a] w λe w'=>e=.returned (.bool true)/\Below w.heap.size w w':=by
 obtain⟨Q,hQ⟩:=my ((λe (w':World)=>e=Ending.returned (.bool true)/\Below w.heap.size w w'));have HQ:=eu (λw' (h:Below w.heap.size w w')=>show Q (.returned (.bool true)) w' from by rw[<-hQ];exact⟨rfl,h⟩);rw[hQ];obtain⟨k,hk,aH,ai⟩:=vW a 13 13 rfl (by decide) (by decide);have aI:=eu ai;have hkt:NZ k=true:=Io.1 Xe k (AP.2 hk);have hbz:(⟨#[97,58,32,91,49,44,32,98,93,10,45,32,93]⟩:ByteArray).size=13:=rfl;have hna:Sc.ng ⟨#[97,58,32,91,49,44,32,98,93,10,45,32,93]⟩=Eg:=rfl;have aa:(⟨#[97,58,32,91,49,44,32,98,93,10,45,32,93]⟩:ByteArray).size<=16384:=by decide
 have h19:1<=9:=by decide
 have ae:9<=50:=by decide
 have htr:=Gg ⟨#[97,58,32,91,49,44,32,98,93,10,45,32,93]⟩ 9 aa h19 ae;have HT:=eu (fun(W:World)(bv:Value)(hbs:uG W bv ⟨#[97,58,32,91,49,44,32,98,93,10,45,32,93]⟩)=>Gh W bv ⟨#[97,58,32,91,49,44,32,98,93,10,45,32,93]⟩ 9 hbs aa h19 ae);have ay:(⟨#[97,58,32,91,49,44,32,98,93,10,45,32,93]⟩:ByteArray).size<=maxLen:=by unfold maxLen;omega
 have az:=eu (fun(W:World)=>Hf ⟨#[97,58,32,91,49,44,32,98,93,10,45,32,93]⟩ W ay);rw[hna]at HT htr;unfold NZ at hkt;obtain⟨l,hl⟩:=my (Sc.tokens Eg);obtain⟨T,hT⟩:=my ((Ps.tree Eg 9).2.1);rw[hl,hT]at HT htr;simp only[hl,hT]at hkt;obtain⟨n,hn⟩:=my (Wk.QW l T (k:Int));rw[hn]at hkt;obtain⟨x,hx,hn0,hxk⟩:∃x,T[n.toNat]?=some x/\0<=n/\(x.k==Eh.getD k 0||k==9)=true:=by
  cases h:T[n.toNat]? with
  |none=>rw[h]at hkt;exact absurd hkt (by simp)
  |some x=>
   rw[h]at hkt;have h2:=(vY _ _).mp hkt;exact⟨x,rfl,xS h2.1,h2.2⟩
 clear hkt;obtain⟨m,rfl⟩:∃m:Nat,n=(m:Int):=⟨n.toNat,by omega⟩
 have hmt:(m:Int).toNat=m:=by omega
 rw[hmt]at hx;have aJ:=(nC.1 hx).1;obtain⟨W,hW⟩:=my (Eh.getD k 0);rw[hW]at hxk;have aK:Eh[k]?=some W:=by
  have h1:k<Eh.length:=hk
  rw[<-hW,pO,qQ h1];rfl
 have HX:=eu hx;have hsz:=htr.sz;have hln:=htr.len;have aL:=eu htr;obtain⟨NL,aj⟩:=my (l.length);obtain⟨NN,ak⟩:=my (T.length);obtain⟨aM,aA⟩:=mR aj ak;rw[aj,ak]at HT;have aS:NL<=13:=by omega
 have aT:NN<=66:=by omega
 have aU:m<NN:=by omega
 have HN:=eu hn;have HK:=eu (λW=>BI W);clear aa h19 ae ay hQ hna htr hl hT aj ak hsz hln hx hn aJ hmt hW aH ai
 go_enter func5,ntmps5
 go_wp2_with fail
 refine(HK.out w).mono ?_;rintro e w1 ⟨rfl,hb1⟩;have HB1:=eu hb1;clear HK hb1;obtain⟨wa,ag⟩:=my (w1.alloc (.cells #[.int .i64 7,.int .i64 6,.int .i64 6,.int .i64 9,.int .i64 7,.int .i64 9,.int .i64 9,.int .i64 7,.int .i64 9,.int .i64 2,.int .i64 11,.int .i64 11,.int .i64 11] 3));have aB:Below w1.heap.size w1 wa:=ag▸mr w1 _;obtain⟨ba,af⟩:=my (w1.heap.size);have ca:wa.cell? ⟨ba,k,none⟩=some (.int .i64 W):=by
  rw[<-ag,<-af];have e:(#[.int .i64 7,.int .i64 6,.int .i64 6,.int .i64 9,.int .i64 7,.int .i64 9,.int .i64 9,.int .i64 7,.int .i64 9,.int .i64 2,.int .i64 11,.int .i64 11,.int .i64 11]:Array Value)=(Eh.map (λz=>Value.int .i64 z)).toArray:=rfl;rw[Rn,e,Lh,r9,aK];rfl
 obtain⟨cap0,wb,hcv,hrow,hbb⟩:=az.out wa;have hbs:=hrow.Xr;rw[hbz]at hcv hbs;have HT1:=eu (HT.out wb _ hbs);have aC:=eu (lu (lu HB1.out aB) hbb);obtain⟨aD,aF,aN⟩:=nY (ku hbb ca) ag af;clear ag aB ca hbb hbs af hrow hbz HT HB1 az;go_upto_region 5 with fail
 rw[aN.out,aF.out];clear aF;go_wp2_with fail
 refine HT1.out.mono ?_;rintro e w2 ⟨ta,tc,na,nc,dv,rfl,hR,hN,hb2⟩;obtain⟨bt,hbt⟩:=my (w2.heap.size);obtain⟨w3,hw3⟩:=my (w2.alloc (.cells #[.slice na NN nc] 28));have hb3:Below w2.heap.size w2 w3:=hw3▸mr w2 _;have c3:w3.cell? ⟨bt,0,none⟩=some (.slice na NN nc):=by rw[<-hw3,<-hbt];exact at_new rfl
 have aO:=eu (λW (hW:Below w3.heap.size w3 W) a=>Xq W (.slice ta NL tc) (.slice na NN nc) l 0 T a ((hR.below hb3).below hW) aL.out.NK (by rw[aM.out];omega) ((hN.below hb3).below hW) (by rw[aA.out];omega));have av:=hN;rw[<-aA.out]at av;have aP:=eu (λW (hW:Below w3.heap.size w3 W)=>((av.below hb3).below hW).at_ m x HX.out);have HB3:=eu (lu (lu aC.out hb2) hb3);have aQ:=eu c3;have aG:=eu (ku hb3 (ku hb2 aD.out));obtain⟨HW3,aR⟩:=mR hw3 hbt;clear hR hN hb2 hb3 hw3 hbt HT1 hcv av aD aC;go_wp2_with fail
 rw[aR.out,HW3.out];clear HW3;refine(aI.out w3).mono ?_;rintro e aV ⟨rfl,rfl⟩;go_wp2_with fail
 refine(Ad na NN nc w3).mono ?_;rintro e w4 ⟨rfl,hb4⟩;have ax:=eu hb4;clear c3 hb4;go_wp2_with fail
 refine(aO.out w4 ax.out k).mono ?_;rintro e w5 ⟨rfl,hb5⟩;rw[HN.out];have ah:=eu (lu ax.out hb5);have c5:=ku ah.out aQ.out;have aW:=ku ah.out aG.out;obtain⟨nb,no,ka,kc,rfl,c0,-,-,-,-,-,-⟩:=aP.out w5 ah.out;have g0:¬((m:Int)<0):=by omega
 have g1:¬((m:Int)>=(NN:Int)):=by omega
 have g2:(m:Int)<(NN:Int):=by omega
 have g3:decide ((k:Int)>=13)=false:=nK (by omega);have g4:decide ((13:Int)<=(k:Int))=false:=nK (by omega);have g5:(k:Int)<13:=by omega
 have HD:=eu (λq=>HQ.out (w5.drewN q) (nG (lu HB3.out ah.out) q));clear hb5 ax HQ HB3;rcases(Nj _ _).mp hxk with hxk|hxk
 ·have gk:(x.k==W)=true:=hxk;clear hxk;go_wp2_with fail
  go_big_quiet (fail)
  go_wp2_with fail
  exact HD.out _
 have gk:((k:Int)==9)=true:=by simp at hxk⊢;omega
 obtain rfl:k=9:=by simpa using hxk
 clear hxk;cases hc:(x.k==W)
 ·go_wp2_with fail
  go_big_quiet (fail)
  go_wp2_with fail
  exact HD.out _
 go_wp2_with fail
 go_big_quiet (fail)
 go_wp2_with fail
 exact HD.out _
end
namespace walkKindsDone
open Go.ChangeShapes Go.WideShapes Go.ChangeAt Go.RowKit
open Go.ChangeMaps (open_string shut_string)
theorem contract(H:Type)(enc:TypeId×Value->H)(W:World)(base:Nat)(args:Array Value)(ds gs:List (DataW H))(before:List MemPlace)
 (hval:∀(j:Nat) t v,Try.f5.params[j]?=some t->args[j]?=some v->Value.okWide prog W .any base t v)
 (hW:DataW.Whole enc prog Try.f5.params.toList Rows.walkKindsSpec.vars false W args.toList ds gs before):
 Calls prog 5 args W λe W'=>∃v,e=.returned v/\Rows.walkKindsSpec.post enc prog Try.f5 false true false false W args v W':=by
 have ae:=hW;obtain⟨p,q,aa,hV,rfl,hfz,hnd⟩:=hW;have hA:DataW.TrodAll enc prog W 0 (λ_=>true) true Try.f5.params.toList args.toList ds p:=aa;rw[params5]at hA hval;obtain⟨v0,af,d0,ds0,p0,q0,hargs,rfl,rfl,h0,r0⟩:=trodAll_cons hA;obtain⟨rfl,rfl,rfl⟩:=trodAll_nil r0;obtain rfl:args=#[v0]:=by cases args;simp_all
 obtain⟨rfl,rfl⟩:=trodVars_none hV;obtain⟨a0,rfl,rfl,rfl,w0⟩:=open_int underlying3 (hval 0 3 v0 rfl rfl) h0;clear aa hval;refine(Du a0 W w0).mono λe W' ⟨he,qK⟩=>?_
 subst he;exact⟨_,rfl,_,_,_,[],_,[],ae,trodAll_mk1 (shut_bool underlying4 _),(trodAll_cons_mk (shut_int underlying3 w0) trodAll_mk0),rfl,qK.frame _,λh=>by cases h⟩
theorem lifted(os:Os)(started:os.Started)(H:Type)(enc:TypeId×Value->H):
 ReturnsInHanded {} Try.checked os 5 .any (Rows.walkKindsSpec.pre6 enc prog Try.f5 Rows.walkKindsRow.domain false) (Rows.walkKindsSpec.post enc prog Try.f5 false true false false):=by
 refine returnsInHanded_of_change (C:=Try.checked) own started (by kernel_rfl) func5
  (ChangeSpec.witness6 (enc:=enc) (C:=Try.checked) false ⟨#[],#[.int .i64 0],[]⟩ 8 (by kernel_rfl) (by kernel_rfl) (by kernel_rfl) (by kernel_rfl)) ?_
 intro W base args ds gs before hval hW _ _;exact contract H enc W base args ds gs before hval hW
theorem said:Rows.WalkKindsSaid:=
 OpenClaim.holds_of_wide 5 Try.f5 rfl rfl rfl rfl rfl rfl rfl ⟨rfl,rfl,rfl,rfl,rfl⟩ rfl rfl rfl rfl rfl (by kernel_rfl) func5 (by kernel_rfl)
  (xS (by kernel_rfl)) (by unfold Func.isWrapper;first|(rw[gu (by decide+kernel)];kernel_rfl)|(rw[fu (by decide+kernel)];exact⟨rfl,rfl⟩))
  (λos started H enc _=>lifted os started H enc)
#print axioms said
end walkKindsDone
end Go.Proofs.Ytfbiffdmhcjhbaa

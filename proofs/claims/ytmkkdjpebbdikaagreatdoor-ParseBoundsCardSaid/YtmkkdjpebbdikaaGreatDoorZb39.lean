/- The law correctorlaw12.ParseBounds: whatever the input, the call returns true, and each argument reads afterwards as it read before. Conditions: none but those of the form (package-level variables as the program text lays them, tied by the card).
   The idea stands in the walk (W12Bo) and in what it imports; this text is the frame. -/
import Derived.Test.YtmkkdjpebbdikaaGreatDoorZb36
import Derived.ChangeOld
import Derived.ShutString
import Derived.Test.YtmkkdjpebbdikaaGreatDoorCards
import Derived.Test.YtmkkdjpebbdikaaGreatDoorTie
set_option linter.all false
set_option maxHeartbeats 16000000
set_option maxRecDepth 100000
namespace Go.Proofs.YtmkkdjpebbdikaaGreatDoor
open Go.RowKit Go.Proofs.Tryz
section
open Go.RowKit
open Sq
open Ar
theorem WT(w:World)(bv:Value)(dp:Int)(h:dp<1\/50<dp):
 Calls prog 12 #[bv,.int .i64 dp] w (zb ([],[],[]) w):=by
 have HB:=dY (λo o2 u=>((dZ w o).setCell (p:=⟨w.heap.size,o2,none⟩) (eO _) u));have HE:∀w',Below w.heap.size w w'->zb ([],[],[]) w (.returned (.tuple #[.slice none 0 0,.agg #[.slice none 0 0],.slice none 0 0])) w':=λw' hw=>
  ⟨_,_,_,[],rfl,kX iQ _ _,⟨kX fZ _ _,λi p hp=>by simp at hp,λi j p q _ hp=>by simp at hp⟩,rfl,kX fK _ _,hw⟩
 have HE:=dY HE;obtain⟨Q,hQ⟩:=eu (zb ([],[],[]) w);rw[hQ]at HE⊢;clear hQ;have fin:∀o,(w.alloc (.cells #[.slice none 0 0] 31)).cell? ⟨w.heap.size,0,none⟩=some o->o=.slice none 0 0:=λo ho=>by
  rw[yJ]at ho;exact(iG ho).symm
 by_cases h1:dp<1
 ·exact aab
 ·have h2:50<dp:=h.resolve_left h1
  exact aab
end
section
open Go.RowKit
open Sg
open Sq
open Ar
theorem BZ(v0:Value)(l0:List Int)(aX:Int)(w:World)(h0:tK .i64 w v0 l0)(_:(Lit.int .i64 aX).wf=true)(hT:oZ w):
 Calls prog 5 #[v0,.int .i64 aX] w λe w'=>e=.returned (.bool true)/\Below w.heap.size w w':=by
 have HQ:=dY (λw'=>show Below w.heap.size w w'->(λe (w':World)=>e=Ending.returned (.bool true)/\Below w.heap.size w w') (.returned (.bool true)) w' from λh=>⟨rfl,h⟩);obtain⟨Q,hQ⟩:=eu ((λe (w':World)=>e=Ending.returned (.bool true)/\Below w.heap.size w w'));rw[hQ]at HQ⊢;have HK:=dY (Bl w hT);obtain⟨k,hk,hw1⟩:=sJ aX 99 99 rfl dU dU;have HW1:=dY hw1;have HL:=dY (λW (hW:Below w.heap.size w W)=>uG v0 l0 W (h0.below hW));have HLen:=dY (show([]:List Tk).length=0/\([]:List Nd).length=0/\([]:List Fl.Dg).length=0 from⟨rfl,rfl,rfl⟩);clear hw1 hQ hT h0
 go_enter func5,ntmps5
 go_wp2_with fail
 refine HK.out.mono ?_;rintro e w1 ⟨rfl,hb1⟩;have HB1:=dY hb1;clear hb1 HK;go_wp2_with fail
 refine(HW1.out _).mono ?_;rintro e w2 ⟨rfl,rfl⟩;go_wp2_with fail
 refine(HW1.out _).mono ?_;rintro e w2 ⟨rfl,rfl⟩;obtain⟨aa,ay⟩:∃b,w1.heap.size=b:=⟨_,rfl⟩
 obtain⟨da,bz⟩:∃d:Int,(51:Int)+(k:Int)=d:=⟨_,rfl⟩
 obtain⟨db,bA⟩:∃d:Int,(-1:Int)-(k:Int)=d:=⟨_,rfl⟩
 obtain⟨w2,hw2⟩:=eu (w1.alloc (.cells #[.int .i64 0,.int .i64 da,.int .i64 db] 3));have aS:50<da:=dS
 have aT:db<1:=dS
 have hrow:w2.heap[aa]?=some (.cells #[.int .i64 0,.int .i64 da,.int .i64 db] 3 (0,0)):=by rw[<-hw2,<-ay];exact lz _ _
 have hb2:Below w.heap.size w w2:=HB1.out.trans ((hw2▸dZ w1 _:Below w1.heap.size w1 w2).mono HB1.out.size);have hcells:∀i,i<3->∃dp:Int,(dp<1\/50<dp)/\∀W,Below w2.heap.size w2 W->W.cell? ⟨aa,i,none⟩=some (.int .i64 dp):=λi hi=>by
  have key:∀W,Below w2.heap.size w2 W->W.heap[aa]?=some (.cells #[.int .i64 0,.int .i64 da,.int .i64 db] 3 (0,0)):=λW hW=>(hW.block aa (gK hrow)).trans hrow
  match i,hi with
  |0,_=>exact⟨0,.inl dU,λW hW=>fq (key W hW) 0⟩
  |1,_=>exact⟨da,.inr aS,λW hW=>fq (key W hW) 1⟩
  |2,_=>exact⟨db,.inl aT,λW hW=>fq (key W hW) 2⟩
 obtain⟨aR,HB2,HW2,bG,bH,bI⟩:=kG hcells hb2 hw2 ay bz bA;clear hrow hb2 hcells hw2 ay bz bA aS aT HW1;go_upto_region 4 with fail
 try rw[bH.out]
 try rw[bI.out]
 rw[HW2.out,bG.out];go_wp2_with fail
 go_loopw [6] (λiv wr=>∃i:Nat,iv=.int .i64 (i:Int)/\i<=3/\Hid (Below w2.heap.size w2 wr)) (λiv _=>3-(intOf iv).toNat)
 case atStart=>exact⟨0,rfl,dS,dY (fD _ _)⟩
 case round=>
  obtain⟨i,rfl,hi,HR⟩:=hrel;by_cases hlt:i<3
  ·obtain⟨dp,hdp,hcd⟩:=aR.out i hlt;have hc1:=hcd wr HR.out;have Pv:=dY (λW bv=>WT W bv dp hdp);have hbw:Below w.heap.size w wr:=HB2.out.trans (HR.out.mono HB2.out.size);have HL:=dY (λW (hW:Below wr.heap.size wr W)=>HL.out W (hbw.trans (hW.mono hbw.size)));have g1:(i:Int)<3:=by omega
   clear hdp hcd hbw;go_upto_region 7 with fail
   go_cut [7,8,9] (λa b c wx=>∃bt ta tc na nc da dc,a=.slice ta 0 tc/\b=.pointer (some ⟨bt,0,none⟩)/\c=.slice da 0 dc/\Hid (yw ([],[],[]) wr wx (.slice ta 0 tc) (.slice na 0 nc) (.slice da 0 dc) bt))
   case first=>
    refine fO (λwx=>wx.cell? ⟨aa,i,none⟩=some (.int .i64 dp)) 13 dV ?_;have hH:(λwx:World=>wx.cell? ⟨aa,i,none⟩=some (.int .i64 dp)) wr.drew:=eP hc1;refine iE 0 v0 hH ?_;refine iE 2 (.slice (some ⟨aa,0,none⟩) 3 3) hH ?_;refine iE 3 (.int .i64 (i:Int)) hH ?_;refine iE 4 (.pointer (some ⟨aa,i,none⟩)) hH ?_;refine iE 5 (.int .i64 dp) hH ?_;refine mM (rs:=[1,11]) dV eG ?_;refine gU.cons (o:=⟨_,_,_,_,_,_⟩) rfl (λK hK=>?_) (gU.cons (o:=⟨_,_,_,_,_,_⟩) rfl (λK hK=>?_) (gU.nil));go_simp;refine(HL.out wr.drew ((fD _ wr).drew)).mono ?_;rintro e af ⟨lv,S,rfl,bB,hSz,hLn,bC⟩;have ae:=eD (fD _ wr).drew bC;refine hK.out _ _ (λ_=>eB ae hc1) (λhH2=>?_);clear hK K;replace hH:=hH2 dV;clear hH2;try simp only[Act.put,fG,fB,fC]
    refine mM (rs:=[6,11]) dV eG ?_;refine gU.cons (o:=⟨_,_,_,_,_,_⟩) rfl (λK hK=>?_) (gU.cons (o:=⟨_,_,_,_,_,_⟩) rfl (λK hK=>?_) (gU.nil));go_simp;refine(Pv.out af _).mono ?_;intro e az pN;obtain⟨tv,nv,dv,rfl,aU,bD⟩:=pN.three;clear pN;obtain⟨ta,tc,na,nc,da,dc,rfl,rfl,rfl⟩:=aU.shapes HLen.out.1 HLen.out.2.1 HLen.out.2.2;have aA:=eD ae bD;have bJ:wr.heap.size<=af.heap.size:=ae.size;refine hK.out _ _ (λ_=>eB aA hc1) (λhH2=>?_);clear hK K;replace hH:=hH2 dV;clear hH2;try simp only[Act.put,fG,fB,fC]
    refine iE 7 (.tuple #[.slice ta 0 tc,.agg #[.slice na 0 nc],.slice da 0 dc]) hH ?_;refine iE 8 (.slice ta 0 tc) hH ?_;refine iE 9 (.agg #[.slice na 0 nc]) hH ?_;refine gZ 10 (.slice da 0 dc) (λ_=>hH) ?_;refine mY 11 λK hK=>?_
    obtain⟨aY,hbt⟩:∃bt,az.heap.size=bt:=⟨_,rfl⟩
    obtain⟨aV,oN⟩:∃w6,az.alloc (.cells #[.slice none 0 0] 31)=w6:=⟨_,rfl⟩
    have aB:Below az.heap.size az aV:=oN▸dZ az _;have ag:aV.heap[aY]?=some (.cells #[.slice none 0 0] 31 (0,0)):=Jv
    have aC:=eD aA aB;have aZ:wr.heap.size<=aY:=by rw[<-hbt];exact aA.size
    have bf:=aU.below aB;go_simp;try rw[oN]
    try rw[hbt]
    clear oN hbt;refine hK.out _ _ (λ_=>eB aC hc1) (λhH2=>?_);clear hK K;replace hH:=hH2 dV;clear hH2;try simp only[Act.put,fG,fB,fC]
    refine iE 12 (.slice ta 0 tc) hH ?_;refine mY 13 λK hK=>?_
    have cbx:=jh ag;have fbx:=qc ag 0;go_simp;refine hK.out _ _ lh (λ_=>?_);clear hK K;try simp only[Act.put,fG,fB,fC]
    refine gZ 14 (.slice da 0 dc) lh ?_;refine fJ dV ?_ _;have hend:=dY (yw.mk' bf bJ ag aZ aC);clear cbx fbx;go_wp2_with fail
    go_meet
    exact⟨aY,ta,tc,na,nc,da,dc,rfl,rfl,rfl,hend⟩;obtain⟨aD,hbt⟩:∃bt,af.heap.size=bt:=⟨_,rfl⟩
    obtain⟨ax,oN⟩:∃w6,af.alloc (.cells #[.slice none 0 0] 31)=w6:=⟨_,rfl⟩
    have bg:Below af.heap.size af ax:=oN▸dZ af _;have aF:ax.heap[aD]?=some (.cells #[.slice none 0 0] 31 (0,0)):=Jv
    have ah:=eD ae bg;have bn:wr.heap.size<=aD:=by rw[<-hbt];exact ae.size
    go_simp;try rw[oN]
    try rw[hbt]
    clear oN hbt;refine hK.out _ _ (λ_=>eB ah hc1) (λhH2=>?_);clear hK K;replace hH:=hH2 dV;clear hH2;try simp only[Act.put,fG,fB,fC]
    refine mY 6 λK hK=>?_
    go_simp;refine(Pv.out ax _).mono ?_;intro e bK pN;obtain⟨tv,nv,dv,rfl,aG,aH⟩:=pN.three;clear pN;obtain⟨ta,tc,na,nc,da,dc,rfl,rfl,rfl⟩:=aG.shapes HLen.out.1 HLen.out.2.1 HLen.out.2.2;have aI:=eD ah aH;have bE:wr.heap.size<=ax.heap.size:=ah.size;have ai:=(aH.block _ (gK aF)).trans aF;refine hK.out _ _ (λ_=>eB aI hc1) (λhH2=>?_);clear hK K;replace hH:=hH2 dV;clear hH2;try simp only[Act.put,fG,fB,fC]
    refine iE 7 (.tuple #[.slice ta 0 tc,.agg #[.slice na 0 nc],.slice da 0 dc]) hH ?_;refine iE 8 (.slice ta 0 tc) hH ?_;refine iE 9 (.agg #[.slice na 0 nc]) hH ?_;refine gZ 10 (.slice da 0 dc) (λ_=>hH) ?_;refine iE 12 (.slice ta 0 tc) hH ?_;refine mY 13 λK hK=>?_
    have cbx:=jh ai;have fbx:=qc ai 0;go_simp;refine hK.out _ _ lh (λ_=>?_);clear hK K;try simp only[Act.put,fG,fB,fC]
    refine gZ 14 (.slice da 0 dc) lh ?_;refine fJ dV ?_ _;have hend:=dY (yw.mk' aG bE ai bn aI);clear cbx fbx;go_wp2_with fail
    go_meet
    exact⟨aD,ta,tc,na,nc,da,dc,rfl,rfl,rfl,hend⟩;obtain⟨aJ,hbt⟩:∃bt,wr.heap.size=bt:=⟨_,rfl⟩
    obtain⟨aK,oN⟩:∃w6,(wr.alloc (.cells #[.slice none 0 0] 31)).drew=w6:=⟨_,rfl⟩
    have aj:Below wr.heap.size wr aK:=oN▸(dZ wr _).drew;have aL:aK.heap[aJ]?=some (.cells #[.slice none 0 0] 31 (0,0)):=YP
    have bq:wr.heap.size<=aJ:=Qe
    go_simp;try rw[oN]
    try rw[hbt]
    clear oN hbt;refine hK.out _ _ (λ_=>eB aj hc1) (λhH2=>?_);clear hK K;replace hH:=hH2 dV;clear hH2;try simp only[Act.put,fG,fB,fC]
    refine mY 1 λK hK=>?_
    go_simp;refine(HL.out aK (aj)).mono ?_;rintro e aW ⟨lv,S,rfl,bB,hSz,hLn,aM⟩;have ak:=eD aj aM;have aN:=(aM.block _ (gK aL)).trans aL;refine hK.out _ _ (λ_=>eB ak hc1) (λhH2=>?_);clear hK K;replace hH:=hH2 dV;clear hH2;try simp only[Act.put,fG,fB,fC]
    refine mY 6 λK hK=>?_
    go_simp;refine(Pv.out aW _).mono ?_;intro e bL pN;obtain⟨tv,nv,dv,rfl,aO,aP⟩:=pN.three;clear pN;obtain⟨ta,tc,na,nc,da,dc,rfl,rfl,rfl⟩:=aO.shapes HLen.out.1 HLen.out.2.1 HLen.out.2.2;have aQ:=eD ak aP;have bF:wr.heap.size<=aW.heap.size:=ak.size;have av:=(aP.block _ (gK aN)).trans aN;refine hK.out _ _ (λ_=>eB aQ hc1) (λhH2=>?_);clear hK K;replace hH:=hH2 dV;clear hH2;try simp only[Act.put,fG,fB,fC]
    refine iE 7 (.tuple #[.slice ta 0 tc,.agg #[.slice na 0 nc],.slice da 0 dc]) hH ?_;refine iE 8 (.slice ta 0 tc) hH ?_;refine iE 9 (.agg #[.slice na 0 nc]) hH ?_;refine gZ 10 (.slice da 0 dc) (λ_=>hH) ?_;refine iE 12 (.slice ta 0 tc) hH ?_;refine mY 13 λK hK=>?_
    have cbx:=jh av;have fbx:=qc av 0;go_simp;refine hK.out _ _ lh (λ_=>?_);clear hK K;try simp only[Act.put,fG,fB,fC]
    refine gZ 14 (.slice da 0 dc) lh ?_;refine fJ dV ?_ _;have hend:=dY (yw.mk' aO bF av bq aQ);clear cbx fbx;go_wp2_with fail
    go_meet
    exact⟨aJ,ta,tc,na,nc,da,dc,rfl,rfl,rfl,hend⟩
   case rest=>
    obtain⟨bt,ta,tc,na,nc,bM,dc,rfl,rfl,rfl,hend⟩:=hcut
    rename World=>w5
    have hb5:=hend.out.2.2;have cb:=jh hend.out.2.1;have HR2:=dY (HR.out.trans (hb5.mono HR.out.size));clear hend hb5 hc1;go_wp2_with fail
    go_roundw
    case rel=>exact⟨i+1,fH,dS,HR2⟩
    case measure=>simp[intOf];omega
  ·have g1:¬((i:Int)<3):=by omega
   have HD:=dY (HQ.out wr (HB2.out.trans (HR.out.mono HB2.out.size)));go_wp2_with fail
   exact HD.out
end
namespace parseBoundsDone
open Go.ChangeShapes Go.WideShapes Go.ChangeAt Go.RowKit
open Go.ChangeMaps (open_string shut_string)
theorem contract(H:Type)(enc:TypeId×Value->H)(W:World)(base:Nat)(args:Array Value)(ds gs:List (DataW H))(before:List MemPlace)
 (hval:∀(j:Nat) t v,Tryz.f5.params[j]?=some t->args[j]?=some v->Value.okWide prog W .any base t v)
 (hW:DataW.Whole enc prog Tryz.f5.params.toList Rows.parseBoundsSpec.vars false W args.toList ds gs before) (hL:laidMetH prog Rows.parseBoundsRow.laid W):
 Calls prog 5 args W λe W'=>∃v,e=.returned v/\Rows.parseBoundsSpec.post enc prog Tryz.f5 false true false false W args v W':=by
 have ae:=hW;obtain⟨p,q,aa,hV,rfl,hfz,hnd⟩:=hW;have hA:DataW.TrodAll enc prog W 0 (λ_=>true) true Tryz.f5.params.toList args.toList ds p:=aa;rw[params5]at hA hval;obtain⟨v0,ag,d0,ds0,p0,q0,hargs,rfl,rfl,h0,r0⟩:=trodAll_cons hA;obtain⟨v1,vs1,d1,ds1,p1,q1,rfl,rfl,rfl,h1,r1⟩:=trodAll_cons r0;obtain⟨rfl,rfl,rfl⟩:=trodAll_nil r1;obtain rfl:args=#[v0,v1]:=AU
 obtain⟨rfl,rfl⟩:=trodVars_none hV;have k0:=h0;have af:∀x∈p0,x.block<W.heap.size:=JD
 obtain⟨s0,w0⟩:=lC underlying22 underlying3 dV (hval 0 22 v0 rfl rfl) h0;obtain⟨a1,rfl,rfl,rfl,w1⟩:=open_int underlying3 (hval 1 3 v1 rfl rfl) h1;clear aa hval;refine(BZ v0 s0 a1 W w0 w1 (mO hL)).mono λe W' ⟨he,kL⟩=>?_
 subst he;exact⟨_,rfl,_,_,_,[],_,[],ae,trodAll_mk1 (Vh underlying4 _),(trodAll_cons_mk (Below.trod laidOut dV (pM dV) k0 kL af) (trodAll_cons_mk (shut_int underlying3 w1) trodAll_mk0)),rfl,kL.frame _,λh=>fV⟩
theorem mi(os:Os):laidMet prog Rows.parseBoundsRow.laid ((iP os).forCall (λ_ _=>0) ⟨#[],#[.slice none 0 0,.int .i64 0],[]⟩).memory:=
 laidMet_of_run' 8 dV dV
theorem reads(os:Os){H:Type}(enc:TypeId×Value->H):∃places,DataW.whole enc prog ((iP os).forCall (λ_ _=>0) ⟨#[],#[.slice none 0 0,.int .i64 0],[]⟩).memory Tryz.f5.params.toList Rows.parseBoundsSpec.vars false (#[.slice none 0 0,.int .i64 0]:Array Value).toList 8=some ([.nil,.lit (.int .i64 0)],[],places):=
 ⟨[],dV⟩
theorem lifted(os:Os)(started:os.Started)(H:Type)(enc:TypeId×Value->H)(F:Stop.Interp):
 ReturnsInHanded {} Tryz.checked os 5 .any ((OpenSpec.ofChange Rows.parseBoundsSpec).preRow enc prog Tryz.f5 Rows.parseBoundsRow.domain false Rows.parseBoundsRow.laid) (((OpenSpec.ofChange Rows.parseBoundsSpec).at F).post enc prog Tryz.f5 false true false false):=by
 obtain⟨places,hx⟩:=reads os enc;refine returnsInHanded_of_row (C:=Tryz.checked) (s:=OpenSpec.ofChange Rows.parseBoundsSpec) own started dV func5
  (witness_row_at (enc:=enc) (C:=Tryz.checked) false (iP os) #[.slice none 0 0,.int .i64 0] rfl dV dV dV
   (OpenSpec.preRow_of_cond 8 hx dV (λk hk=>wF) dV (mi os))) ?_
 intro W base args ds gs before hval hW _ _ _ hL _ _;exact contract H enc W base args ds gs before hval hW hL
theorem said:Rows.ParseBoundsSaid:=
 OpenClaim.holds_of_cond 5 Tryz.f5 rfl rfl rfl rfl rfl rfl rfl ⟨rfl,rfl,rfl,rfl,rfl⟩ rfl rfl rfl rfl rfl dV func5 dV
  (pM dV) (by unfold Func.isWrapper;first|(rw[dX gV];kernel_rfl)|(rw[dW gV];exact⟨rfl,rfl⟩))
  (λos started H enc _ F=>AV)
theorem plain(f:FuncId)(fn:Func)(hf:Tryz.pinned.checked.prog.funcNamed "corrector/correctorlaw12.ParseBounds"=some f)(hfn:Tryz.pinned.checked.prog.funcs[f]?=some fn):
 true=Tryz.pinned.checked.prog.looks []/\∀(j:Nat) t,fn.params[j]?=some t->Tryz.pinned.checked.prog.wantsStandIn t=false:=by
 obtain rfl:f=5:=iG ((show prog.funcNamed "corrector/correctorlaw12.ParseBounds"=some 5 by kernel_rfl).symm.trans hf)|>.symm
 obtain rfl:fn=Tryz.f5:=(iG (func5.symm.trans hfn)).symm;refine⟨dV,λj t ht=>?_⟩;rw[params5]at ht;have hall:([22,3]:List TypeId).all (λu=>!prog.wantsStandIn u)=true:=dV
 have hin:t∈([22,3]:List TypeId):=AX
 have h2:prog.wantsStandIn t=false:=AY
 exact h2
theorem card:Rows.ParseBoundsCardSaid:=
 Claim7.holds_tied_plain_at .later [] _ _ _ _ said (λ_ h=>fV) dV (λ_ h=>fV) parseBounds_row_tie rfl ⟨rfl,rfl⟩ dV rfl plain dV
#print axioms card
end parseBoundsDone
end Go.Proofs.YtmkkdjpebbdikaaGreatDoor

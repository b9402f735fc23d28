/- The law correctorlaw12.ParseBounds: whatever the input, the call returns true, and each argument reads afterwards as it read before. Conditions: none but those of the form (package-level variables as the program text lays them, tied by the card).
   The idea stands in the walk (W12Bo) and in what it imports; this text is the frame. -/
import Derived.Test.YtmkkdjpebbdikaaGreatDoorZn30
import Derived.ChangeOld
import Derived.ShutString
import Derived.Test.YtmkkdjpebbdikaaGreatDoorCards
import Derived.Test.YtmkkdjpebbdikaaGreatDoorTie
set_option linter.all false
set_option maxHeartbeats 16000000
set_option maxRecDepth 100000
namespace Go.Proofs.YtmkkdjpebbdikaaGreatDoor
open Go.RowKit Go.Proofs.Tryz
section
open Go.RowKit
open Sq
open Ar
theorem MI(w:World)(bv:Value)(dp:Int)(h:dp<1\/50<dp):
 Calls prog 12 #[bv,.int .i64 dp] w (vP ([],[],[]) w):=by
 have HB:=eZ (λo o2 u=>((fo w o).setCell (p:=⟨w.heap.size,o2,none⟩) (fB _) u));have HE:∀w',Below w.heap.size w w'->vP ([],[],[]) w (.returned (.tuple #[.slice none 0 0,.agg #[.slice none 0 0],.slice none 0 0])) w':=λw' hw=>
  ⟨_,_,_,[],rfl,kY iU _ _,⟨kY gP _ _,λi p hp=>by simp at hp,λi j p q _ hp=>by simp at hp⟩,rfl,kY ib _ _,hw⟩
 have HE:=eZ HE;obtain⟨Q,hQ⟩:=fq (vP ([],[],[]) w);rw[hQ]at HE⊢;clear hQ;have fin:∀o,(w.alloc (.cells #[.slice none 0 0] 31)).cell? ⟨w.heap.size,0,none⟩=some o->o=.slice none 0 0:=λo ho=>by
  rw[vH]at ho;exact(jl ho).symm
 by_cases h1:dp<1
 ·clear h fin
  go_enter func12,ntmps12
  go_wp2_with fail
  refine pW (v:=.tuple #[.slice none 0 0,.agg #[.slice none 0 0],.slice none 0 0]) ?_ rfl (HE.out _ ?_)
  ·simp[results,results12,go_sem]
  first
   |exact HB.out _ _ _
   |exact fo _ _
 have h2:50<dp:=h.resolve_left h1
 clear h fin
 go_enter func12,ntmps12
 go_wp2_with fail
 refine pW (v:=.tuple #[.slice none 0 0,.agg #[.slice none 0 0],.slice none 0 0]) ?_ rfl (HE.out _ ?_)
 ·simp[results,results12,go_sem]
 first
  |exact HB.out _ _ _
  |exact fo _ _
end
section
open Go.ChangeShapes Go.WideShapes Go.ChangeAt Go.RowKit
theorem laidOut:laidOutB prog=true:=by kernel_rfl
theorem Jr{P:Program}{w:World}{base:Nat}{t e:TypeId}{x:Addr}{len cap:Nat}(ht:P.underlying t=some (.slice e))(h:Value.okWide P w .any base t (.slice (some x) len cap)):x.spot=none:=by
 simp only[Value.okWide,ht,Cell.okWide]at h;simp only[Cell.ok,ht]at h;exact h.2.2.2.1
def yO(k:IntKind)(w:World)(v:Value)(l:List Int):Prop:=
 ((v=.slice none 0 0/\l=[])\/∃b off cap,v=.slice (some ⟨b,off,none⟩) l.length cap/\l.length<=cap/\cap<=maxLen/\∀j,j<l.length->w.cell? ⟨b,off+j,none⟩=some (.int k (l.getD j 0)))/\∀n∈l,(Lit.int k n).wf=true
theorem He{H:Type}{enc:TypeId×Value->H}{w:World}{base:Nat}{t e:TypeId}{k:IntKind}{v:Value}{d:DataW H}{p:List MemPlace}
 (ht:prog.underlying t=some (.slice e)) (he:prog.underlying e=some (.int k)) (hce:prog.cellsOf e=1)
 (hv:Value.okWide prog w .any base t v) (h:DataW.Trod enc prog w 0 (λ_=>true) true t v d p):∃l,yO k w v l:=by
 obtain⟨a,len,cap,rfl⟩:=okWide_slice ht hv;obtain⟨fuel,hf⟩:=h;rcases open_ints ht he hce hf with⟨hcs,_⟩|⟨x,l,c,zs,hcs,_,hl,hm,hz,_,hcell,hwz⟩
 ·simp[Value.cells]at hcs;obtain⟨rfl,rfl,rfl⟩:=hcs;exact⟨[],.inl ⟨rfl,rfl⟩,by simp⟩
 simp[Value.cells]at hcs;obtain⟨rfl,rfl,rfl⟩:=hcs;have hsp:=Jr ht hv;obtain⟨b,off,spot⟩:=x;simp only at hsp;subst hsp;have hzl:zs.length=cap:=by simpa using hz
 have hlen:(zs.take len).length=len:=by rw[kD];omega
 refine⟨zs.take len,.inr ⟨b,off,cap,by rw[hlen],by rw[hlen];exact hl,hm,λj hj=>?_⟩,λn hn=>hwz n (KN hn)⟩;rw[hlen]at hj;have:=hcell j (by omega);rw[addr_add]at this;rw[this];simp[List.getD,hj]
end
section
open Go.RowKit
theorem yO.shape{k:IntKind}{w:World}{v:Value}{l:List Int}(h:yO k w v l):∃a cap,v=.slice a l.length cap:=by
 rcases h.1 with⟨h1,h2⟩|⟨b,off,cap,h1,_⟩
 ·exact⟨none,0,by rw[h1,h2];rfl⟩
 exact⟨_,_,h1⟩
theorem yO.below{k:IntKind}{w w':World}{v:Value}{l:List Int}(h:yO k w v l)(hb:Below w.heap.size w w'):yO k w' v l:=by
 refine⟨?_,h.2⟩;rcases h.1 with h1|⟨b,off,cap,h1,h2,h3,h4⟩
 ·exact .inl h1
 refine .inr ⟨b,off,cap,h1,h2,h3,λj hj=>?_⟩;have h5:=h4 j hj;rw[hb.cell (p:=⟨b,off+j,none⟩) (lt_of_cell h5)];exact h5
theorem yO.at_{k:IntKind}{w:World}{a:Option Addr}{l:List Int}{cap j:Nat}(h:yO k w (.slice a l.length cap) l)(hj:j<l.length):
 ∃b off,a=some ⟨b,off,none⟩/\l.length<=cap/\cap<=maxLen/\w.cell? ⟨b,off+j,none⟩=some (.int k (l.getD j 0)):=by
 rcases h.1 with⟨_,hz⟩|⟨b,off,cap',hv,g2,g3,g4⟩
 ·rw[hz]at hj;exact absurd hj (qJ _)
 obtain⟨rfl,-,rfl⟩:=ll hv;exact⟨b,off,rfl,g2,g3,g4 j hj⟩
theorem yO.len{k:IntKind}{w:World}{v:Value}{l:List Int}(h1:yO k w v l):l.length<=9223372036854775807:=by
 rcases h1.1 with⟨_,hz⟩|⟨_,_,_,_,g2,g3,_⟩
 ·rw[hz];exact ic _
 simp only[maxLen]at g3;omega
end
section
open Go.RowKit
open Sg
open Sq
def NH:List (List UInt8):=[[45,32],[97,58,32],[98,58,32,49],[45,32,99,58,32],[45,32,45,32,100],[116,101,120,116],[91,49,44,32,50,93],[45,32,124],[101,58,32,62],[102,58],[45],[39,113,39,58,32,122],[45,45,45],[46,46,46],[35,32,99],[123,97,58,32],[45,32,53,32,54],[107,58,32,118,58,32,119],[42,120],[38,121,32,122]]
abbrev Jv:Array Value:=#[.string ⟨#[45,32]⟩,.string ⟨#[97,58,32]⟩,.string ⟨#[98,58,32,49]⟩,.string ⟨#[45,32,99,58,32]⟩,.string ⟨#[45,32,45,32,100]⟩,.string ⟨#[116,101,120,116]⟩,.string ⟨#[91,49,44,32,50,93]⟩,.string ⟨#[45,32,124]⟩,.string ⟨#[101,58,32,62]⟩,.string ⟨#[102,58]⟩,.string ⟨#[45]⟩,.string ⟨#[39,113,39,58,32,122]⟩,.string ⟨#[45,45,45]⟩,.string ⟨#[46,46,46]⟩,.string ⟨#[35,32,99]⟩,.string ⟨#[123,97,58,32]⟩,.string ⟨#[45,32,53,32,54]⟩,.string ⟨#[107,58,32,118,58,32,119]⟩,.string ⟨#[42,120]⟩,.string ⟨#[38,121,32,122]⟩]
theorem QU:Jv=(NH.map λp=>Value.string ⟨p.toArray⟩).toArray:=rfl
def Plain(l:List UInt8):Prop:=∀c∈l,c<128/\c≠9
theorem MJ:∀k:Fin 20,((NH[k.val]?).map λp=>decide (p.length<=8)&&p.all (λc=>decide (c<128)&&decide (c≠9)))=some true:=by decide+kernel
theorem Uz(k:Nat)(hk:k<20):∃X:ByteArray,X.size<=8/\Plain X.data.toList/\Jv[k]?=some (.string X):=by
 have h:=MJ ⟨k,hk⟩;simp only at h;cases hp:NH[k]? with
 |none=>rw[hp]at h;cases h
 |some p=>
  rw[hp,yJ]at h;have h:=jl h;rw[qH,M4,Rj]at h;refine⟨⟨p.toArray⟩,by show p.toArray.size<=8;simpa using h.1,λc hc=>?_,?_⟩
  ·have:=h.2 c (by simpa using hc)
   simpa using this
  rw[QU,Vm,lS,hp];rfl
structure Cc(S:ByteArray):Prop where
 plain:Plain S.data.toList
 last:S.data.toList=[]\/∃x,S.data.toList=x++[10]
abbrev zW:ByteArray:=⟨#[32,32,32,32,32,32,32,32]⟩
theorem MK(k:Nat)(h:k<=8):∃C:ByteArray,C.size=k/\Plain C.data.toList/\∀W:World,(Instr.slice 9 (.string ⟨#[32,32,32,32,32,32,32,32]⟩) none (some (.int .i64 (k:Int))) none).run prog W=.ok (.string C) W:=by
 have hs:zW.size=8:=rfl;have hd:(zW.extract 0 k).data.toList=List.replicate k 32:=by
  rw[Xu,Xr];show((List.replicate 8 (32:UInt8)).drop 0).take (k-0)=_;rw[lQ,BC,List.take_replicate,zG h]
 refine⟨zW.extract 0 k,?_,λc hc=>?_,λW=>?_⟩
 ·rw[nV,hs];omega
 ·rw[hd,List.mem_replicate]at hc;rw[hc.2];decide
 show(Instr.slice 9 (.string zW) none (some (.int .i64 (k:Int))) none).run prog W=_;rw[run_slice_string_h W 9 zW underlying9 .i64 k (by omega) (by rw[hs];omega)];simp
theorem Cc.put{S C Y:ByteArray}(h:Cc S)(hC:Plain C.data.toList)(hY:Plain Y.data.toList):Cc (S++C++Y++⟨#[10]⟩):=by
 have e:(S++C++Y++(⟨#[10]⟩:ByteArray)).data.toList=(S.data.toList++C.data.toList++Y.data.toList)++[10]:=by simp[ByteArray.data_append]
 refine⟨λc hc=>?_,.inr ⟨_,e⟩⟩;rw[e,mU,mU,mU]at hc;rcases hc with((hc|hc)|hc)|hc
 ·exact h.plain c hc
 ·exact hC c hc
 ·exact hY c hc
 obtain rfl:=vF.1 hc;decide
def OJ(w:World)(e:Ending)(w':World):Prop:=∃v,∃S:ByteArray,e=.returned v/\xF w' v S/\S.size<=600/\Cc S/\Below w.heap.size w w'
theorem ML(v0:Value)(l0:List Int)(w:World)(h0:yO .i64 w v0 l0):
 Calls prog 11 #[v0] w (OJ w):=by
 obtain⟨Q,hQ⟩:=fq (OJ w);rw[hQ];obtain⟨a0,cap0,rfl⟩:=h0.shape;have hl:=h0.len;obtain⟨NL,aa⟩:=fq (l0.length);rw[aa]at hl;obtain⟨H0,HQ,ak⟩:=jF h0 hQ aa;clear h0 hQ;rw[aa];clear aa
 go_enter func11,ntmps11
 go_wp2_with fail
 go_loopw [3,4] (λsv iv wr=>∃(k:Nat)(S:ByteArray),iv=.int .i64 k/\k<=30/\sv=.string S/\Hid (S.size<=17*k/\Cc S/\Below w.heap.size w wr)) (λ_ iv _=>30-(intOf iv).toNat)
 case atStart=>exact⟨0,⟨#[]⟩,rfl,by omega,rfl,eZ ⟨ic _,⟨λc hc=>(by cases hc),.inl rfl⟩,fI _ w⟩⟩
 case round=>
  obtain⟨k,S,rfl,hk,rfl,HS⟩:=hrel;by_cases hlt:k<NL/\k<30
  ·obtain⟨hlt1,hlt2⟩:=hlt;have i1:(k:Int)<(NL:Int):=by omega
   have i2:(k:Int)<30:=by omega
   obtain⟨nb,no,rfl,q2,q3,hc1⟩:=(H0.out.below HS.out.2.2).at_ (by rw[ak.out];exact hlt1);obtain⟨y,hy⟩:=fq (l0.getD k 0);rw[hy]at hc1;obtain⟨j1,hj1,hw1⟩:=uS y 7 7 rfl (by decide) (by decide);obtain⟨y7,av⟩:=fq (IntKind.i64.wrap (y.tdiv 7));obtain⟨j2,hj2,hw2⟩:=uS y7 20 20 rfl (by decide) (by decide);obtain⟨C1,ax,ag,ay⟩:=MK j1 (by omega);obtain⟨Y,az,ah,ai⟩:=Uz j2 hj2;have hsz:=HS.out.1;have n1:¬(9223372036854775807<S.size+C1.size):=by omega
   have n2:¬(9223372036854775807<S.size+C1.size+Y.size):=by omega
   have n3:¬(9223372036854775807<S.size+C1.size+Y.size+1):=by omega
   have i9:(j2:Int)<20:=by omega
   have i90:(0:Int)<=(j2:Int):=by omega
   obtain⟨WX,ae⟩:=fq ((wr.alloc (.cells Jv 9)).drew);have hbX:Below wr.heap.size wr WX:=ae▸((fI _ wr).alloc (fB _) _).drew;obtain⟨BX,af⟩:=fq (wr.heap.size);have xl:WX.cell? ⟨BX,j2,none⟩=some (.string Y):=by
    rw[<-ae,<-af];show(wr.alloc (.cells Jv 9)).cell? ⟨wr.heap.size,j2,none⟩=_;rw[XH];exact ai
   have xc:WX.cell? ⟨nb,no+k,none⟩=some (.int .i64 y):=fu hbX hc1;have hfz:(S++C1++Y++(⟨#[10]⟩:ByteArray)).size<=17*(k+1):=by rw[pM,pM,pM];show _+1<=_;omega
   have aj:=eZ (show(S++C1++Y++(⟨#[10]⟩:ByteArray)).size<=17*(k+1)/\Cc (S++C1++Y++⟨#[10]⟩)/\Below w.heap.size w WX from⟨hfz,HS.out.2.1.put ag ah,HS.out.2.2.trans (hbX.mono HS.out.2.2.size)⟩);obtain⟨HW1,HW2⟩:=fT hw1 hw2;have aA:=eZ (show(wr.alloc (.cells #[.string ⟨#[45,32]⟩,.string ⟨#[97,58,32]⟩,.string ⟨#[98,58,32,49]⟩,.string ⟨#[45,32,99,58,32]⟩,.string ⟨#[45,32,45,32,100]⟩,.string ⟨#[116,101,120,116]⟩,.string ⟨#[91,49,44,32,50,93]⟩,.string ⟨#[45,32,124]⟩,.string ⟨#[101,58,32,62]⟩,.string ⟨#[102,58]⟩,.string ⟨#[45]⟩,.string ⟨#[39,113,39,58,32,122]⟩,.string ⟨#[45,45,45]⟩,.string ⟨#[46,46,46]⟩,.string ⟨#[35,32,99]⟩,.string ⟨#[123,97,58,32]⟩,.string ⟨#[45,32,53,32,54]⟩,.string ⟨#[107,58,32,118,58,32,119]⟩,.string ⟨#[42,120]⟩,.string ⟨#[38,121,32,122]⟩] 9)).drew=WX from ae);have aB:=eZ af;clear hy hw1 hw2 ag ah ai ae hbX af hfz hsz HS az ax;go_upto_region 5 with fail
   refine gK (λwx=>wx.cell? ⟨nb,no+k,none⟩=some (.int .i64 y)) 19 (by kernel_rfl) ?_;have hH:(λwx:World=>wx.cell? ⟨nb,no+k,none⟩=some (.int .i64 y)) wr.drew:=fE hc1;refine ik 0 (.string S) rfl (by kernel_rfl) rfl fC (λW hW=>by go_simp) hH ?_;refine ik 1 (.slice (some ⟨nb,no,none⟩) NL cap0) rfl (by kernel_rfl) rfl fC (λW hW=>by go_simp) hH ?_;refine ik 2 (.int .i64 (k:Int)) rfl (by kernel_rfl) rfl fC (λW hW=>by go_simp) hH ?_;refine ik 3 (.pointer (some ⟨nb,no+k,none⟩)) rfl (by kernel_rfl) rfl fC (λW hW=>by go_simp) hH ?_;refine ik 4 (.int .i64 y) rfl (by kernel_rfl) rfl fC (λW hW=>by go_simp) hH ?_;refine qp (i:=5) (oi:=⟨_,_,_,_,_,_⟩) (v:=.int .i64 (j1:Int)) rfl (by kernel_rfl) (by kernel_rfl) (by kernel_rfl) (by kernel_rfl) (by kernel_rfl) fC (Or.inl ⟨rfl,λW hW=>?_⟩) hH ?_
   ·refine lV.DY (f:=13) (args:=#[.int .i64 y,.int .i64 7]) ?_ ?_
    ·go_simp
    exact HW1.out _
   try simp only[Act.put,fK,fP,fO]
   refine ik 6 (.string C1) rfl (by kernel_rfl) rfl fC (λW hW=>by go_simp) hH ?_;refine ik 7 (.string (S++C1)) rfl (by kernel_rfl) rfl fC (λW hW=>by go_simp) hH ?_;refine ik 9 (.slice (some ⟨nb,no,none⟩) NL cap0) rfl (by kernel_rfl) rfl fC (λW hW=>by go_simp) hH ?_;refine ik 10 (.int .i64 (k:Int)) rfl (by kernel_rfl) rfl fC (λW hW=>by go_simp) hH ?_;refine ik 11 (.pointer (some ⟨nb,no+k,none⟩)) rfl (by kernel_rfl) rfl fC (λW hW=>by go_simp) hH ?_;refine ik 12 (.int .i64 y) rfl (by kernel_rfl) rfl fC (λW hW=>by go_simp) hH ?_;refine ik 13 (.int .i64 y7) rfl (by kernel_rfl) rfl fC (λW hW=>by go_simp) hH ?_;refine qp (i:=14) (oi:=⟨_,_,_,_,_,_⟩) (v:=.int .i64 (j2:Int)) rfl (by kernel_rfl) (by kernel_rfl) (by kernel_rfl) (by kernel_rfl) (by kernel_rfl) fC (Or.inl ⟨rfl,λW hW=>?_⟩) hH ?_
   ·refine lV.DY (f:=13) (args:=#[.int .i64 y7,.int .i64 20]) ?_ ?_
    ·go_simp
    exact HW2.out _
   try simp only[Act.put,fK,fP,fO]
   refine mO 8 (by kernel_rfl) rfl λK hK=>?_
   go_simp;rw[aA.out];try rw[aB.out]
   refine hK.out _ _ (λ_=>xc) (λhH2=>?_);clear hK K;replace hH:=hH2 (by kernel_rfl);clear hH2;try simp only[Act.put,fK,fP,fO]
   refine ik 15 (.pointer (some ⟨BX,j2,none⟩)) rfl (by kernel_rfl) rfl fC (λW hW=>by go_simp) hH ?_;refine mO 16 (by kernel_rfl) rfl λK hK=>?_
   go_simp;refine hK.out _ _ (λ_=>xc) (λhH2=>?_);clear hK K;replace hH:=hH2 (by kernel_rfl);clear hH2;try simp only[Act.put,fK,fP,fO]
   refine ik 17 (.string (S++C1++Y)) rfl (by kernel_rfl) rfl fC (λW hW=>by go_simp) hH ?_;refine ik 18 (.string (S++C1++Y++⟨#[10]⟩)) rfl (by kernel_rfl) rfl fC (λW hW=>by go_simp) hH ?_;refine mO 19 (by kernel_rfl) rfl λK hK=>?_
   go_simp;refine hK.out _ _ (kC (by kernel_rfl)) (λ_=>?_);clear hK K;try simp only[Act.put,fK,fP,fO]
   refine gH (by kernel_rfl) ?_ _;clear xl xc n1 n2 n3 hc1 av;obtain⟨S2,hS2⟩:=fq (S++C1++Y++(⟨#[10]⟩:ByteArray));rw[hS2]at aj⊢;clear hS2;go_wp2_with fail
   go_roundw
   case rel=>exact⟨k+1,S2,by go_num,by omega,rfl,aj⟩
   case measure=>simp[intOf];omega
  obtain⟨hsz,hln,hbl⟩:=HS.out;obtain⟨cap0,w3,hcv,hrow,hb3⟩:=wV S wr (by unfold maxLen;omega)
  have HD:=eZ (show Q (.returned (.slice (some ⟨wr.heap.size,0,none⟩) S.size cap0)) w3 by
   rw[<-HQ.out]
   exact⟨_,S,rfl,hrow.YB,by omega,hln,hbl.trans (hb3.mono hbl.size)⟩)
  clear HS hsz hln hbl hrow hb3;by_cases hlt1:k<NL
  ·have i1:(k:Int)<(NL:Int):=by omega
   have i2:¬((k:Int)<30):=by omega
   clear hlt;go_wp2_with fail
   exact HD.out
  have i1:¬((k:Int)<(NL:Int)):=by omega
  clear hlt;go_wp2_with fail
  exact HD.out
end
section
open Go.RowKit
open Sq
open Ar
section
variable {X:List Tk×List Nd×List Fl.Dg}{w w':World}{B:Nat}{tv nv dv:Value}
theorem Three.below(h:Three X w B tv nv dv)(hb:Below w.heap.size w w'):Three X w' B tv nv dv:=by
 obtain⟨h1,⟨L,h2,h3⟩,h4⟩:=h;exact⟨fQ h1 hb,⟨L,h2,h3.below hb⟩,fQ h4 hb⟩
theorem Three.low{B':Nat}(h:Three X w B tv nv dv)(hB:B'<=B):Three X w B' tv nv dv:=by
 obtain⟨h1,⟨L,h2,h3⟩,h4⟩:=h;exact⟨lq h1 hB,⟨L,h2,h3.base hB⟩,lq h4 hB⟩
theorem Three.set(h:Three X w B tv nv dv){b:Nat}{C:Array Value}{fr:Nat×Nat}(hb:w.heap[b]?=some (.cells C 31 fr))(o:Nat)(u:Value):Three X (w.setCell ⟨b,o,none⟩ u) B tv nv dv:=by
 obtain⟨h1,⟨L,h2,h3⟩,h4⟩:=h;have st:∀g,g≠b->(w.setCell ⟨b,o,none⟩ u).heap[g]?=w.heap[g]?:=λg hg=>jf _ _ _ _ hg
 refine⟨fU h1 (λg hg=>st g (λe=>fF h1 hb (by decide) (e▸hg))),⟨L,h2,?_⟩,fU h4 (λg hg=>st g (λe=>fF h4 hb (by decide) (e▸hg)))⟩;refine OT.same h3 (λg hg=>st g (λe=>?_));rcases hg with hg|⟨p,hp,hg⟩
 ·exact fF h3.row hb (by decide) (e▸hg)
 obtain⟨i,hi⟩:=lh hp;exact fF (h3.kids i p hi) hb (by decide) (e▸hg)
theorem Three.var(h:Three X w B tv nv dv){b:Nat}(hb:w.heap[b]?=some (.cells #[.slice none 0 0] 31 (0,0)))(u:Value):
 Three X (w.setCell ⟨b,0,none⟩ u) B tv nv dv/\(w.setCell ⟨b,0,none⟩ u).heap[b]?=some (.cells #[u] 31 (0,0)):=
 ⟨h.set hb 0 u,qb hb u⟩
end
def Ce(X:List Tk×List Nd×List Fl.Dg)(wr wx:World)(tv nv dv:Value)(bt:Nat):Prop:=
 Three X wx wr.heap.size tv nv dv/\wx.heap[bt]?=some (.cells #[nv] 31 (0,0))/\Below wr.heap.size wr wx
theorem Ce.mk'{X:List Tk×List Nd×List Fl.Dg}{wr wx:World}{B bt:Nat}{tv nv dv:Value}(h:Three X wx B tv nv dv)(hB:wr.heap.size<=B)(hb:wx.heap[bt]?=some (.cells #[.slice none 0 0] 31 (0,0)))(hl:wr.heap.size<=bt)(hw:Below wr.heap.size wr wx):
 Ce X wr (wx.setCell ⟨bt,0,none⟩ nv) tv nv dv bt:=
 ⟨(h.var hb nv).1.low hB,(h.var hb nv).2,hw.setCell (p:=⟨bt,0,none⟩) hl _⟩
end
section
open Go.RowKit
open Sg
open Sq
open Ar
theorem yC(v0:Value)(l0:List Int)(bg:Int)(w:World)(h0:yO .i64 w v0 l0)(_:(Lit.int .i64 bg).wf=true)(hT:oO w):
 Calls prog 5 #[v0,.int .i64 bg] w λe w'=>e=.returned (.bool true)/\Below w.heap.size w w':=by
 have HQ:=eZ (λw'=>show Below w.heap.size w w'->(λe (w':World)=>e=Ending.returned (.bool true)/\Below w.heap.size w w') (.returned (.bool true)) w' from λh=>⟨rfl,h⟩);obtain⟨Q,hQ⟩:=fq ((λe (w':World)=>e=Ending.returned (.bool true)/\Below w.heap.size w w'));rw[hQ]at HQ⊢;have HK:=eZ (IE w hT);obtain⟨k,hk,hw1⟩:=uS bg 99 99 rfl (by decide) (by decide);have HW1:=eZ hw1;have HL:=eZ (λW (hW:Below w.heap.size w W)=>ML v0 l0 W (h0.below hW));have HLen:=eZ (show([]:List Tk).length=0/\([]:List Nd).length=0/\([]:List Fl.Dg).length=0 from⟨rfl,rfl,rfl⟩);clear hw1 hQ hT h0
 go_enter func5,ntmps5
 go_wp2_with fail
 refine HK.out.mono ?_;rintro e w1 ⟨rfl,hb1⟩;have HB1:=eZ hb1;clear hb1 HK;go_wp2_with fail
 refine(HW1.out _).mono ?_;rintro e w2 ⟨rfl,rfl⟩;go_wp2_with fail
 refine(HW1.out _).mono ?_;rintro e w2 ⟨rfl,rfl⟩;obtain⟨af,aA⟩:∃b,w1.heap.size=b:=⟨_,rfl⟩
 obtain⟨da,bE⟩:∃d:Int,(51:Int)+(k:Int)=d:=⟨_,rfl⟩
 obtain⟨db,bF⟩:∃d:Int,(-1:Int)-(k:Int)=d:=⟨_,rfl⟩
 obtain⟨w2,hw2⟩:=fq (w1.alloc (.cells #[.int .i64 0,.int .i64 da,.int .i64 db] 3));have aW:50<da:=by omega
 have aX:db<1:=by omega
 have hrow:w2.heap[af]?=some (.cells #[.int .i64 0,.int .i64 da,.int .i64 db] 3 (0,0)):=by rw[<-hw2,<-aA];exact j5 _ _
 have hb2:Below w.heap.size w w2:=HB1.out.trans ((hw2▸fo w1 _:Below w1.heap.size w1 w2).mono HB1.out.size);have hcells:∀i,i<3->∃dp:Int,(dp<1\/50<dp)/\∀W,Below w2.heap.size w2 W->W.cell? ⟨af,i,none⟩=some (.int .i64 dp):=λi hi=>by
  have key:∀W,Below w2.heap.size w2 W->W.heap[af]?=some (.cells #[.int .i64 0,.int .i64 da,.int .i64 db] 3 (0,0)):=λW hW=>(hW.block af (il hrow)).trans hrow
  match i,hi with
  |0,_=>exact⟨0,.inl (by decide),λW hW=>gG (key W hW) 0⟩
  |1,_=>exact⟨da,.inr aW,λW hW=>gG (key W hW) 1⟩
  |2,_=>exact⟨db,.inl aX,λW hW=>gG (key W hW) 2⟩
 obtain⟨aV,HB2,HW2,bL,bM,bN⟩:=kJ hcells hb2 hw2 aA bE bF;clear hrow hb2 hcells hw2 aA bE bF aW aX HW1;go_upto_region 4 with fail
 try rw[bM.out]
 try rw[bN.out]
 rw[HW2.out,bL.out];go_wp2_with fail
 go_loopw [6] (λiv wr=>∃i:Nat,iv=.int .i64 (i:Int)/\i<=3/\Hid (Below w2.heap.size w2 wr)) (λiv _=>3-(intOf iv).toNat)
 case atStart=>exact⟨0,rfl,by omega,eZ (fI _ _)⟩
 case round=>
  obtain⟨i,rfl,hi,HR⟩:=hrel;by_cases hlt:i<3
  ·obtain⟨dp,hdp,hcd⟩:=aV.out i hlt;have hc1:=hcd wr HR.out;have bn:=eZ (λW bv=>MI W bv dp hdp);have hbw:Below w.heap.size w wr:=HB2.out.trans (HR.out.mono HB2.out.size);have HL:=eZ (λW (hW:Below wr.heap.size wr W)=>HL.out W (hbw.trans (hW.mono hbw.size)));have g1:(i:Int)<3:=by omega
   clear hdp hcd hbw;go_upto_region 7 with fail
   go_cut [7,8,9] (λa b c wx=>∃bt ta tc na nc da dc,a=.slice ta 0 tc/\b=.pointer (some ⟨bt,0,none⟩)/\c=.slice da 0 dc/\Hid (Ce ([],[],[]) wr wx (.slice ta 0 tc) (.slice na 0 nc) (.slice da 0 dc) bt))
   case first=>
    refine gK (λwx=>wx.cell? ⟨af,i,none⟩=some (.int .i64 dp)) 13 (by kernel_rfl) ?_;have hH:(λwx:World=>wx.cell? ⟨af,i,none⟩=some (.int .i64 dp)) wr.drew:=fE hc1;refine ik 0 v0 rfl (by kernel_rfl) rfl fC (λW hW=>by go_simp) hH ?_;refine ik 2 (.slice (some ⟨af,0,none⟩) 3 3) rfl (by kernel_rfl) rfl fC (λW hW=>by go_simp) hH ?_;refine ik 3 (.int .i64 (i:Int)) rfl (by kernel_rfl) rfl fC (λW hW=>by go_simp) hH ?_;refine ik 4 (.pointer (some ⟨af,i,none⟩)) rfl (by kernel_rfl) rfl fC (λW hW=>by go_simp) hH ?_;refine ik 5 (.int .i64 dp) rfl (by kernel_rfl) rfl fC (λW hW=>by go_simp) hH ?_;refine nI (rs:=[1,11]) (by kernel_rfl) (by simp) ?_;refine iE.cons (o:=⟨_,_,_,_,_,_⟩) rfl (λK hK=>?_) (iE.cons (o:=⟨_,_,_,_,_,_⟩) rfl (λK hK=>?_) (iE.nil));go_simp;refine(HL.out wr.drew ((fI _ wr).drew)).mono ?_;rintro e ah ⟨lv,S,rfl,bG,hSz,hLn,bH⟩;have ag:=fD (fI _ wr).drew bH;refine hK.out _ _ (λ_=>fu ag hc1) (λhH2=>?_);clear hK K;replace hH:=hH2 (by kernel_rfl);clear hH2;try simp only[Act.put,fK,fP,fO]
    refine nI (rs:=[6,11]) (by kernel_rfl) (by simp) ?_;refine iE.cons (o:=⟨_,_,_,_,_,_⟩) rfl (λK hK=>?_) (iE.cons (o:=⟨_,_,_,_,_,_⟩) rfl (λK hK=>?_) (iE.nil));go_simp;refine(bn.out ah _).mono ?_;intro e aB ae;obtain⟨tv,nv,dv,rfl,aY,bI⟩:=ae.three;clear ae;obtain⟨ta,tc,na,nc,da,dc,rfl,rfl,rfl⟩:=aY.shapes HLen.out.1 HLen.out.2.1 HLen.out.2.2;have aC:=fD ag bI;have bO:wr.heap.size<=ah.heap.size:=ag.size;refine hK.out _ _ (λ_=>fu aC hc1) (λhH2=>?_);clear hK K;replace hH:=hH2 (by kernel_rfl);clear hH2;try simp only[Act.put,fK,fP,fO]
    refine ik 7 (.tuple #[.slice ta 0 tc,.agg #[.slice na 0 nc],.slice da 0 dc]) rfl (by kernel_rfl) rfl fC (λW hW=>by go_simp) hH ?_;refine ik 8 (.slice ta 0 tc) rfl (by kernel_rfl) rfl fC (λW hW=>by go_simp) hH ?_;refine ik 9 (.agg #[.slice na 0 nc]) rfl (by kernel_rfl) rfl fC (λW hW=>by go_simp) hH ?_;refine iD 10 (.slice da 0 dc) rfl (by kernel_rfl) rfl fC (λW=>by go_simp) (λ_=>hH) ?_;refine mO 11 (by kernel_rfl) rfl λK hK=>?_
    obtain⟨bq,hbt⟩:∃bt,aB.heap.size=bt:=⟨_,rfl⟩
    obtain⟨aZ,aa⟩:∃w6,aB.alloc (.cells #[.slice none 0 0] 31)=w6:=⟨_,rfl⟩
    have aD:Below aB.heap.size aB aZ:=aa▸fo aB _;have ai:aZ.heap[bq]?=some (.cells #[.slice none 0 0] 31 (0,0)):=by rw[<-aa,<-hbt];exact j5 _ _
    have aF:=fD aC aD;have bz:wr.heap.size<=bq:=by rw[<-hbt];exact aC.size
    have bA:=aY.below aD;go_simp;try rw[aa]
    try rw[hbt]
    clear aa hbt;refine hK.out _ _ (λ_=>fu aF hc1) (λhH2=>?_);clear hK K;replace hH:=hH2 (by kernel_rfl);clear hH2;try simp only[Act.put,fK,fP,fO]
    refine ik 12 (.slice ta 0 tc) rfl (by kernel_rfl) rfl fC (λW hW=>by go_simp) hH ?_;refine mO 13 (by kernel_rfl) rfl λK hK=>?_
    have aG:=iF ai;have aH:=nH ai 0;go_simp;refine hK.out _ _ (kC (by kernel_rfl)) (λ_=>?_);clear hK K;try simp only[Act.put,fK,fP,fO]
    refine iD 14 (.slice da 0 dc) rfl (by kernel_rfl) rfl fC (λW=>by go_simp) (kC (by kernel_rfl)) ?_;refine gH (by kernel_rfl) ?_ _;have hend:=eZ (Ce.mk' bA bO ai bz aF);clear aG aH;go_wp2_with fail
    go_meet
    exact⟨bq,ta,tc,na,nc,da,dc,rfl,rfl,rfl,hend⟩;obtain⟨aI,hbt⟩:∃bt,ah.heap.size=bt:=⟨_,rfl⟩
    obtain⟨az,aa⟩:∃w6,ah.alloc (.cells #[.slice none 0 0] 31)=w6:=⟨_,rfl⟩
    have bB:Below ah.heap.size ah az:=aa▸fo ah _;have aJ:az.heap[aI]?=some (.cells #[.slice none 0 0] 31 (0,0)):=by rw[<-aa,<-hbt];exact j5 _ _
    have aj:=fD ag bB;have bC:wr.heap.size<=aI:=by rw[<-hbt];exact ag.size
    go_simp;try rw[aa]
    try rw[hbt]
    clear aa hbt;refine hK.out _ _ (λ_=>fu aj hc1) (λhH2=>?_);clear hK K;replace hH:=hH2 (by kernel_rfl);clear hH2;try simp only[Act.put,fK,fP,fO]
    refine mO 6 (by kernel_rfl) rfl λK hK=>?_
    go_simp;refine(bn.out az _).mono ?_;intro e bP ae;obtain⟨tv,nv,dv,rfl,aK,aL⟩:=ae.three;clear ae;obtain⟨ta,tc,na,nc,da,dc,rfl,rfl,rfl⟩:=aK.shapes HLen.out.1 HLen.out.2.1 HLen.out.2.2;have aM:=fD aj aL;have bJ:wr.heap.size<=az.heap.size:=aj.size;have ak:=(aL.block _ (il aJ)).trans aJ;refine hK.out _ _ (λ_=>fu aM hc1) (λhH2=>?_);clear hK K;replace hH:=hH2 (by kernel_rfl);clear hH2;try simp only[Act.put,fK,fP,fO]
    refine ik 7 (.tuple #[.slice ta 0 tc,.agg #[.slice na 0 nc],.slice da 0 dc]) rfl (by kernel_rfl) rfl fC (λW hW=>by go_simp) hH ?_;refine ik 8 (.slice ta 0 tc) rfl (by kernel_rfl) rfl fC (λW hW=>by go_simp) hH ?_;refine ik 9 (.agg #[.slice na 0 nc]) rfl (by kernel_rfl) rfl fC (λW hW=>by go_simp) hH ?_;refine iD 10 (.slice da 0 dc) rfl (by kernel_rfl) rfl fC (λW=>by go_simp) (λ_=>hH) ?_;refine ik 12 (.slice ta 0 tc) rfl (by kernel_rfl) rfl fC (λW hW=>by go_simp) hH ?_;refine mO 13 (by kernel_rfl) rfl λK hK=>?_
    have aG:=iF ak;have aH:=nH ak 0;go_simp;refine hK.out _ _ (kC (by kernel_rfl)) (λ_=>?_);clear hK K;try simp only[Act.put,fK,fP,fO]
    refine iD 14 (.slice da 0 dc) rfl (by kernel_rfl) rfl fC (λW=>by go_simp) (kC (by kernel_rfl)) ?_;refine gH (by kernel_rfl) ?_ _;have hend:=eZ (Ce.mk' aK bJ ak bC aM);clear aG aH;go_wp2_with fail
    go_meet
    exact⟨aI,ta,tc,na,nc,da,dc,rfl,rfl,rfl,hend⟩;obtain⟨aN,hbt⟩:∃bt,wr.heap.size=bt:=⟨_,rfl⟩
    obtain⟨aO,aa⟩:∃w6,(wr.alloc (.cells #[.slice none 0 0] 31)).drew=w6:=⟨_,rfl⟩
    have av:Below wr.heap.size wr aO:=aa▸(fo wr _).drew;have aP:aO.heap[aN]?=some (.cells #[.slice none 0 0] 31 (0,0)):=by rw[<-aa,<-hbt];exact j5 wr _
    have bD:wr.heap.size<=aN:=by rw[<-hbt];exact fB _
    go_simp;try rw[aa]
    try rw[hbt]
    clear aa hbt;refine hK.out _ _ (λ_=>fu av hc1) (λhH2=>?_);clear hK K;replace hH:=hH2 (by kernel_rfl);clear hH2;try simp only[Act.put,fK,fP,fO]
    refine mO 1 (by kernel_rfl) rfl λK hK=>?_
    go_simp;refine(HL.out aO (av)).mono ?_;rintro e bf ⟨lv,S,rfl,bG,hSz,hLn,aQ⟩;have ax:=fD av aQ;have aR:=(aQ.block _ (il aP)).trans aP;refine hK.out _ _ (λ_=>fu ax hc1) (λhH2=>?_);clear hK K;replace hH:=hH2 (by kernel_rfl);clear hH2;try simp only[Act.put,fK,fP,fO]
    refine mO 6 (by kernel_rfl) rfl λK hK=>?_
    go_simp;refine(bn.out bf _).mono ?_;intro e bQ ae;obtain⟨tv,nv,dv,rfl,aS,aT⟩:=ae.three;clear ae;obtain⟨ta,tc,na,nc,da,dc,rfl,rfl,rfl⟩:=aS.shapes HLen.out.1 HLen.out.2.1 HLen.out.2.2;have aU:=fD ax aT;have bK:wr.heap.size<=bf.heap.size:=ax.size;have ay:=(aT.block _ (il aR)).trans aR;refine hK.out _ _ (λ_=>fu aU hc1) (λhH2=>?_);clear hK K;replace hH:=hH2 (by kernel_rfl);clear hH2;try simp only[Act.put,fK,fP,fO]
    refine ik 7 (.tuple #[.slice ta 0 tc,.agg #[.slice na 0 nc],.slice da 0 dc]) rfl (by kernel_rfl) rfl fC (λW hW=>by go_simp) hH ?_;refine ik 8 (.slice ta 0 tc) rfl (by kernel_rfl) rfl fC (λW hW=>by go_simp) hH ?_;refine ik 9 (.agg #[.slice na 0 nc]) rfl (by kernel_rfl) rfl fC (λW hW=>by go_simp) hH ?_;refine iD 10 (.slice da 0 dc) rfl (by kernel_rfl) rfl fC (λW=>by go_simp) (λ_=>hH) ?_;refine ik 12 (.slice ta 0 tc) rfl (by kernel_rfl) rfl fC (λW hW=>by go_simp) hH ?_;refine mO 13 (by kernel_rfl) rfl λK hK=>?_
    have aG:=iF ay;have aH:=nH ay 0;go_simp;refine hK.out _ _ (kC (by kernel_rfl)) (λ_=>?_);clear hK K;try simp only[Act.put,fK,fP,fO]
    refine iD 14 (.slice da 0 dc) rfl (by kernel_rfl) rfl fC (λW=>by go_simp) (kC (by kernel_rfl)) ?_;refine gH (by kernel_rfl) ?_ _;have hend:=eZ (Ce.mk' aS bK ay bD aU);clear aG aH;go_wp2_with fail
    go_meet
    exact⟨aN,ta,tc,na,nc,da,dc,rfl,rfl,rfl,hend⟩
   case rest=>
    obtain⟨bt,ta,tc,na,nc,bR,dc,rfl,rfl,rfl,hend⟩:=hcut
    rename World=>w5
    have hb5:=hend.out.2.2;have cb:=iF hend.out.2.1;have HR2:=eZ (HR.out.trans (hb5.mono HR.out.size));clear hend hb5 hc1;go_wp2_with fail
    go_roundw
    case rel=>exact⟨i+1,by go_num,by omega,HR2⟩
    case measure=>simp[intOf];omega
  have g1:¬((i:Int)<3):=by omega
  have HD:=eZ (HQ.out wr (HB2.out.trans (HR.out.mono HB2.out.size)));go_wp2_with fail
  exact HD.out
end
namespace parseBoundsDone
open Go.ChangeShapes Go.WideShapes Go.ChangeAt Go.RowKit
open Go.ChangeMaps (open_string shut_string)
theorem contract(H:Type)(enc:TypeId×Value->H)(W:World)(base:Nat)(args:Array Value)(ds gs:List (DataW H))(before:List MemPlace)
 (hval:∀(j:Nat) t v,Tryz.f5.params[j]?=some t->args[j]?=some v->Value.okWide prog W .any base t v)
 (hW:DataW.Whole enc prog Tryz.f5.params.toList Rows.parseBoundsSpec.vars false W args.toList ds gs before) (hL:laidMetH prog Rows.parseBoundsRow.laid W):
 Calls prog 5 args W λe W'=>∃v,e=.returned v/\Rows.parseBoundsSpec.post enc prog Tryz.f5 false true false false W args v W':=by
 have ae:=hW;obtain⟨p,q,aa,hV,rfl,hfz,hnd⟩:=hW;have hA:DataW.TrodAll enc prog W 0 (λ_=>true) true Tryz.f5.params.toList args.toList ds p:=aa;rw[params5]at hA hval;obtain⟨v0,ag,d0,ds0,p0,q0,hargs,rfl,rfl,h0,r0⟩:=trodAll_cons hA;obtain⟨v1,vs1,d1,ds1,p1,q1,rfl,rfl,rfl,h1,r1⟩:=trodAll_cons r0;obtain⟨rfl,rfl,rfl⟩:=trodAll_nil r1;obtain rfl:args=#[v0,v1]:=by cases args;simp_all
 obtain⟨rfl,rfl⟩:=trodVars_none hV;have k0:=h0;have af:∀x∈p0,x.block<W.heap.size:=by obtain⟨m,hm⟩:=k0;exact DataW.trod_lt m _ _ _ hm
 obtain⟨s0,w0⟩:=He underlying22 underlying3 (by kernel_rfl) (hval 0 22 v0 rfl rfl) h0;obtain⟨a1,rfl,rfl,rfl,w1⟩:=open_int underlying3 (hval 1 3 v1 rfl rfl) h1;clear aa hval;refine(yC v0 s0 a1 W w0 w1 (sF hL)).mono λe W' ⟨he,lu⟩=>?_
 subst he;exact⟨_,rfl,_,_,_,[],_,[],ae,trodAll_mk1 (shut_bool underlying4 _),(trodAll_cons_mk (Below.trod laidOut (by kernel_rfl) (M6 (by kernel_rfl)) k0 lu af) (trodAll_cons_mk (shut_int underlying3 w1) trodAll_mk0)),rfl,lu.frame _,λh=>by cases h⟩
theorem uq(os:Os):laidMet prog Rows.parseBoundsRow.laid ((mf os).forCall (λ_ _=>0) ⟨#[],#[.slice none 0 0,.int .i64 0],[]⟩).memory:=
 laidMet_of_run' 8 (by kernel_rfl) (by kernel_rfl)
theorem reads(os:Os){H:Type}(enc:TypeId×Value->H):∃places,DataW.whole enc prog ((mf os).forCall (λ_ _=>0) ⟨#[],#[.slice none 0 0,.int .i64 0],[]⟩).memory Tryz.f5.params.toList Rows.parseBoundsSpec.vars false (#[.slice none 0 0,.int .i64 0]:Array Value).toList 8=some ([.nil,.lit (.int .i64 0)],[],places):=
 ⟨[],by kernel_rfl⟩
theorem lifted(os:Os)(started:os.Started)(H:Type)(enc:TypeId×Value->H)(F:Stop.Interp):
 ReturnsInHanded {} Tryz.checked os 5 .any ((OpenSpec.ofChange Rows.parseBoundsSpec).preRow enc prog Tryz.f5 Rows.parseBoundsRow.domain false Rows.parseBoundsRow.laid) (((OpenSpec.ofChange Rows.parseBoundsSpec).at F).post enc prog Tryz.f5 false true false false):=by
 obtain⟨places,hx⟩:=reads os enc;refine returnsInHanded_of_row (C:=Tryz.checked) (s:=OpenSpec.ofChange Rows.parseBoundsSpec) own started (by kernel_rfl) func5
  (witness_row_at (enc:=enc) (C:=Tryz.checked) false (mf os) #[.slice none 0 0,.int .i64 0] rfl (by kernel_rfl) (by kernel_rfl) (by kernel_rfl)
   (OpenSpec.preRow_of_cond 8 hx (by kernel_rfl) (λk hk=>by cases hk) (by kernel_rfl) (uq os))) ?_
 intro W base args ds gs before hval hW _ _ _ hL _ _;exact contract H enc W base args ds gs before hval hW hL
theorem said:Rows.ParseBoundsSaid:=
 OpenClaim.holds_of_cond 5 Tryz.f5 rfl rfl rfl rfl rfl rfl rfl ⟨rfl,rfl,rfl,rfl,rfl⟩ rfl rfl rfl rfl rfl (by kernel_rfl) func5 (by kernel_rfl)
  (M6 (by kernel_rfl)) (by unfold Func.isWrapper;first|(rw[eY (by decide+kernel)];kernel_rfl)|(rw[eX (by decide+kernel)];exact⟨rfl,rfl⟩))
  (λos started H enc _ F=>by rw[OpenClaim.pre_eq_preRow];exact lifted os started H enc F)
theorem plain(f:FuncId)(fn:Func)(hf:Tryz.pinned.checked.prog.funcNamed "corrector/correctorlaw12.ParseBounds"=some f)(hfn:Tryz.pinned.checked.prog.funcs[f]?=some fn):
 true=Tryz.pinned.checked.prog.looks []/\∀(j:Nat) t,fn.params[j]?=some t->Tryz.pinned.checked.prog.wantsStandIn t=false:=by
 obtain rfl:f=5:=jl ((show prog.funcNamed "corrector/correctorlaw12.ParseBounds"=some 5 by kernel_rfl).symm.trans hf)|>.symm
 obtain rfl:fn=Tryz.f5:=(jl (func5.symm.trans hfn)).symm;refine⟨by kernel_rfl,λj t ht=>?_⟩;rw[params5]at ht;have hall:([22,3]:List TypeId).all (λu=>!prog.wantsStandIn u)=true:=by kernel_rfl
 have hin:t∈([22,3]:List TypeId):=by simpa using Ve ht
 have h2:prog.wantsStandIn t=false:=by simpa using Rj.1 hall t hin
 exact h2
theorem card:Rows.ParseBoundsCardSaid:=
 Claim7.holds_tied_plain_at .later [] _ _ _ _ said (λ_ h=>by cases h) (by kernel_rfl) (λ_ h=>by cases h) parseBounds_row_tie rfl ⟨rfl,rfl⟩ (by kernel_rfl) rfl plain (by kernel_rfl)
#print axioms card
end parseBoundsDone
end Go.Proofs.YtmkkdjpebbdikaaGreatDoor

import Derived.Test.YtmkkdjpebbdikaaGreatDoorZb35
set_option linter.all false
set_option maxHeartbeats 16000000
set_option maxRecDepth 100000
namespace Go.Proofs.YtmkkdjpebbdikaaGreatDoor
open Go.RowKit Go.Proofs.Tryz
section
open Go.ChangeShapes Go.WideShapes Go.ChangeAt Go.RowKit
theorem laidOut:laidOutB prog=true:=dV
theorem SS{P:Program}{w:World}{base:Nat}{t e:TypeId}{x:Addr}{len cap:Nat}(ht:P.underlying t=some (.slice e))(h:Value.okWide P w .any base t (.slice (some x) len cap)):x.spot=none:=by
 simp only[Value.okWide,ht,Cell.okWide]at h;simp only[Cell.ok,ht]at h;exact h.2.2.2.1
def tK(k:IntKind)(w:World)(v:Value)(l:List Int):Prop:=
 ((v=.slice none 0 0/\l=[])\/∃b off cap,v=.slice (some ⟨b,off,none⟩) l.length cap/\l.length<=cap/\cap<=maxLen/\∀j,j<l.length->w.cell? ⟨b,off+j,none⟩=some (.int k (l.getD j 0)))/\∀n∈l,(Lit.int k n).wf=true
theorem lC{H:Type}{enc:TypeId×Value->H}{w:World}{base:Nat}{t e:TypeId}{k:IntKind}{v:Value}{d:DataW H}{p:List MemPlace}
 (ht:prog.underlying t=some (.slice e)) (he:prog.underlying e=some (.int k)) (hce:prog.cellsOf e=1)
 (hv:Value.okWide prog w .any base t v) (h:DataW.Trod enc prog w 0 (λ_=>true) true t v d p):∃l,tK k w v l:=by
 obtain⟨a,len,cap,rfl⟩:=okWide_slice ht hv;obtain⟨fuel,hf⟩:=h;rcases open_ints ht he hce hf with⟨hcs,_⟩|⟨x,l,c,zs,hcs,_,hl,hm,hz,_,hcell,hwz⟩
 ·simp[Value.cells]at hcs;obtain⟨rfl,rfl,rfl⟩:=hcs;exact⟨[],.inl ⟨rfl,rfl⟩,eG⟩
 ·simp[Value.cells]at hcs;obtain⟨rfl,rfl,rfl⟩:=hcs;have hsp:=SS ht hv;obtain⟨b,off,spot⟩:=x;simp only at hsp;subst hsp;have hzl:zs.length=cap:=by simpa using hz
  have hlen:(zs.take len).length=len:=nX
  refine⟨zs.take len,.inr ⟨b,off,cap,by rw[hlen],by rw[hlen];exact hl,hm,λj hj=>?_⟩,λn hn=>hwz n (Gl hn)⟩;rw[hlen]at hj;have:=hcell j dS;rw[addr_add]at this;rw[this];simp[List.getD,hj]
end
section
open Go.RowKit
theorem tK.shape{k:IntKind}{w:World}{v:Value}{l:List Int}(h:tK k w v l):∃a cap,v=.slice a l.length cap:=by
 rcases h.1 with⟨h1,h2⟩|⟨b,off,cap,h1,_⟩
 ·exact⟨none,0,by rw[h1,h2];rfl⟩
 ·exact⟨_,_,h1⟩
theorem tK.below{k:IntKind}{w w':World}{v:Value}{l:List Int}(h:tK k w v l)(hb:Below w.heap.size w w'):tK k w' v l:=by
 refine⟨?_,h.2⟩;rcases h.1 with h1|⟨b,off,cap,h1,h2,h3,h4⟩
 ·exact .inl h1
 ·refine .inr ⟨b,off,cap,h1,h2,h3,λj hj=>?_⟩;have h5:=h4 j hj;rw[hb.cell (p:=⟨b,off+j,none⟩) (lt_of_cell h5)];exact h5
theorem tK.at_{k:IntKind}{w:World}{a:Option Addr}{l:List Int}{cap j:Nat}(h:tK k w (.slice a l.length cap) l)(hj:j<l.length):
 ∃b off,a=some ⟨b,off,none⟩/\l.length<=cap/\cap<=maxLen/\w.cell? ⟨b,off+j,none⟩=some (.int k (l.getD j 0)):=by
 rcases h.1 with⟨_,hz⟩|⟨b,off,cap',hv,g2,g3,g4⟩
 ·rw[hz]at hj;exact absurd hj (pK _)
 ·obtain⟨rfl,-,rfl⟩:=lX hv;exact⟨b,off,rfl,g2,g3,g4 j hj⟩
theorem tK.len{k:IntKind}{w:World}{v:Value}{l:List Int}(h1:tK k w v l):l.length<=9223372036854775807:=by
 rcases h1.1 with⟨_,hz⟩|⟨_,_,_,_,g2,g3,_⟩
 ·rw[hz];exact fP _
 ·simp only[maxLen]at g3;omega
end
section
open Go.RowKit
open Sg
open Sq
def Yu:List (List UInt8):=[[45,32],[97,58,32],[98,58,32,49],[45,32,99,58,32],[45,32,45,32,100],[116,101,120,116],[91,49,44,32,50,93],[45,32,124],[101,58,32,62],[102,58],[45],[39,113,39,58,32,122],[45,45,45],[46,46,46],[35,32,99],[123,97,58,32],[45,32,53,32,54],[107,58,32,118,58,32,119],[42,120],[38,121,32,122]]
abbrev TA:Array Value:=#[.string ⟨#[45,32]⟩,.string ⟨#[97,58,32]⟩,.string ⟨#[98,58,32,49]⟩,.string ⟨#[45,32,99,58,32]⟩,.string ⟨#[45,32,45,32,100]⟩,.string ⟨#[116,101,120,116]⟩,.string ⟨#[91,49,44,32,50,93]⟩,.string ⟨#[45,32,124]⟩,.string ⟨#[101,58,32,62]⟩,.string ⟨#[102,58]⟩,.string ⟨#[45]⟩,.string ⟨#[39,113,39,58,32,122]⟩,.string ⟨#[45,45,45]⟩,.string ⟨#[46,46,46]⟩,.string ⟨#[35,32,99]⟩,.string ⟨#[123,97,58,32]⟩,.string ⟨#[45,32,53,32,54]⟩,.string ⟨#[107,58,32,118,58,32,119]⟩,.string ⟨#[42,120]⟩,.string ⟨#[38,121,32,122]⟩]
theorem adq:TA=(Yu.map λp=>Value.string ⟨p.toArray⟩).toArray:=rfl
def Plain(l:List UInt8):Prop:=∀c∈l,c<128/\c≠9
theorem WO:∀k:Fin 20,((Yu[k.val]?).map λp=>decide (p.length<=8)&&p.all (λc=>decide (c<128)&&decide (c≠9)))=some true:=gV
theorem agy(k:Nat)(hk:k<20):∃X:ByteArray,X.size<=8/\Plain X.data.toList/\TA[k]?=some (.string X):=by
 have h:=WO ⟨k,hk⟩;simp only at h;cases hp:Yu[k]? with
 |none=>rw[hp]at h;cases h
 |some p=>
  rw[hp,AB]at h;have h:=iG h;rw[rO,LM,IQ]at h;refine⟨⟨p.toArray⟩,by show p.toArray.size<=8;simpa using h.1,λc hc=>?_,?_⟩
  ·have:=h.2 c (by simpa using hc)
   simpa using this
  ·rw[adq,aep,kS,hp];rfl
structure DK(S:ByteArray):Prop where
 plain:Plain S.data.toList
 last:S.data.toList=[]\/∃x,S.data.toList=x++[10]
abbrev Eu:ByteArray:=⟨#[32,32,32,32,32,32,32,32]⟩
theorem WQ(k:Nat)(h:k<=8):∃C:ByteArray,C.size=k/\Plain C.data.toList/\∀W:World,(Instr.slice 9 (.string ⟨#[32,32,32,32,32,32,32,32]⟩) none (some (.int .i64 (k:Int))) none).run prog W=.ok (.string C) W:=by
 have hs:Eu.size=8:=rfl;have hd:(Eu.extract 0 k).data.toList=List.replicate k 32:=by
  rw[akd,akc];show((List.replicate 8 (32:UInt8)).drop 0).take (k-0)=_;rw[lM,Gn,List.take_replicate,IW h]
 refine⟨Eu.extract 0 k,?_,λc hc=>?_,λW=>?_⟩
 ·rw[xw,hs];omega
 ·rw[hd,List.mem_replicate]at hc;rw[hc.2];decide
 ·show(Instr.slice 9 (.string Eu) none (some (.int .i64 (k:Int))) none).run prog W=_;rw[run_slice_string_h W 9 Eu underlying9 .i64 k dS (by rw[hs];omega)];simp
theorem DK.put{S C Y:ByteArray}(h:DK S)(hC:Plain C.data.toList)(hY:Plain Y.data.toList):DK (S++C++Y++⟨#[10]⟩):=by
 have e:(S++C++Y++(⟨#[10]⟩:ByteArray)).data.toList=(S.data.toList++C.data.toList++Y.data.toList)++[10]:=by simp[ByteArray.data_append]
 refine⟨λc hc=>?_,.inr ⟨_,e⟩⟩;rw[e,kC,kC,kC]at hc;rcases hc with((hc|hc)|hc)|hc
 ·exact h.plain c hc
 ·exact hC c hc
 ·exact hY c hc
 ·obtain rfl:=tF.1 hc;decide
def abD(w:World)(e:Ending)(w':World):Prop:=∃v,∃S:ByteArray,e=.returned v/\qR w' v S/\S.size<=600/\DK S/\Below w.heap.size w w'
theorem uG(v0:Value)(l0:List Int)(w:World)(h0:tK .i64 w v0 l0):
 Calls prog 11 #[v0] w (abD w):=by
 obtain⟨Q,hQ⟩:=eu (abD w);rw[hQ];obtain⟨a0,cap0,rfl⟩:=h0.shape;have hl:=h0.len;obtain⟨NL,aa⟩:=eu (l0.length);rw[aa]at hl;obtain⟨H0,HQ,ak⟩:=je h0 hQ aa;clear h0 hQ;rw[aa];clear aa
 go_enter func11,ntmps11
 go_wp2_with fail
 go_loopw [3,4] (λsv iv wr=>∃(k:Nat)(S:ByteArray),iv=.int .i64 k/\k<=30/\sv=.string S/\Hid (S.size<=17*k/\DK S/\Below w.heap.size w wr)) (λ_ iv _=>30-(intOf iv).toNat)
 case atStart=>exact⟨0,⟨#[]⟩,rfl,dS,rfl,dY ⟨fP _,⟨λc hc=>(by cases hc),.inl rfl⟩,fD _ w⟩⟩
 case round=>
  obtain⟨k,S,rfl,hk,rfl,HS⟩:=hrel;by_cases hlt:k<NL/\k<30
  ·obtain⟨hlt1,hlt2⟩:=hlt;have i1:(k:Int)<(NL:Int):=by omega
   have i2:(k:Int)<30:=dS
   obtain⟨nb,no,rfl,q2,q3,hc1⟩:=(H0.out.below HS.out.2.2).at_ (by rw[ak.out];exact hlt1);obtain⟨y,hy⟩:=eu (l0.getD k 0);rw[hy]at hc1;obtain⟨j1,hj1,hw1⟩:=sJ y 7 7 rfl dU dU;obtain⟨y7,av⟩:=eu (IntKind.i64.wrap (y.tdiv 7));obtain⟨j2,hj2,hw2⟩:=sJ y7 20 20 rfl dU dU;obtain⟨C1,ax,ag,ay⟩:=WQ j1 dS;obtain⟨Y,az,ah,ai⟩:=agy j2 hj2;have hsz:=HS.out.1;have n1:¬(9223372036854775807<S.size+C1.size):=dS
   have n2:¬(9223372036854775807<S.size+C1.size+Y.size):=dS
   have n3:¬(9223372036854775807<S.size+C1.size+Y.size+1):=dS
   have i9:(j2:Int)<20:=dS
   have i90:(0:Int)<=(j2:Int):=dS
   obtain⟨WX,ae⟩:=eu ((wr.alloc (.cells TA 9)).drew);have hbX:Below wr.heap.size wr WX:=ae▸((fD _ wr).alloc (eO _) _).drew;obtain⟨BX,af⟩:=eu (wr.heap.size);have xl:WX.cell? ⟨BX,j2,none⟩=some (.string Y):=by
    rw[<-ae,<-af];show(wr.alloc (.cells TA 9)).cell? ⟨wr.heap.size,j2,none⟩=_;rw[akr];exact ai
   have xc:WX.cell? ⟨nb,no+k,none⟩=some (.int .i64 y):=eB hbX hc1;have hfz:(S++C1++Y++(⟨#[10]⟩:ByteArray)).size<=17*(k+1):=by rw[ni,ni,ni];show _+1<=_;omega
   have aj:=dY (show(S++C1++Y++(⟨#[10]⟩:ByteArray)).size<=17*(k+1)/\DK (S++C1++Y++⟨#[10]⟩)/\Below w.heap.size w WX from⟨hfz,HS.out.2.1.put ag ah,HS.out.2.2.trans (hbX.mono HS.out.2.2.size)⟩);obtain⟨HW1,HW2⟩:=fw hw1 hw2;have aA:=dY (show(wr.alloc (.cells #[.string ⟨#[45,32]⟩,.string ⟨#[97,58,32]⟩,.string ⟨#[98,58,32,49]⟩,.string ⟨#[45,32,99,58,32]⟩,.string ⟨#[45,32,45,32,100]⟩,.string ⟨#[116,101,120,116]⟩,.string ⟨#[91,49,44,32,50,93]⟩,.string ⟨#[45,32,124]⟩,.string ⟨#[101,58,32,62]⟩,.string ⟨#[102,58]⟩,.string ⟨#[45]⟩,.string ⟨#[39,113,39,58,32,122]⟩,.string ⟨#[45,45,45]⟩,.string ⟨#[46,46,46]⟩,.string ⟨#[35,32,99]⟩,.string ⟨#[123,97,58,32]⟩,.string ⟨#[45,32,53,32,54]⟩,.string ⟨#[107,58,32,118,58,32,119]⟩,.string ⟨#[42,120]⟩,.string ⟨#[38,121,32,122]⟩] 9)).drew=WX from ae);have aB:=dY af;clear hy hw1 hw2 ag ah ai ae hbX af hfz hsz HS az ax;go_upto_region 5 with fail
   refine fO (λwx=>wx.cell? ⟨nb,no+k,none⟩=some (.int .i64 y)) 19 dV ?_;have hH:(λwx:World=>wx.cell? ⟨nb,no+k,none⟩=some (.int .i64 y)) wr.drew:=eP hc1;refine iE 0 (.string S) hH ?_;refine iE 1 (.slice (some ⟨nb,no,none⟩) NL cap0) hH ?_;refine iE 2 (.int .i64 (k:Int)) hH ?_;refine iE 3 (.pointer (some ⟨nb,no+k,none⟩)) hH ?_;refine iE 4 (.int .i64 y) hH ?_;refine nN (i:=5) (oi:=⟨_,_,_,_,_,_⟩) (v:=.int .i64 (j1:Int)) rfl dV dV dV dV dV (λ_ _ _ h=>h) (Or.inl ⟨rfl,λW hW=>?_⟩) hH ?_
   ·refine lJ.CF (f:=13) (args:=#[.int .i64 y,.int .i64 7]) ?_ ?_
    ·go_simp
    ·exact HW1.out _
   try simp only[Act.put,fG,fB,fC]
   refine iE 6 (.string C1) hH ?_;refine iE 7 (.string (S++C1)) hH ?_;refine iE 9 (.slice (some ⟨nb,no,none⟩) NL cap0) hH ?_;refine iE 10 (.int .i64 (k:Int)) hH ?_;refine iE 11 (.pointer (some ⟨nb,no+k,none⟩)) hH ?_;refine iE 12 (.int .i64 y) hH ?_;refine iE 13 (.int .i64 y7) hH ?_;refine nN (i:=14) (oi:=⟨_,_,_,_,_,_⟩) (v:=.int .i64 (j2:Int)) rfl dV dV dV dV dV (λ_ _ _ h=>h) (Or.inl ⟨rfl,λW hW=>?_⟩) hH ?_
   ·refine lJ.CF (f:=13) (args:=#[.int .i64 y7,.int .i64 20]) ?_ ?_
    ·go_simp
    ·exact HW2.out _
   try simp only[Act.put,fG,fB,fC]
   refine mY 8 λK hK=>?_
   go_simp;rw[aA.out];try rw[aB.out]
   refine hK.out _ _ (λ_=>xc) (λhH2=>?_);clear hK K;replace hH:=hH2 dV;clear hH2;try simp only[Act.put,fG,fB,fC]
   refine iE 15 (.pointer (some ⟨BX,j2,none⟩)) hH ?_;refine mY 16 λK hK=>?_
   go_simp;refine hK.out _ _ (λ_=>xc) (λhH2=>?_);clear hK K;replace hH:=hH2 dV;clear hH2;try simp only[Act.put,fG,fB,fC]
   refine iE 17 (.string (S++C1++Y)) hH ?_;refine iE 18 (.string (S++C1++Y++⟨#[10]⟩)) hH ?_;refine mY 19 λK hK=>?_
   go_simp;refine hK.out _ _ lh (λ_=>?_);clear hK K;try simp only[Act.put,fG,fB,fC]
   refine fJ dV ?_ _;clear xl xc n1 n2 n3 hc1 av;obtain⟨S2,hS2⟩:=eu (S++C1++Y++(⟨#[10]⟩:ByteArray));rw[hS2]at aj⊢;clear hS2;go_wp2_with fail
   go_roundw
   case rel=>exact⟨k+1,S2,fH,dS,rfl,aj⟩
   case measure=>simp[intOf];omega
  ·obtain⟨hsz,hln,hbl⟩:=HS.out;obtain⟨cap0,w3,hcv,hrow,hb3⟩:=Af S wr pg
   have HD:=dY (show Q (.returned (.slice (some ⟨wr.heap.size,0,none⟩) S.size cap0)) w3 by
    rw[<-HQ.out]
    exact⟨_,S,rfl,hrow.bys,dS,hln,hbl.trans (hb3.mono hbl.size)⟩)
   clear HS hsz hln hbl hrow hb3;by_cases hlt1:k<NL
   ·have i1:(k:Int)<(NL:Int):=by omega
    have i2:¬((k:Int)<30):=dS
    clear hlt;go_wp2_with fail
    exact HD.out
   ·have i1:¬((k:Int)<(NL:Int)):=by omega
    clear hlt;go_wp2_with fail
    exact HD.out
end
end Go.Proofs.YtmkkdjpebbdikaaGreatDoor

import Derived.Test.YtmkkdjpebbdikaaGreatDoorZb22
import Derived.Test.YtmkkdjpebbdikaaGreatDoorZb24
set_option linter.all false
set_option maxHeartbeats 16000000
set_option maxRecDepth 100000
namespace Go.Proofs.YtmkkdjpebbdikaaGreatDoor
open Go.RowKit Tryz
section
open Go.RowKit
open Sq
open Ar
def yC(st:List Pr.Lv):Prop:=∃pre D,st=pre++[D]/\D.eT=-1
theorem yC.last{st pre:List Pr.Lv}{h:Pr.Lv}(hb:yC st)(e:st=pre++[h]):h.eT=-1:=by
 obtain⟨p2,D,e2,hc⟩:=hb;have:=List.append_inj_right' (e.symm.trans e2) rfl;injection this with e3 _
 rw[e3];exact hc
section
variable {w0 w:World}{rb:Nat}{c:Ctx}{q:Pr.QS}{lv:Value}{R:Nat->Prop}{h:Pr.Lv}{r pre:List Pr.Lv}
theorem fF.Mj{gl n cap:Nat}(hS:fF w0 w rb c q (.slice (some ⟨gl,0,none⟩) n cap) R)(hst:q.st=pre++h::r):∀j u,(oh h)[j]?=some u->w.cell? ⟨gl,r.length*5+j,none⟩=some u:=λj u hu=>by
 have hl:=hS.lev.1;have hj:j<5:=(eY.1 hu).1
 have hh:q.st.reverse[r.length]?=some h:=by
  rw[hst,akl,O1,pI,oH eG,IV,si];rfl
 have:=hl.cells (g:=gl) rfl _ _ ((iJ qK _ r.length h hh j hj).trans hu);rw[fT,jY]at this;exact this
theorem fF.ajv{gl n cap:Nat}(hS:fF w0 w rb c q (.slice (some ⟨gl,0,none⟩) n cap) R)(hst:q.st=pre++h::r):
 ∃R',fF w0 (w.setCell ⟨rb,8,none⟩ (.slice (some ⟨gl,0,none⟩) (r.length+1) cap)) rb c {q with st:=h::r} (.slice (some ⟨gl,0,none⟩) (r.length+1) cap) R'/\FP w (w.setCell ⟨rb,8,none⟩ (.slice (some ⟨gl,0,none⟩) (r.length+1) cap)) rb R R':=by
 obtain⟨nv,dv,L,hM,hL,hTr,rfl⟩:=hS;have hlen:r.length+1<=q.st.reverse.length:=by rw[hst,IV,iK,iR];omega
 have htk:q.st.reverse.take (r.length+1)=(h::r).reverse:=by
  rw[hst,akl,List.take_left' eG]
 have hown:=FL (E:=qK) hM.levels hlen;rw[htk]at hown;refine⟨_,⟨nv,dv,L,PM.toCell (C:=jR c nv dv (.slice (some ⟨gl,0,none⟩) n cap) q.row q.en) hM.kL hM.ctx hM.low hM.box rfl hM.nodes hM.told hown,hL,hTr,rfl⟩,?_,λk h1 h2 h3=>jo _ _ _ _ h2,λk hk=>?_⟩
 ·have:(w.setCell ⟨rb,8,none⟩ (.slice (some ⟨gl,0,none⟩) (r.length+1) cap)).heap.size=w.heap.size:=by simp
  omega
 ·rcases hk with hk|hk|hk|hk
  ·exact wH
  ·exact yV
  ·exact .inl (.inr (.inr (.inl hk)))
  ·exact Ec
end
def xQ(k:Nat):Int:=if k=0 then -1 else(k:Int)
def Yq(rb:Nat)(e:Rw.E)(be kd m:Nat)(a:Act):Prop:=a.defers=[]/\a.tmps.size=113/\a.tmps.getD 0 undef=RP rb/\a.tmps.getD 1 undef=I4 e/\a.tmps.getD 2 undef=undef/\a.tmps.getD 3 undef=.pointer (some ⟨be,0,none⟩)/\a.tmps.getD 4 undef=.int .i64 0/\a.tmps.getD 5 undef=.int .i64 kd/\a.tmps.getD 6 undef=.int .i64 m
theorem Yq.is{rb:Nat}{e:Rw.E}{be kd m:Nat}{a:Act}(hl:Yq rb e be kd m a):∃u:Nat->Value,a={tmps:=#[RP rb,I4 e,undef,.pointer (some ⟨be,0,none⟩),.int .i64 0,.int .i64 kd,.int .i64 m,u 7,u 8,u 9,u 10,u 11,u 12,u 13,u 14,u 15,u 16,u 17,u 18,u 19,u 20,u 21,u 22,u 23,u 24,u 25,u 26,u 27,u 28,u 29,u 30,u 31,u 32,u 33,u 34,u 35,u 36,u 37,u 38,u 39,u 40,u 41,u 42,u 43,u 44,u 45,u 46,u 47,u 48,u 49,u 50,u 51,u 52,u 53,u 54,u 55,u 56,u 57,u 58,u 59,u 60,u 61,u 62,u 63,u 64,u 65,u 66,u 67,u 68,u 69,u 70,u 71,u 72,u 73,u 74,u 75,u 76,u 77,u 78,u 79,u 80,u 81,u 82,u 83,u 84,u 85,u 86,u 87,u 88,u 89,u 90,u 91,u 92,u 93,u 94,u 95,u 96,u 97,u 98,u 99,u 100,u 101,u 102,u 103,u 104,u 105,u 106,u 107,u 108,u 109,u 110,u 111,u 112],defers:=[]}:=by
 obtain⟨t,df⟩:=a;obtain⟨h1,h2,g0,g1,g2,g3,g4,g5,g6⟩:=hl;dsimp only at h1 h2 g0 g1 g2 g3 g4 g5 g6;subst h1;refine⟨λk=>t.getD k undef,?_⟩;have h3:=CZ t 113 h2;have h4:(List.range 113).map (λk=>t.getD k undef)=[t.getD 0 undef,t.getD 1 undef,t.getD 2 undef,t.getD 3 undef,t.getD 4 undef,t.getD 5 undef,t.getD 6 undef,t.getD 7 undef,t.getD 8 undef,t.getD 9 undef,t.getD 10 undef,t.getD 11 undef,t.getD 12 undef,t.getD 13 undef,t.getD 14 undef,t.getD 15 undef,t.getD 16 undef,t.getD 17 undef,t.getD 18 undef,t.getD 19 undef,t.getD 20 undef,t.getD 21 undef,t.getD 22 undef,t.getD 23 undef,t.getD 24 undef,t.getD 25 undef,t.getD 26 undef,t.getD 27 undef,t.getD 28 undef,t.getD 29 undef,t.getD 30 undef,t.getD 31 undef,t.getD 32 undef,t.getD 33 undef,t.getD 34 undef,t.getD 35 undef,t.getD 36 undef,t.getD 37 undef,t.getD 38 undef,t.getD 39 undef,t.getD 40 undef,t.getD 41 undef,t.getD 42 undef,t.getD 43 undef,t.getD 44 undef,t.getD 45 undef,t.getD 46 undef,t.getD 47 undef,t.getD 48 undef,t.getD 49 undef,t.getD 50 undef,t.getD 51 undef,t.getD 52 undef,t.getD 53 undef,t.getD 54 undef,t.getD 55 undef,t.getD 56 undef,t.getD 57 undef,t.getD 58 undef,t.getD 59 undef,t.getD 60 undef,t.getD 61 undef,t.getD 62 undef,t.getD 63 undef,t.getD 64 undef,t.getD 65 undef,t.getD 66 undef,t.getD 67 undef,t.getD 68 undef,t.getD 69 undef,t.getD 70 undef,t.getD 71 undef,t.getD 72 undef,t.getD 73 undef,t.getD 74 undef,t.getD 75 undef,t.getD 76 undef,t.getD 77 undef,t.getD 78 undef,t.getD 79 undef,t.getD 80 undef,t.getD 81 undef,t.getD 82 undef,t.getD 83 undef,t.getD 84 undef,t.getD 85 undef,t.getD 86 undef,t.getD 87 undef,t.getD 88 undef,t.getD 89 undef,t.getD 90 undef,t.getD 91 undef,t.getD 92 undef,t.getD 93 undef,t.getD 94 undef,t.getD 95 undef,t.getD 96 undef,t.getD 97 undef,t.getD 98 undef,t.getD 99 undef,t.getD 100 undef,t.getD 101 undef,t.getD 102 undef,t.getD 103 undef,t.getD 104 undef,t.getD 105 undef,t.getD 106 undef,t.getD 107 undef,t.getD 108 undef,t.getD 109 undef,t.getD 110 undef,t.getD 111 undef,t.getD 112 undef]:=rfl;rw[h4,g0,g1,g2,g3,g4,g5,g6]at h3;exact congrArg (λt=>({tmps:=t,defers:=[]}:Act)) h3
theorem ajw(w0 w:World)(rb:Nat)(c:Ctx)(q:Pr.QS)(lv:Value)(R:Nat->Prop)(e:Rw.E)(hS:fF w0 w rb c q lv R)(hok:Pr.pP q)(az:yC q.st)(h0:0<=e.eT)(h1:e.from'<e.bu)(h2:e.bu<=c.l.length)(hcn:Fl.cnt (Fl.raw c.l e.from')=true)(hn:q.s.t.length<=700000000000)(hsl:q.st.length<=1000000)(hd:c.depth<=1000000):
 Calls prog 65 #[RP rb,I4 e] w (tV w0 w rb c R (.int .i64 (xQ (Pr.place c.l c.depth q e).1)) (Pr.place c.l c.depth q e).2):=by
 obtain⟨ed,ec,F,T⟩:=e;dsimp only at h0 h1 h2 hcn;obtain⟨e,he⟩:∃e:Rw.E,(⟨ed,ec,F,T⟩:Rw.E)=e:=⟨_,rfl⟩
 rw[he];have aQ:e.eT=ec:=by rw[<-he]
 have av:(.agg #[.bool ed,.int .i64 ec,.int .i64 (F:Int),.int .i64 (T:Int)]:Value)=I4 e:=by rw[<-he]
 obtain⟨K,hK⟩:=eu (Pr.nS c.depth q.st.length e q.st);unfold Pr.place;rw[hK];obtain⟨Q,hQ⟩:=eu (tV w0 w rb c R (.int .i64 (xQ (Pr.act c.l q e K).1)) (Pr.act c.l q e K).2);rw[hQ];obtain⟨wb,hwb⟩:=eu (w.alloc (.cells #[.bool ed,.int .i64 ec,.int .i64 (F:Int),.int .i64 (T:Int)] 97));obtain⟨be,hbe⟩:=eu (w.heap.size);have hbw:Below w.heap.size w wb:=hwb▸dZ w _;have kb:wb.heap[be]?=some (.cells #[.bool ed,.int .i64 ec,.int .i64 (F:Int),.int .i64 (T:Int)] 97 (0,0)):=Qc
 obtain⟨hd0,ai,af⟩:∃hd0 ai,q.st=hd0::ai:=by
  obtain⟨pre,D,e1,_⟩:=az;cases pre with
  |nil=>exact⟨_,_,e1⟩
  |cons x y=>exact⟨_,_,e1⟩
 obtain⟨gl,cap,rfl,-,-,-,-⟩:=hS.top af;obtain⟨m0,hm0⟩:=eu (ai.length);rw[hm0]at hS;have hsl0:q.st.length=m0+1:=by rw[af,iR,hm0]
 have hcp:m0+1<=cap/\cap<=9223372036854775807:=by
  have:=uW hS.lev.1;have h3:=this.2.2;simp only[maxLen]at h3;omega
 have aR:=λW (hW:Below w.heap.size w W)=>(hS.below hW).lev
 have aS:=λW (hW:Below w.heap.size w W) pre h r (e:q.st=pre++h::r)=>(hS.below hW).Mj e
 obtain⟨D,hD⟩:=eu (c.depth);have aT:∀W,Below w.heap.size w W->W.cell? ⟨rb,3,none⟩=some (.int .i64 (D:Int)):=λW hW=>by
  obtain⟨nv,dv,L,h1,h2⟩:=hS.below hW;rw[<-hD];exact bx3 h1.box
 have aY:=dY aT;have Vn:=dY (λW (hW:Below w.heap.size w W)=>hS.below hW);have ax:∀W h r pre,Below w.heap.size w W->q.st=pre++h::r->K=(0,h::r)->∃R1,Below w0.heap.size w0 W/\fF w0 (W.setCell ⟨rb,8,none⟩ (.slice (some ⟨gl,0,none⟩) (r.length+1) cap)) rb c {q with st:=h::r} (.slice (some ⟨gl,0,none⟩) (r.length+1) cap) R1/\FP W (W.setCell ⟨rb,8,none⟩ (.slice (some ⟨gl,0,none⟩) (r.length+1) cap)) rb R R1/\
  ∀W2,Below (W.setCell ⟨rb,8,none⟩ (.slice (some ⟨gl,0,none⟩) (r.length+1) cap)).heap.size (W.setCell ⟨rb,8,none⟩ (.slice (some ⟨gl,0,none⟩) (r.length+1) cap)) W2->Calls prog 102 #[RP rb,.agg #[.bool ed,.int .i64 ec,.int .i64 (F:Int),.int .i64 (T:Int)]] W2 λe' w'=>e'=.returned (.tuple #[])/\Q (.returned (.int .i64 (-1))) w':=λW h r pre hW hst hk=>by
  obtain⟨R1,hS1,hF1⟩:=(hS.below hW).ajv hst;refine⟨R1,(hS.below hW).kL,hS1,hF1,λW2 hW2=>?_⟩;have hln:r.length<=1000000:=by
   have:=congrArg List.length hst;rw[iK,iR]at this;omega
  rw[av];refine(UC w0 W2 rb c {q with st:=h::r} _ R1 h r e (hS1.below hW2) rfl (hok.lv h yS).1 (by rw[<-he];exact h1) (by rw[<-he];exact h2) (by rw[<-he];exact hcn) Qa hln).mono ?_;rintro e' w' ⟨rfl,R2,hS2,hF2⟩;refine⟨rfl,?_⟩;rw[<-hQ,hk];exact⟨rfl,_,R2,hS2,(FP.below hW).trans (hF1.trans ((FP.below hW2).trans hF2))⟩
 have aK:∀W code,Below w.heap.size w W->K=(code+2,[])->Q (.returned (.int .i64 ((code+2:Nat):Int))) W:=λW code hW hk=>by
  rw[<-hQ,hk];refine⟨?_,_,R,hS.below hW,FP.below hW⟩;unfold xQ;rw[dW (by show¬code+2=0;omega)];rfl
 have aA:∀W,Below w.heap.size w W->K=(1,[])->Calls prog 103 #[RP rb,.int .i64 (Ps.kindOf e:Nat),.agg #[.bool ed,.int .i64 ec,.int .i64 (F:Int),.int .i64 (T:Int)]] W λe1 w1=>e1=.returned (.tuple #[])/\(∀(k:Nat)(C:Array Value)(T:TypeId)(fr:Nat×Nat),W.heap[k]?=some (.cells C T fr)->3≠T->38≠T->40≠T->91≠T->58≠T->w1.heap[k]?=some (.cells C T fr))/\
  Calls prog 102 #[RP rb,.agg #[.bool ed,.int .i64 ec,.int .i64 (F:Int),.int .i64 (T:Int)]] w1 λe' w'=>e'=.returned (.tuple #[])/\Q (.returned (.int .i64 (-1))) w':=λW hW hk=>by
  have hS':=hS.below hW;have hl0:=hok.lv hd0 (by rw[af];simp);rw[av];refine(Ws w0 W rb c q _ R hd0 ai (Ps.kindOf e) e hS' af hl0.2 dS dS).mono ?_;rintro e1 w1 ⟨rfl,aZ,R1,hS1,hF1⟩;refine⟨rfl,λk C T fr hk2 t1 t2 t3 t4 t5=>hS'.boxed hF1 hk2 t5 t1 t2 t3 t4,?_⟩;refine(UC w0 w1 rb c _ aZ R1 _ _ e hS1 rfl (by show q.s.t.length<(Pr.add _ _ _ _ _).length;rw[Pr.jG];omega) (by rw[<-he];exact h1) (by rw[<-he];exact h2) (by rw[<-he];exact hcn) (by show(Pr.add _ _ _ _ _).length<=_;rw[Pr.jG];omega) (by rw[iR];omega)).mono ?_;rintro e' w' ⟨rfl,R2,hS2,hF2⟩;refine⟨rfl,?_⟩;rw[<-hQ,hk];have ha:Pr.act c.l q e (1,[])=(0,Pr.fresh c.l q e hd0 ai):=by
   show(match q.st with|h::r=>(0,Pr.fresh c.l q e h r)|[]=>(0,q))=_;rw[af]
  rw[ha];exact⟨rfl,_,R2,hS2,(FP.below hW).trans (hF1.trans hF2)⟩
 have hkd:∀W,Calls prog 101 #[.agg #[.bool ed,.int .i64 ec,.int .i64 (F:Int),.int .i64 (T:Int)]] W λr w'=>r=.returned (.int .i64 (Ps.kindOf e:Nat))/\Below W.heap.size W w':=λW=>by rw[av];exact afT W e
 obtain⟨kd,hkk⟩:=eu (Ps.kindOf e);rw[hkk]at hkd aA;rw[hD]at hd hK;obtain⟨aa,rR,mE,I8,L6,aM⟩:=kG ax aK aA aR aS hwb;obtain⟨aU,aB,aN,aV,Py⟩:=vV hbe kb hbw az hK;have aL:=dY (show q.st=[]++hd0::ai from af);obtain⟨bf,aO,I7,bg,bn⟩:=vV hm0 hsl0 hkd hkk aQ;have bq:=dY (show I4 e=I4 ⟨ed,ec,F,T⟩by rw[he]);have GN:=dY hcp;have bB:m0<=1000000:=dS
 clear ax aK aA aR aS hwb hbe kb hbw az hK af hm0 hsl0 hkd hkk hQ hS hok h1 h2 hcn hn aT hsl hD av he aQ hcp;rw[bq.out]
 go_enter func65,ntmps65
 go_wp2;refine sV 0 (λa' W=>∃(h:Pr.Lv)(r pre:List Pr.Lv),Yq rb ⟨ed,ec,F,T⟩ be kd r.length a'/\Hid (Below w.heap.size w W/\W.heap[be]?=some (.cells #[.bool ed,.int .i64 ec,.int .i64 (F:Int),.int .i64 (T:Int)] 97 (0,0))/\q.st=pre++h::r/\Pr.nS D q.st.length e (h::r)=K)) (λa' _=>(intOf (a'.tmps.getD 6 undef)).toNat) rfl ?_ ?_
 ·rintro a' W ⟨h,r,pre,hlive,HJ⟩;obtain⟨u,rfl⟩:=hlive.is;clear hlive I7 aN aB aM aU;obtain⟨hW,ag,hst,hsk⟩:=HJ.out;have cl:=L6.out W hW pre h r hst;have c8:=(I8.out W hW).2.1;have hrl:r.length<m0+1:=by
   have:=congrArg List.length hst;rw[iK,iR,aO.out]at this;omega
  have hne:0<=h.eT->∃h2 r2,r=h2::r2:=λhc=>by
   cases r with
   |nil=>have:=aV.out.last hst;omega
   |cons x y=>exact⟨x,y,rfl⟩
  obtain⟨hk,hnn,hc,aC,hf⟩:=h;dsimp only at hne;have l0:W.cell? ⟨gl,r.length*5,none⟩=some (.int .i64 (hk:Int)):=cl 0 _ rfl;have l1:W.cell? ⟨gl,r.length*5+1,none⟩=some (.int .i64 (hnn:Int)):=cl 1 _ rfl;have l2:W.cell? ⟨gl,r.length*5+2,none⟩=some (.int .i64 hc):=cl 2 _ rfl;have l3:W.cell? ⟨gl,r.length*5+3,none⟩=some (.int .i64 (aC:Int)):=cl 3 _ rfl;have l4:W.cell? ⟨gl,r.length*5+4,none⟩=some (.bool hf):=cl 4 _ rfl;obtain⟨m,hm⟩:=eu (r.length);rw[hm]at l0 l1 l2 l3 l4 hrl⊢;obtain⟨bh,aP⟩:=eu (W.heap.size);obtain⟨W1,hW1⟩:=eu (W.alloc (.cells #[.int .i64 (hk:Int),.int .i64 (hnn:Int),.int .i64 hc,.int .i64 (aC:Int),.bool hf] 91));have kh:W1.heap[bh]?=some (.cells #[.int .i64 (hk:Int),.int .i64 (hnn:Int),.int .i64 hc,.int .i64 (aC:Int),.bool hf] 91 (0,0)):=by rw[<-hW1,<-aP];exact lz _ _
  have Gc:Below W.heap.size W W1:=hW1▸dZ W _;have aD:Below w.heap.size w W1:=eD hW Gc;have ay:W1.heap[be]?=some (.cells #[.bool ed,.int .i64 ec,.int .i64 (F:Int),.int .i64 (T:Int)] 97 (0,0)):=(Gc.block be (gK ag)).trans ag;have b0:W1.cell? ⟨be,0,none⟩=some (.bool ed):=(fq ay 0).trans rfl;have b1:W1.cell? ⟨be,1,none⟩=some (.int .i64 ec):=(fq ay 1).trans rfl;have b2:W1.cell? ⟨be,2,none⟩=some (.int .i64 (F:Int)):=(fq ay 2).trans rfl;have b3:W1.cell? ⟨be,3,none⟩=some (.int .i64 (T:Int)):=(fq ay 3).trans rfl;have y0:W1.cell? ⟨bh,0,none⟩=some (.int .i64 (hk:Int)):=(fq kh 0).trans rfl;have y2:W1.cell? ⟨bh,2,none⟩=some (.int .i64 hc):=(fq kh 2).trans rfl;have y4:W1.cell? ⟨bh,4,none⟩=some (.bool hf):=(fq kh 4).trans rfl;have d8:=(I8.out W1 aD).2.1;have f8:=(I8.out W1 aD).2.2.1 8;have d3:=aY.out W1 aD;have bD:(m:Int)<(m0:Int)+1:=dS
  obtain⟨HW1,I9,TD,L8,aj,ak⟩:=kG hW1 aP aD ay hst hm;rw[Pr.nS]at hsk;dsimp only at hsk;rw[bn.out,bg.out]at hsk;clear hW ag HJ cl hst hW1 aP kh Gc aD ay hm;have Cx:=dY hne;clear hne;by_cases hce:hc=ec
  ·subst hce;have Cx:=dY (Cx.out h0);by_cases hkk:hk=kd
   ·subst hkk;rw[dX ⟨rfl,rfl⟩]at hsk;obtain⟨R1,hb1,hS1,hF1,aJ⟩:=aa.out W1 _ r pre TD.out aj.out hsk.symm;rw[ak.out]at hS1 hF1 aJ;obtain⟨W2,hW2⟩:=eu (W1.setCell ⟨rb,8,none⟩ (.slice (some ⟨gl,0,none⟩) (m+1) cap));rw[hW2]at hS1 hF1 aJ;have aF:=(show fF w0 W1 rb c q _ R from Vn.out W1 TD.out).boxed hF1 L8.out dU dU dU dU dU;have bE:m+1<=cap:=by have:=GN.out;omega
    have e0:W2.cell? ⟨be,0,none⟩=some (.bool ed):=(fq aF 0).trans rfl;have e1:W2.cell? ⟨be,1,none⟩=some (.int .i64 hc):=(fq aF 1).trans rfl;have e2:W2.cell? ⟨be,2,none⟩=some (.int .i64 (F:Int)):=(fq aF 2).trans rfl;have e3:W2.cell? ⟨be,3,none⟩=some (.int .i64 (T:Int)):=(fq aF 3).trans rfl;have yN:=dY (aJ W2 (fD _ W2));have HW2:=dY hW2;clear hsk hb1 hS1 hF1 aJ hW2 aF aa rR mE L6 I8 Cx;go_upto_region 4 with fail
    rw[HW1.out,I9.out];clear HW1 I9;go_upto_region 7 with fail
    rw[HW2.out];clear HW2;go_wp2_with fail
    exact QN
   have bF:((hk:Int)==(kd:Int))=false:=eQ
   rw[dW (by rintro⟨_,h⟩;exact hkk h)]at hsk;obtain⟨h2,r2,hr⟩:=Cx.out;have hn2:Pr.Yh r=h2.eT:=by rw[hr];rfl
   have ah:q.st=(pre++[⟨hk,hnn,hc,aC,hf⟩])++h2::r2:=by rw[pI,aj.out,hr];rfl
   have x2:W1.cell? ⟨gl,r2.length*5+2,none⟩=some (.int .i64 h2.eT):=L6.out W1 TD.out _ h2 r2 ah 2 _ rfl;have hm2:m=r2.length+1:=by rw[<-ak.out,hr];rfl
   rw[hn2]at hsk;obtain⟨m2,hmm⟩:=eu (r2.length);rw[hmm]at x2 hm2;obtain⟨nc,hnc⟩:=eu (h2.eT);rw[hnc]at x2 hsk;have bz:IntKind.i64.wrap ((m:Int)-1)=(m2:Int):=YV
   have bA:wrap64 ((m:Int)-1)=(m2:Int):=YW
   have bG:(m2:Int)<(m0:Int)+1:=dS
   by_cases hx:nc=hc
   ·rw[dX (.inr ⟨rfl,hx⟩),hr]at hsk;subst hx;have HJ:=dY (λn=>show Below w.heap.size w (W1.drewN n)/\(W1.drewN n).heap[be]?=_/\q.st=_/\_ from⟨mF TD.out n,L8.out,ah,hsk⟩);have aG:=dY hmm;have aW:m2<m:=by omega
    clear hsk ah hr hn2 hm2 hkk hnc aa rR mE L6 I8 Cx aj ak hmm;go_upto_region 4 with fail
    rw[HW1.out,I9.out];clear HW1 I9;go_upto_region 10 with fail
    go_big_quiet (fail)
    go_wp2_with fail
    go_step3
    refine⟨rfl,⟨h2,r2,_,?_,dY (HJ.out nq)⟩,?_⟩
    ·rw[aG.out];exact⟨rfl,rfl,rfl,rfl,rfl,rfl,rfl,rfl,rfl⟩
    ·show((m2:Nat):Int).toNat<((m:Nat):Int).toNat
     omega
   have bH:((nc:Int)==hc)=false:=eQ
   rw[dW (by rintro(h|⟨_,h⟩)<;>omega)]at hsk;clear hx ah hr hn2 hm2 hkk hnc aa L6 Cx aj ak hmm;by_cases aH:hf=true
   ·subst aH;rw[dX ⟨rfl,.inl rfl⟩]at hsk;have HD:=dY (λn=>rR.out (W1.drewN n) 3 (mF TD.out n) hsk.symm);clear hsk rR mE I8;go_upto_region 4 with fail
    exact JV
   obtain rfl:hf=false:=by cases hf<;>simp_all
   by_cases h3:hk=3
   ·rw[dX ⟨rfl,.inr h3⟩]at hsk;have g3:((hk:Int)==3)=true:=by simp[h3]
    have HD:=dY (λn=>rR.out (W1.drewN n) 3 (mF TD.out n) hsk.symm);clear hsk rR mE I8 h3;go_upto_region 4 with fail
    exact JV
   have g3:((hk:Int)==3)=false:=eQ
   rw[dW (by rintro⟨_,h|h⟩;exact absurd h dU;exact h3 h),dW (by rintro⟨h,_⟩;exact absurd h dU),dW dU]at hsk;clear h3 aH;rw[aO.out]at hsk;by_cases hdp:D<m0+1
   ·exact ZY
   ·rw[dW hdp]at hsk;have n1:decide ((D:Int)<(m0:Int)+1)=false:=ic dS;have HD:=dY (λn=>mE.out (W1.drewN n) (mF TD.out n) hsk.symm);clear hsk rR mE I8 hdp;go_upto_region 4 with fail
    rw[HW1.out,I9.out];clear HW1 I9;go_upto_region 10 with fail
    go_big_quiet (fail)
    go_upto_region 18 with fail
    go_big_quiet (fail)
    go_wp2_with fail
    refine(HD.out _).mono ?_;rintro e1 w1 ⟨rfl,hkeep,hen⟩;have ae:=hkeep be _ _ _ L8.out dU dU dU dU dU;have e0:w1.cell? ⟨be,0,none⟩=some (.bool ed):=(fq ae 0).trans rfl;have e1:w1.cell? ⟨be,1,none⟩=some (.int .i64 hc):=(fq ae 1).trans rfl;have e2:w1.cell? ⟨be,2,none⟩=some (.int .i64 (F:Int)):=(fq ae 2).trans rfl;have e3:w1.cell? ⟨be,3,none⟩=some (.int .i64 (T:Int)):=(fq ae 3).trans rfl;have yN:=dY hen;clear hkeep ae hen HD;go_wp2_with fail
    exact QN
  have bI:(hc==ec)=false:=eQ
  rw[dW (by rintro⟨h,_⟩;exact hce h)]at hsk;by_cases hgt:ec<hc
  ·obtain⟨h2,r2,hr⟩:=Cx.out dS;have ah:q.st=(pre++[⟨hk,hnn,hc,aC,hf⟩])++h2::r2:=by rw[pI,aj.out,hr];rfl
   have hm2:m=r2.length+1:=by rw[<-ak.out,hr];rfl
   obtain⟨m2,hmm⟩:=eu (r2.length);rw[hmm]at hm2;have bz:IntKind.i64.wrap ((m:Int)-1)=(m2:Int):=YV
   have bA:wrap64 ((m:Int)-1)=(m2:Int):=YW
   rw[dX (.inl hgt),hr]at hsk;have HJ:=dY (show Below w.heap.size w W1/\W1.heap[be]?=_/\q.st=_/\_ from⟨TD.out,L8.out,ah,hsk⟩);have aG:=dY hmm;have aW:m2<m:=dS
   clear hsk ah hr hm2 hce aa rR mE L6 I8 Cx aj ak hmm;go_upto_region 4 with fail
   rw[HW1.out,I9.out];clear HW1 I9;go_wp2_with fail
   go_step3
   refine⟨rfl,⟨h2,r2,_,?_,HJ⟩,?_⟩
   ·rw[aG.out];exact⟨rfl,rfl,rfl,rfl,rfl,rfl,rfl,rfl,rfl⟩
   ·show((m2:Nat):Int).toNat<((m:Nat):Int).toNat
    omega
  have bJ:¬ec<hc:=hgt
  rw[dW (by rintro(h|⟨h,_⟩);exact hgt h;exact hce h),dW (by rintro⟨h,_⟩;exact hce h)]at hsk;clear hgt hce Cx aa L6 aj ak;by_cases aH:hf=true
  ·subst aH;by_cases h2':hk=2
   ·rw[dX ⟨rfl,h2'⟩]at hsk;have g2:((hk:Int)==2)=true:=by simp[h2']
    have HD:=dY (λn=>rR.out (W1.drewN n) 5 (mF TD.out n) hsk.symm);clear hsk rR mE I8 h2';go_upto_region 4 with fail
    exact JV
   ·rw[dW (by rintro⟨_,h⟩;exact h2' h),dX rfl]at hsk;have g2:((hk:Int)==2)=false:=by simp;omega
    have HD:=dY (λn=>rR.out (W1.drewN n) 4 (mF TD.out n) hsk.symm);clear hsk rR mE I8 h2';go_upto_region 4 with fail
    exact JV
  obtain rfl:hf=false:=by cases hf<;>simp_all
  rw[dW (by rintro⟨h,_⟩;exact absurd h dU),dW dU]at hsk;clear aH;rw[aO.out]at hsk;by_cases hdp:D<m0+1
  ·exact ZY
  ·rw[dW hdp]at hsk;have n1:decide ((D:Int)<(m0:Int)+1)=false:=ic dS;have HD:=dY (λn=>mE.out (W1.drewN n) (mF TD.out n) hsk.symm);clear hsk rR mE I8 hdp;go_upto_region 4 with fail
   rw[HW1.out,I9.out];clear HW1 I9;go_upto_region 10 with fail
   go_big_quiet (fail)
   go_upto_region 18 with fail
   go_big_quiet (fail)
   go_wp2_with fail
   refine(HD.out _).mono ?_;rintro e1 w1 ⟨rfl,hkeep,hen⟩;have ae:=hkeep be _ _ _ L8.out dU dU dU dU dU;have e0:w1.cell? ⟨be,0,none⟩=some (.bool ed):=(fq ae 0).trans rfl;have e1:w1.cell? ⟨be,1,none⟩=some (.int .i64 ec):=(fq ae 1).trans rfl;have e2:w1.cell? ⟨be,2,none⟩=some (.int .i64 (F:Int)):=(fq ae 2).trans rfl;have e3:w1.cell? ⟨be,3,none⟩=some (.int .i64 (T:Int)):=(fq ae 3).trans rfl;have yN:=dY hen;clear hkeep ae hen HD;go_wp2_with fail
   exact QN
 ·intro aI;go_upto_region 1 with fail
  rw[aM.out,aU.out];have ag:=aB.out;have b0:wb.cell? ⟨be,0,none⟩=some (.bool ed):=(fq ag 0).trans rfl;have b1:wb.cell? ⟨be,1,none⟩=some (.int .i64 ec):=(fq ag 1).trans rfl;have b2:wb.cell? ⟨be,2,none⟩=some (.int .i64 (F:Int)):=(fq ag 2).trans rfl;have b3:wb.cell? ⟨be,3,none⟩=some (.int .i64 (T:Int)):=(fq ag 3).trans rfl;have HP:=dY aI;have aX:=ag;have bC:=dY ag;clear ag aI aM aX;go_wp2_with fail
  refine(I7.out _).mono ?_;rintro e' w1 ⟨rfl,hb⟩;have hW1:=eD aN.out hb;have ae:=(hb.block be (gK aB.out)).trans aB.out;have c8:=(I8.out w1 hW1).2.1;have gw:wrap64 ((m0:Int)+1-1)=(m0:Int):=by rw[show(m0:Int)+1-1=(m0:Int)by omega];exact AF _ dS
  have bK:wrap64 (m0:Int)=(m0:Int):=AF _ dS;have HJ:=dY (show Below w.heap.size w w1/\w1.heap[be]?=_/\q.st=[]++hd0::ai/\Pr.nS D q.st.length e (hd0::ai)=K from⟨hW1,ae,aL.out,by rw[<-Py.out,aL.out];rfl⟩);clear hb hW1 ae aB aN b0 b1 b2 b3;go_wp2_with fail
  go_step3
  rename_i K' hK';refine hK' _ _ (HP.out _ _ ⟨hd0,ai,[],?_,HJ⟩);rw[bf.out];exact⟨rfl,rfl,rfl,rfl,rfl,rfl,rfl,rfl,rfl⟩
end
section
open Go.RowKit
open Sq
open Ar
section
variable {w w':World}{B:Nat}{v:Value}{P L:List Ln}
theorem VT.set{g n cap:Nat}(h:VT w B (.slice (some ⟨g,0,none⟩) n cap) P L)(i j:Nat)(p:Ln)(nd:Nd)(u:Value)(hp:L[i]?=some p)(hks:nd.ks=p.nd.ks)(hc:l8 {p with nd:=nd}=(l8 p).set j u)(hj:j<6):
 VT (w.setCell ⟨g,(P.length+i)*6+j,none⟩ u) B (.slice (some ⟨g,0,none⟩) n cap) P (L.set i {p with nd:=nd}):=by
 have key:∀(a:Nat)(q:Ln),(L.set i {p with nd:=nd})[a]?=some q->∃q',L[a]?=some q'/\q.val=q'.val/\q.nd.ks=q'.nd.ks:=by
  intro a q hq;rw[oI]at hq;split at hq
  ·rename_i e;subst e;split at hq
   ·injection hq with hq;subst hq
    exact⟨p,hp,rfl,hks⟩
   ·cases hq
  ·exact⟨q,hq,rfl,rfl⟩
 have hp2:(P++L)[P.length+i]?=some p:=by rw[oH dS,Gm];exact hp
 have hst:(P++L).set (P.length+i) {p with nd:=nd}=P++L.set i {p with nd:=nd}:=by
  rw[LH _ _ dS,Gm]
 refine⟨?_,λa q hq=>?_,λa b q r hab hq hr g' hg'=>?_⟩
 ·rw[<-hst];exact ou (E:=fZ) h.row (P.length+i) j p _ u hp2 hc hj
 ·obtain⟨q',h1,h2,h3⟩:=key a q hq;rw[h2,h3];exact Dw (h.kids a q' h1) (eX h.row (h.kids a q' h1) dU g rfl) u
 ·obtain⟨q',h1,h2,_⟩:=key a q hq;obtain⟨r',h4,h5,_⟩:=key b r hr;rw[h2]at hg';rw[h5];exact h.apart a b q' r' hab h1 h4 g' hg'
theorem VT.Rm{kg kn kc:Nat}(h:VT w B v P L)(i j:Nat)(p:Ln)(hp:L[i]?=some p)(hv:p.val=.slice (some ⟨kg,0,none⟩) kn kc)(z z':Int)(hz:p.nd.ks[j]?=some z):
 VT (w.setCell ⟨kg,j,none⟩ (.int .i64 z')) B v P (L.set i {p with nd:={p.nd with ks:=p.nd.ks.set j z' }}):=by
 have hpk:=h.kids i p hp;rw[hv]at hpk;have hset:=ou (E:=encI) hpk j 0 z z' (.int .i64 z') hz rfl dU;have hj0:j*encI.k+0=j:=Js
 rw[hj0]at hset;have gen:∀(L:List Ln)(i:Nat),L[i]?=some p->fZ.all (L.set i {p with nd:={p.nd with ks:=p.nd.ks.set j z' }})=fZ.all L:=by
  intro L
  induction L with
  |nil=>intro i h;simp at h
  |cons q r ih=>
   intro i h;cases i with
   |zero=>
    obtain rfl:q=p:=kU
    rfl
   |succ i=>
    show fZ.all (q::r.set i _)=_;rw[mW.all,mW.all,ih i kU]
 have hp2:(P++L)[P.length+i]?=some p:=by rw[oH dS,Gm];exact hp
 have hall:fZ.all (P++L.set i {p with nd:={p.nd with ks:=p.nd.ks.set j z' }})=fZ.all (P++L):=by
  have h1:=gen (P++L) (P.length+i) hp2;rw[LH _ _ dS,Gm]at h1;exact h1
 refine⟨?_,λa q hq=>?_,λa b q r hab hq hr g hg=>?_⟩
 ·rw[hall,iK,nQ,<-iK];exact Dw h.row (λe=>eX hpk h.row dU kg rfl e) _
 ·exact YZ
 ·have key:∀(a:Nat)(q:Ln),(L.set i {p with nd:={p.nd with ks:=p.nd.ks.set j z' }})[a]?=some q->∃q',L[a]?=some q'/\q.val=q'.val:=Za
  obtain⟨q',h1,h2⟩:=key a q hq;obtain⟨r',h3,h4⟩:=key b r hr;rw[h2]at hg;rw[h4];exact h.apart a b q' r' hab h1 h3 g hg
theorem VT.reads{g n cap:Nat}(h:VT w B (.slice (some ⟨g,0,none⟩) (n+1) cap) P L)(hP:P.length=1)(hn:0<n):L.length=n/\n+1<=cap/\cap<=maxLen/\Reads fZ w (.slice (some ⟨g,6,none⟩) n (cap-1)) L:=by
 have hlen:=uW h.row;have hl:L.length=n:=by have:=hlen.1;rw[iK]at this;omega
 have hr:=Reads.fo (E:=fZ) h.row;rw[hlen.1]at hr;rw[<-hlen.1]at hr;have hr2:Reads fZ w (.slice (some ⟨g,0,none⟩) (P++L).length cap) (P++L):=by rw[<-hlen.1];exact hr
 have hc:=xX (E:=fZ) (lo:=1) (hi:=(P++L).length) hr2 D3 (eO _);rw[dW (by have:=hlen.2.1;omega)]at hc;have e1:((P++L).drop 1).take ((P++L).length-1)=L:=by
  rw[zw (by rw[ky];exact eO _),<-hP,List.drop_left]
 have e2:(P++L).length-1=n:=D3
 rw[e1,e2]at hc;exact⟨hl,hlen.2.1,hlen.2.2,hc⟩
end
structure GL(w0 w1 wr:World)(rb:Nat)(c:Ctx)(nv dv lv:Value)(row en:Nat)(L:List Ln)(D:List Fl.Dg)(V:List Pr.Lv)(B gx n cx:Nat)(VR:Nat->Prop)(P LL:List Ln):Prop where
 pm:PM w0 wr rb c nv dv lv row en L D V
 vt:VT wr B (.slice (some ⟨gx,0,none⟩) (n+1) cx) P LL
 keep:∀k,¬VR k->wr.heap[k]?=w1.heap[k]?
 size:wr.heap.size=w1.heap.size
section
variable {w0 w1 wr:World}{rb:Nat}{c:Ctx}{nv dv lv:Value}{row en:Nat}{L:List Ln}{D:List Fl.Dg}{V:List Pr.Lv}{B gx n cx:Nat}{VR:Nat->Prop}{P LL:List Ln}
theorem GL.X6(h:GL w0 w1 wr rb c nv dv lv row en L D V B gx n cx VR P LL)(hP:P.length=1)(i:Nat)(p:Ln)(hp:LL[i]?=some p)(u:Int)(hv:VR gx)(hR:∀k,VR k->w0.heap.size<=k/\k≠rb/\¬jU nv dv lv L k):
 GL w0 w1 (wr.setCell ⟨gx,6+i*6+3,none⟩ (.int .i64 u)) rb c nv dv lv row en L D V B gx n cx VR P (LL.set i {p with nd:={p.nd with u:=u}}):=by
 have e:6+i*6+3=(P.length+i)*6+3:=dS
 obtain⟨h1,h2,h3⟩:=hR gx hv;refine⟨h.pm.store h1 h2 h3 _ _,?_,λk hk=>(jo _ _ _ _ (λe=>hk (by have e:k=gx:=e;rw[e];exact hv))).trans (h.keep k hk),by rw[<-h.size];simp⟩;rw[e];exact h.vt.set i 3 p {p.nd with u:=u} _ hp rfl rfl dU
theorem GL.aik(h:GL w0 w1 wr rb c nv dv lv row en L D V B gx n cx VR P LL)(i j kg kn kc:Nat)(p:Ln)(hp:LL[i]?=some p)(hv:p.val=.slice (some ⟨kg,0,none⟩) kn kc)(z z':Int)(hz:p.nd.ks[j]?=some z)(aa:VR kg)(hR:∀k,VR k->w0.heap.size<=k/\k≠rb/\¬jU nv dv lv L k):
 GL w0 w1 (wr.setCell ⟨kg,j,none⟩ (.int .i64 z')) rb c nv dv lv row en L D V B gx n cx VR P (LL.set i {p with nd:={p.nd with ks:=p.nd.ks.set j z' }}):=by
 obtain⟨h1,h2,h3⟩:=hR kg aa;exact⟨h.pm.store h1 h2 h3 _ _,h.vt.Rm i j p hp hv z z' hz,λk hk=>(jo _ _ _ _ (λe=>hk (by have e:k=kg:=e;rw[e];exact aa))).trans (h.keep k hk),by rw[<-h.size];simp⟩
theorem VT.cell{w:World}(h:VT w B (.slice (some ⟨gx,0,none⟩) (n+1) cx) P LL)(hP:P.length=1)(i:Nat)(p:Ln)(hp:LL[i]?=some p)(k:Nat)(u:Value)(hu:(l8 p)[k]?=some u):w.cell? ⟨gx,6+i*6+k,none⟩=some u:=by
 have aa:k<6:=(eY.1 hu).1
 have hp2:(P++LL)[1+i]?=some p:=by rw[oH dS,hP,Gm];exact hp
 have:=h.row.cells (g:=gx) rfl _ _ ((iJ fZ (P++LL) (1+i) p hp2 k aa).trans hu);rw[fT,jY]at this;have e:(1+i)*fZ.k+k=6+i*6+k:=by show(1+i)*6+k=_;omega
 rw[e]at this;exact this
theorem VT.free{w:World}(h:VT w B (.slice (some ⟨gx,0,none⟩) (n+1) cx) P LL)(hP:P.length=1)(o:Nat):w.frozen? ⟨gx,o,none⟩=false:=by
 obtain⟨g',c',hv,_,hf,_⟩:=jf (E:=fZ) h.row D3;have e:=(lX hv).1;injection e with e
 injection e with e
 rw[e];exact hf o
theorem VT.kid{w:World}{v:Value}(h:VT w B v P LL)(i:Nat)(p:Ln)(hp:LL[i]?=some p)(j:Nat)(z:Int)(hz:p.nd.ks[j]?=some z):
 ∃kg kc,p.val=.slice (some ⟨kg,0,none⟩) p.nd.ks.length kc/\w.cell? ⟨kg,j,none⟩=some (.int .i64 z)/\w.frozen? ⟨kg,j,none⟩=false:=by
 have hpk:=h.kids i p hp;have hj:=(eY.1 hz).1;obtain⟨kg,kc,hv,_,hf,_⟩:=jf (E:=encI) hpk dS;refine⟨kg,kc,hv,?_,hf j⟩;have:=hpk.cells (g:=kg) DZ _ _ ((iJ encI p.nd.ks j z hz 0 dU).trans rfl);rw[fT,jY]at this;have e:j*encI.k+0=j:=Js
 rw[e]at this;exact this
theorem ac3(at':Int)(i:Nat)(L:List Ln)(q:Ln)(h:q∈lZ at' i L):∃p∈L,q.val=p.val:=by
 obtain⟨k,hk⟩:=jy h;unfold lZ at hk;rw[aeo]at hk;cases hl:L[k]? with
 |none=>rw[hl]at hk;cases hk
 |some p=>
  rw[hl]at hk;have hk:=iG hk;refine⟨p,gW hl,?_⟩;rw[<-hk];show(if k<i then tX at' p else p).val=p.val;split<;>rfl
end
end
section
open Go.RowKit
open Sq
open Ar
theorem ajx(w0 w:World)(rb:Nat)(c:Ctx)(q:Pr.QS)(lv:Value)(R:Nat->Prop)(up gx n cx B tt:Nat)(P LL:List Ln)(p0:Ln)(hS:fF w0 w rb c q lv R)(hup:up<q.s.t.length)(hn:q.s.t.length<=800000000000)
 (hV:VT w B (.slice (some ⟨gx,0,none⟩) (n+1) cx) P LL) (hP:P.length=1) (hp0:LL[0]?=some p0) (aP:p0.nd.t=(tt:Int)) (ag:∀k,(k=gx\/∃p∈LL,p.val.ownBlock=some k)->w0.heap.size<=k/\k≠rb/\¬R k)
 (aU:w0.heap.size<=B) (bV:n<=400000) (ay:∀(i:Nat)(p:Ln),LL[i]?=some p->p.nd.ks.length<=n+1/\(i=0\/0<=p.nd.u)/\-1<=p.nd.u/\p.nd.u<=i/\∀z∈p.nd.ks,0<=z/\z<=400000):
 Calls prog 95 #[RP rb,.int .i64 up,.slice (some ⟨gx,6,none⟩) n (cx-1)] w λe w'=>e=.returned (.tuple #[])/\∃R',fF w0 w' rb c {q with s:=⟨Pr.rX q.s.t up (LL.map Ln.nd),q.s.d⟩} lv R'/\FP w w' rb (λk=>R k\/(k=gx\/∃p∈LL,p.val.ownBlock=some k)) R':=by
 obtain⟨VR,aa⟩:∃VR:Nat->Prop,(λk=>k=gx\/∃p∈LL,p.val.ownBlock=some k)=VR:=⟨_,rfl⟩
 have aB:VR gx:=by rw[<-aa];exact .inl rfl
 have hvk:∀p∈LL,∀k,p.val.ownBlock=some k->VR k:=λp hp k hk=>by rw[<-aa];exact .inr ⟨p,hp,hk⟩
 have ag:∀k,VR k->w0.heap.size<=k/\k≠rb/\¬R k:=λk hk=>ag k (by rw[<-aa]at hk;exact hk)
 have aC:∀k,VR k->k<w.heap.size:=λk hk=>by
  rw[<-aa]at hk;refine(hV.lt (hk.elim (λe=>.inl (by rw[e];rfl)) .inr)).2
 rw[show(λk=>R k\/(k=gx\/∃p∈LL,p.val.ownBlock=some k))=(λk=>R k\/VR k)by rw[<-aa]];have ah:=(eY.1 hp0).1
 obtain⟨aD,aF,aG,-⟩:=hV.reads hP (by
  have:=(uW hV.row).1
  rw[iK]at this;omega)
 obtain⟨nv,dv,L,hM,hL,hTr,rfl⟩:=hS;have hLn:L.length=q.s.t.length:=yR
 have ai:=ahk w0 w rb c nv dv lv q.row q.en L q.s.d q.st.reverse up tt hM dS (by rw[hL];exact hTr.up) (λp hp=>by
  have:=hTr.kb p.nd P9;omega) dS
 rw[hL]at ai;have aH:Tr (Pr.hold q.s.t up tt++Fl.shift (up:Int) (q.s.t.length-1) (LL.map Ln.nd)):=by
  refine hTr.more (up:=up) ⟨λi x hx=>?_,λx hx=>?_⟩ (by rw[Fl.jL,jl];omega)
  ·have hil:=(eY.1 hx).1;rw[Fl.jL,jl]at hil;obtain⟨p,hp⟩:∃p,LL[i]?=some p:=⟨_,fu hil⟩
   rw[Fl.mf _ _ _ _ p.nd (by rw[kS,hp];rfl)]at hx;injection hx with hx
   subst hx;obtain⟨_,h2,h3,h4,_⟩:=ay i p hp;dsimp only;split
   ·omega
   ·rename_i h;rcases h2 with h2|h2
    ·exact absurd h2 h
    ·omega
  ·obtain⟨i,hx⟩:=jy hx;have hil:=(eY.1 hx).1;rw[Fl.jL,jl]at hil;obtain⟨p,hp⟩:∃p,LL[i]?=some p:=⟨_,fu hil⟩
   rw[Fl.mf _ _ _ _ p.nd (by rw[kS,hp];rfl)]at hx;injection hx with hx
   subst hx;have:=(ay i p hp).1;dsimp only;rw[jl,Fl.jL,jl];omega
 have hgr:Pr.rX q.s.t up (LL.map Ln.nd)=Pr.hold q.s.t up tt++Fl.shift (up:Int) (q.s.t.length-1) (LL.map Ln.nd):=by
  cases aV:LL with
  |nil=>rw[aV]at ah;simp at ah
  |cons x r=>
   rw[aV]at hp0;obtain rfl:x=p0:=by simpa using hp0
   show Pr.hold q.s.t up x.nd.t++_=_;rw[aP];rfl
 obtain⟨R0,hR0⟩:=eu (jU nv dv lv L);rw[hR0]at ai ag⊢;obtain⟨Q,hQ⟩:=eu ((λe w'=>e=Ending.returned (.tuple #[])/\∃R',fF w0 w' rb c {q with s:=⟨Pr.rX q.s.t up (LL.map Ln.nd),q.s.d⟩} lv R'/\FP w w' rb (λk=>R0 k\/VR k) R'));rw[hQ];have aW:∀(W:World)(aQ:Value)(L':List Ln),PM w0 W rb c aQ dv lv q.row q.en L' q.s.d q.st.reverse->L'.map Ln.nd=Pr.hold q.s.t up tt++Fl.shift (up:Int) (q.s.t.length-1) (LL.map Ln.nd)->FP w W rb (λk=>R0 k\/VR k) (jU aQ dv lv L')->Q (.returned (.tuple #[])) W:=λW aQ L' h1 h2 h3=>by
  rw[<-hQ];exact⟨rfl,_,⟨_,_,L',h1,by rw[hgr];exact h2,by rw[hgr];exact aH,rfl⟩,h3⟩
 have HQ:=dY aW;have v2:w.cell? ⟨gx,8,none⟩=some (.int .i64 (tt:Int)):=by
  have:=hV.cell hP 0 p0 hp0 2 _ rfl;rw[aP]at this;exact this
 obtain⟨N,hN⟩:=eu (q.s.t.length);rw[hN]at hn hup HQ;rw[hLn,hN]at ai;obtain⟨M,aX⟩:=eu (N-1);rw[aX]at HQ;have hNM:(N:Int)-1=(M:Int):=dS
 have bS:N=M+1:=dS
 obtain⟨bH,bI,aY,HV,aR,aI⟩:=kG hN aU ai hV ag aC;obtain⟨az,bJ,aS,aj,ae⟩:=vV hvk ay hp0 aD hP;have bW:=dY (show n+1<=cx/\cx<=maxLen from⟨aF,aG⟩);have aT:=dY aB;have hNs:M<=800000000000:=dS
 have hn0:0<n:=dS
 have bX:(0:Int)<(n:Int):=dS
 clear ai hV ag aC hvk ay hp0 aD hP aB hM hL hLn hTr aH hgr hQ aW aU aa aP ah hN aX hup hn aF aG hR0
 go_enter func95,ntmps95
 go_wp2_with fail
 refine aY.out.mono ?_;rintro e w1 ⟨rfl,L1,hM1,hL1,hF1⟩
 have hV1:VT w1 B (.slice (some ⟨gx,0,none⟩) (n+1) cx) P LL:=HV.out.same (λg hg=>by
  have hv:VR g:=hg.elim (λe=>by have e:gx=g:=iG e;rw[<-e];exact aT.out) (fun⟨p,hp,e⟩=>az.out p hp g e);obtain⟨h1,h2,h3⟩:=aR.out g hv
  exact hF1.block g (aI.out g hv) h2 h3)
 have aZ:∀k,VR k->w0.heap.size<=k/\k≠rb/\¬jU nv dv lv L1 k:=λk hk=>by
  obtain⟨h1,h2,h3⟩:=aR.out k hk;refine⟨h1,h2,λh=>?_⟩;rcases hF1.rows k h with h|h
  ·exact h3 h
  ·have:=aI.out k hk;omega
 have bf:=dY (show GL w0 w1 w1 rb c nv dv lv q.row q.en L1 q.s.d q.st.reverse B gx n cx VR P LL from⟨hM1,hV1,λ_ _=>rfl,rfl⟩);obtain⟨HR1,bK,F9⟩:=je aZ hF1 hL1;have bY:wrap64 ((N:Int)-1)=(M:Int):=by rw[hNM];exact AF _ dS
 clear hV1 aZ hM1 hL1 hF1 aY HV aR v2;go_wp2_with fail
 go_loopw [19] (λiv wr=>∃i:Nat,iv=.int .i64 i/\i<=n/\Hid (GL w0 w1 wr rb c nv dv lv q.row q.en L1 q.s.d q.st.reverse B gx n cx VR P (lZ (M:Int) i LL))) (λiv _=>n-(intOf iv).toNat)
 case atStart=>exact⟨0,rfl,fP _,by rw[Ib];exact bf⟩
 case round=>
  obtain⟨i,rfl,hi,HP⟩:=hrel;by_cases hlt:i<n
  ·obtain⟨p,hp⟩:∃p,LL[i]?=some p:=⟨_,fu (by rw[aj.out];exact hlt)⟩
   have hpt:=sI (M:Int) i LL i p hp;rw[dW (vU _)]at hpt;have hpm:=gW hp;obtain⟨hkn,-,hu1,hu2,hzb⟩:=bJ.out i p hp;have c3:=HP.out.vt.cell ae.out i p hpt 3 _ rfl;have f3:=HP.out.vt.free ae.out (6+i*6+3);have hP2:=HP.out.X6 ae.out i p hpt (p.nd.u+(M:Int)) aT.out HR1.out;obtain⟨w5,zC⟩:=eu (wr.setCell ⟨gx,6+i*6+3,none⟩ (.int .i64 (p.nd.u+(M:Int))));rw[zC]at hP2;have hil:i<(lZ (M:Int) i LL).length:=by rw[kZ,aj.out];exact hlt
   have hmz:({p with nd:={p.nd with u:=p.nd.u+(M:Int)}}:Ln)=nT (M:Int) 0 p:=(mid_zero _ _).symm;rw[hmz]at hP2;obtain⟨ka,kc,aA⟩:=(Reads.fo (E:=encI) (HP.out.vt.kids i p hpt)).shape;obtain⟨kn,ak⟩:=eu (p.nd.ks.length);rw[ak]at aA hkn;have c4:w5.cell? ⟨gx,6+i*6+4,none⟩=some (.slice ka kn kc):=by
    have:=hP2.vt.cell ae.out i (nT (M:Int) 0 p) (yE hil) 4 _ rfl;rw[<-aA];exact this
   have gi:(i:Int)<(n:Int):=dS
   obtain⟨U,hU⟩:=eu (p.nd.u);rw[hU]at c3 hu1 hu2 zC;have gw:wrap64 (U+(M:Int))=U+(M:Int):=AF _ dS;obtain⟨o9,bg,HP,Pq,L8,bL⟩:=kG hP2 zC hp aA ak hzb;have bM:=dY hpm;clear hP2 zC hp hpt aA ak hzb hpm hmz hU;go_upto_region 5 with fail
   rw[bg.out];clear bg c3 f3;go_wp2_with fail
   rename World=>wq
   go_loopw [37] (λjv ws=>∃j:Nat,jv=.int .i64 j/\j<=kn/\Hid (GL w0 w1 ws rb c nv dv lv q.row q.en L1 q.s.d q.st.reverse B gx n cx VR P ((lZ (M:Int) i LL).set i (nT (M:Int) j p)))) (λjv _=>kn-(intOf jv).toNat)
   case atStart=>exact⟨0,rfl,fP _,o9⟩
   case round=>
    obtain⟨j,rfl,hj,HPj⟩:=hrel;have XY:i<(lZ (M:Int) i LL).length:=by rw[kZ,aj.out];exact hlt
    have hget:((lZ (M:Int) i LL).set i (nT (M:Int) j p))[i]?=some (nT (M:Int) j p):=yE XY;by_cases hjl:j<kn
    ·obtain⟨z,hz⟩:∃z,p.nd.ks[j]?=some z:=⟨_,fu (by rw[L8.out];exact hjl)⟩
     obtain⟨kg,bn,hv',ck,fk⟩:=HPj.out.vt.kid i (nT (M:Int) j p) hget j z (C4 _ _ _ _ hz);have hv2:p.val=.slice (some ⟨kg,0,none⟩) (nT (M:Int) j p).nd.ks.length bn:=hv';rw[Ux,L8.out,Pq.out]at hv2;obtain⟨e1,-,-⟩:=lX hv2;subst e1;have hz2:=bL.out z (gW hz);have c4j:=HPj.out.vt.cell ae.out i _ hget 4 _ rfl;have bZ:wr.cell? ⟨gx,6+i*6+4,none⟩=some (.slice (some ⟨kg,0,none⟩) kn kc):=by rw[<-Pq.out];exact c4j
     have hP3:=HPj.out.aik i j kg _ bn (nT (M:Int) j p) hget hv' z (z+(M:Int)) (C4 _ _ _ _ hz) (az.out p bM.out kg (by rw[Pq.out];rfl)) HR1.out;rw[aeA,Nf _ _ _ _ hz]at hP3;have PE:=dY hP3;have gj:(j:Int)<(kn:Int):=dS
     exact aae
    ·exact Z9
  ·obtain rfl:i=n:=by omega
   have gi:¬(i:Int)<(i:Int):=dS
   have hpt:=sI (M:Int) i LL 0 p0 aS.out;rw[dX hn0]at hpt;have c3:=HP.out.vt.cell ae.out 0 _ hpt 3 _ rfl;have f3:=HP.out.vt.free ae.out (6+0*6+3);have hP2:=HP.out.X6 ae.out 0 _ hpt (up:Int) aT.out HR1.out;have hsh:=FM (up:Int) M LL p0 aS.out;rw[aj.out]at hsh;obtain⟨L',hL'⟩:∃L',(lZ (M:Int) i LL).set 0 {tX (M:Int) p0 with nd:={(tX (M:Int) p0).nd with u:=(up:Int)}}=L':=⟨_,rfl⟩
   rw[hL']at hP2 hsh;have hval:∀x∈L',∃y∈LL,x.val=y.val:=λx hx=>by
    rw[<-hL']at hx;rcases ahQ hx with hx|hx
    ·exact ac3 _ _ _ _ hx
    ·exact⟨p0,gW aS.out,by rw[hx];rfl⟩
   have av:L'.length=i:=by rw[<-hL',nQ,kZ,aj.out]
   obtain⟨w6,oN⟩:=eu (wr.setCell ⟨gx,6+0*6+3,none⟩ (.int .i64 (up:Int)));rw[oN]at hP2;have c3:wr.cell? ⟨gx,9,none⟩=some (.int .i64 (tX (M:Int) p0).nd.u):=c3;have f3:wr.frozen? ⟨gx,9,none⟩=false:=f3;have aJ:wr.setCell ⟨gx,9,none⟩ (.int .i64 (up:Int))=w6:=oN;clear oN;obtain⟨-,-,-,hrd⟩:=hP2.vt.reads ae.out hn0;have c4:=Jc hP2.pm.box;have hnl:L1.length=N:=by
    have:=congrArg List.length F9.out;rw[jl,Pr.pX]at this;rw[this];exact bH.out
   obtain⟨a1,k1,bN⟩:=(Reads.fo (E:=fZ) hP2.pm.nodes.row).shape
   have aK:=dY (show Own w6 w0.heap.size L1 L' from⟨λa x hx=>vg (hP2.vt.kids a x hx) bI.out,hP2.vt.apart,λx hx y hy g hg e=>by
    obtain⟨z,hz1,hz2⟩:=hval x hx
    exact(HR1.out g (az.out z hz1 g (by rw[<-hz2];exact hg))).2.2 (.inr (.inr (.inr ⟨y,hy,e⟩)))⟩)
   obtain⟨aL,bq,o9,bO,bz,bT⟩:=kG hP2.pm.nodes.row hrd hP2 hsh aJ hval;have bP:=dY (show L1.length+L'.length<=maxLen by rw[hnl,av];simp only[maxLen];omega);have bQ:=dY (show(L1.length+L'.length)*64<=140737488355328 by rw[hnl,av];omega);have bR:=dY (show w0.heap.size<=w6.heap.size from o9.out.pm.size)
   have bA:=dY (λW R' (h:FP w6 W rb (λk=>jU nv dv lv L1 k\/∃p∈L',p.val.ownBlock=some k) R')=>show FP w W rb (λk=>R0 k\/VR k) R' from by
    have hF1:=bK.out;have hsz:w6.heap.size=w1.heap.size:=o9.out.size;have bB:∀k,(∃p∈L',p.val.ownBlock=some k)->VR k:=λk ⟨p,hp,e⟩=>by
     obtain⟨y,hy1,hy2⟩:=hval p hp;exact az.out y hy1 k (by rw[<-hy2];exact e)
    refine⟨by have:=hF1.size;have:=h.size;omega,λk hk1 hk2 hk3=>?_,λk hk=>?_⟩
    ·have bU:k<w1.heap.size:=zx hk1 hF1.size
     rw[h.block k dS hk2 (λe=>e.elim (λe=>(hF1.rows k e).elim (λe=>hk3 (.inl e)) (λe=>absurd hk1 (aeD.2 e))) (λe=>hk3 (.inr (bB k e)))),o9.out.keep k (λe=>hk3 (.inr e))];exact hF1.block k hk1 hk2 (λe=>hk3 (.inl e))
    ·rcases h.rows k hk with e|e
     ·rcases e with e|e
      ·rcases hF1.rows k e with e|e
       ·exact .inl (.inl e)
       ·exact .inr e
      ·exact .inl (.inr (bB k e))
     ·exact .inr (by have:=hF1.size;omega))
   clear hP2 hsh hL' av aJ hrd hpt HP bf hval hnl bN;go_upto_region 12 with fail
   rw[bz.out];clear bz c3 f3;go_wp2_with (at_builtin;go_must (refine lS OV rfl (.tmp 62) (.tmp 63) rfl w0.heap.size _ L1 rfl aL.out _ L' rfl bq.out bP.out bQ.out bR.out ?_;intro v9 w9 af bC aM;obtain⟨a9,c9,bD⟩:=(Reads.fo (E:=fZ) af).shape;obtain⟨n9,bE⟩:∃n9,(L1++L').length=n9:=⟨_,rfl⟩;rw[bE]at bD;clear bE;subst bD;obtain⟨ax,aN,bF⟩:=o9.out.pm.push aK.out (fD _ w6) bC af aM;have cr:=Jc ax;have cz:w9.frozen? ⟨rb,4,none⟩=false:=qc ax 4;have aO:=dY aN;have bG:=dY bF;clear af bC aM ax aN bF c4))
   have HD:=dY (HQ.out _ _ _ aO.out (by rw[yF,F9.out,bO.out]) (bA.out _ _ bG.out));clear aO bG o9 aK aL bq bA;try go_end0
   exact HD.out
end
end Go.Proofs.YtmkkdjpebbdikaaGreatDoor

import Derived.Test.YtfbiffdmhcjhbaaGreatZa01
import Derived.Test.YtfbiffdmhcjhbaaGreatZa05
import Derived.Test.YtfbiffdmhcjhbaaGreatZa08
import Derived.ArgAppend
import Derived.BigQuiet
import Derived.Deep.CutBlock
import Derived.Deep.DeepCutAuto
import Derived.Deep.DeepMust
import Derived.Deep.LoopGhost
import Derived.Deep.QuietTactic
import Derived.Laws.IdiomStrings
import Derived.Lib.AppendStr
import Derived.Lib.ConvBytes
import Derived.Lib.EndianMore
import Derived.Lib.Hide
import Derived.Lib.OthersKept
import Derived.Lib.OwnKind
import Derived.Lib.SlBytesConst
import Derived.LoopN
import Derived.LoopTactic
import Derived.Maps.AppendAt
import Derived.OpenShut
import Derived.Outline
import Derived.ProofKit
import Derived.Test.YtfbiffdmhcjhbaaGreatChecked
import Derived.WalkLawsBesides
import Derived.WalkSmall
import Derived.WalkSpells
set_option linter.all false
set_option maxHeartbeats 16000000
set_option maxRecDepth 100000
set_option synthInstance.maxSize 4000
set_option synthInstance.maxHeartbeats 0
namespace Go.Proofs.YtfbiffdmhcjhbaaGreat
open Go.RowKit Tryz
section
open Go.RowKit
open Sg
theorem addr_add(b off j:Nat):(⟨b,off,none⟩:Addr).add j=⟨b,off+j,none⟩:=by
 unfold Addr.add;split
 ·rename_i h;subst h;rfl
 rfl
theorem xD(b off cap:Nat)(s:ByteArray)(w:World)(hp:∀j,j<s.size->w.cell? ⟨b,off+j,none⟩=some (.int .u8 (s.get! j).toNat)):
 (convert 23 9 (.slice (some ⟨b,off,none⟩) s.size cap)).run prog w=.ok (.string s) w:=by
 have h:=run_convert_bytes_back (P:=prog) w 23 9 5 ⟨b,off,none⟩ cap s.data.toList underlying23 underlying5 underlying9 (λj hj=>by
  have hj':j<s.size:=by rw[qy];exact hj
  have e:=hp j hj';have e2:s.data.toList[j]=s.get! j:=by
   rw[<-zt];rw[jS,lU hj];rfl
  rw[e2];rw[addr_add]
  exact e)
 rw[<-qy]at h
 simpa using h
theorem Jz(w:World)(c:Nat):(convert 23 9 (.slice none 0 c)).run prog w=.ok (.string ⟨#[]⟩) w:=by
 rw[run_convert_bytes_string w 23 9 5 none 0 c underlying23 underlying5 underlying9];simp[Conv.bytesToString];rfl
theorem fI{w w':World}{B e size n:Nat}{v:Value}{xs:List Value}(h:w.ownsRow B e size v n xs)(hb:Below w.heap.size w w'):w'.ownsRow B e size v n xs:=by
 refine⟨h.1,?_⟩;rcases h.2 with h0|⟨g,cap,cur,hv,hbg,hg,rest⟩
 ·exact .inl h0
 have hlt:g<w.heap.size:=(Ls.1 hg).1
 exact .inr ⟨g,cap,cur,hv,hbg,(hb.block g hlt).trans hg,rest⟩
def places(l:List Nat):List Value:=l.map fun(p:Nat)=>Value.int .i64 (p:Int)
theorem vo(l:List Nat)(p:Nat):places (l++[p])=places l++[.int .i64 (p:Int)]:=by simp[places]
theorem EA:(prog.info? 3).map (λi=>(i.zero,i.size,i.bytes))=some (some (.int .i64 0),1,8):=by kernel_rfl
end
section
open Go.RowKit
open Sg
open Sq
abbrev Tk:=Nat×Nat×Nat
def EC(x:Tk):List Value:=[.int .i64 x.1,.int .i64 x.2.1,.int .i64 x.2.2]
def iZ:jV Tk:=⟨EC,3,by decide,λ_=>rfl,λx u hu=>by
 cases hu with
 |head=>rfl
 |tail _ hu=>cases hu with
  |head=>rfl
  |tail _ hu=>cases hu with
   |head=>rfl
   |tail _ hu=>cases hu⟩
theorem RH:Ty prog iZ 28 73 24:=Ty.of (z:=.agg #[.int .i64 0,.int .i64 0,.int .i64 0]) underlying28 (by kernel_rfl) (by kernel_rfl) rfl (λw=>by kernel_rfl)
theorem iG{w:World}{a:Option Addr}{cap:Nat}{l:List Tk}(h:Reads iZ w (.slice a l.length cap) l)(j:Nat)(x:Tk)(hj:l[j]?=some x):
 ∃b off,a=some ⟨b,off,none⟩/\w.cell? ⟨b,off+j*3,none⟩=some (.int .i64 x.1)/\w.cell? ⟨b,off+j*3+1,none⟩=some (.int .i64 x.2.1)/\w.cell? ⟨b,off+j*3+2,none⟩=some (.int .i64 x.2.2):=by
 obtain⟨b,off,h1,h2⟩:=h.at_ j x hj;exact⟨b,off,h1,h2 0 _ rfl,h2 1 _ rfl,h2 2 _ rfl⟩
section
variable {w w':World}{b:Nat}{v:Value}
abbrev Row(w:World)(b:Nat)(v:Value)(l:List Tk):Prop:=w.ownsRow (b+1) 73 3 v l.length (iZ.all l)
theorem jE{l:List Tk}(h:Row w b v l)(o:Nat)(u:Value):Row (w.setCell ⟨b,o,none⟩ u) b v l:=ownsRow_setCell_below h (a:=⟨b,o,none⟩) (by simp) u
theorem iC{B:Nat}{a:World}(h:Below B a w)(hB:B<=b)(o:Nat)(u:Value):Below B a (w.setCell ⟨b,o,none⟩ u):=h.setCell (p:=⟨b,o,none⟩) hB u
theorem Mt(W:World)(x:Tk)(t:TypeId):∀j c,(iZ.all [x])[j]?=some c->(W.alloc (.cells #[.int .i64 x.1,.int .i64 x.2.1,.int .i64 x.2.2] t)).cell? ⟨W.heap.size,j,none⟩=some c:=by
 intro j c hj;rw[o6]
 simpa [jV.all,iZ,EC]using hj
theorem _root_.Go.RowKit.Below.wP{B C:Nat}{a m c:World}(h:Below B a m)(hC:C<=B)(h2:Below C m c):Below C a c:=(h.mono hC).trans h2
end
def Gives(L:List Nat)(w:World)(e:Ending)(w':World):Prop:=
 ∃u,e=.returned u/\w'.ownsRow w.heap.size 73 3 u (Sc.tokens L).length (iZ.all (Sc.tokens L))/\Below w.heap.size w w'
end
section
open Go.RowKit
theorem ED:∀(f:Nat)(s:Sc.St)(p:Nat)(l:List Nat),∀x∈Sc.toks f s p l,x.2.1<=p+l.length/\x.2.2<=p+l.length
 |0,_,_,_=>λx h=>by cases h
 |f+1,s,p,l=>λx h=>by
  rw[Sc.toks]at h;by_cases hl:l=[]
  ·rw[eT hl]at h;cases h
  rw[eQ hl]at h;have hp:=Sc.step_pos s l hl;rcases qV.1 h with rfl|h
  ·exact⟨by show p<=_;omega,by show p+(Sc.step s l).2.1<=_;omega⟩
  have:=ED f _ _ _ x h;rw[iq]at this;omega
theorem yJ(l:List Nat)(x:Tk)(h:x∈Sc.tokens l):x.2.1<=l.length/\x.2.2<=l.length:=by
 unfold Sc.tokens at h;split at h
 ·cases h
 have:=ED _ _ _ _ x h;omega
theorem Bc:∀(f:Nat)(s:Sc.St)(p:Nat)(l:List Nat),(Sc.toks f s p l).length<=f
 |0,_,_,_=>by simp[Sc.toks]
 |f+1,s,p,l=>by
  rw[Sc.toks];split
  ·simp
  rw[gy];have:=Bc f (Sc.step s l).2.2 (p+(Sc.step s l).2.1) (l.drop (Sc.step s l).2.1);omega
theorem xE(l:List Nat):(Sc.tokens l).length<=l.length:=by
 unfold Sc.tokens;split
 ·simp
 exact Bc _ _ _ _
end
section
open Go.RowKit
open Sg
theorem ou.fJ{w:World}{base:Nat}{v:Value}{s:ByteArray}(h:w.ownsRow base 5 1 v s.size (s.data.toList.map fun(x:UInt8)=>Value.int .u8 x.toNat)):ou w v s:=by
 rcases h.2 with⟨h1,h2⟩|⟨g,cap,cur,h1,h2,h3,h4,h5,h6,h7⟩
 ·exact .inl ⟨h1,h2⟩
 refine .inr ⟨g,0,cap,h1,h4,h5,λj hj=>?_⟩;have hj':j<s.data.toList.length:=by rw[<-qy];exact hj
 have hc:=h.cells (g:=g) (by rw[h1];rfl) j (.int .u8 ((s.data.toList[j]).toNat:Int)) (by rw[nO,lU hj'];rfl);rw[addr_add]at hc;rw[hc,<-zt,jS,lU hj'];rfl
theorem infoByte:(prog.info? 5).map (λi=>(i.zero,i.size,i.bytes))=some (some (.int .u8 0),1,1):=by kernel_rfl
theorem Mv{w:World}{b off:Nat}{s:ByteArray}(h:∀j,j<s.size->w.cell? ⟨b,off+j,none⟩=some (.int .u8 (s.get! j).toNat)):
 ∀j u,(s.data.toList.map fun(x:UInt8)=>Value.int .u8 x.toNat)[j]?=some u->w.cell? ((⟨b,off,none⟩:Addr).add j)=some u:=by
 intro j u hu;rw[nO]at hu;obtain⟨x,hx,rfl⟩:=Option.map_eq_some_iff.1 hu;have hj:j<s.data.toList.length:=(fT.1 hx).1
 rw[addr_add,h j (by rw[qy];exact hj),<-zt,jS,hx];rfl
theorem JA(s:ByteArray):(s.data.toList.map fun(x:UInt8)=>Value.int .u8 (x.toNat:Int)).length=s.size:=by rw[nP,<-qy]
theorem JB(s:ByteArray):∀u∈(s.data.toList.map fun(x:UInt8)=>Value.int .u8 (x.toNat:Int)),u.oneCell'=true:=by
 intro u hu;obtain⟨x,_,rfl⟩:=vP.1 hu;rfl
def cellsOf(s:ByteArray):List Value:=s.data.toList.map fun(x:UInt8)=>Value.int .u8 (x.toNat:Int)
theorem ui{w:World}{ops:Array Oper}{rest:List Oper}{o:Oper}{a:Act}{Q:Exit->Act->World->Prop}(hgd:o.guard=none)(x y:Operand)
 (ho:o.op=.call {callee:=.builtin .append,args:=#[x,y],argTypes:=#[23,23]})
 (base:Nat) (v:Value) (n:Nat) (xs:List Value) (hs:a.eval x=v) (hown:w.ownsRow base 5 1 v n xs) (yv:Value) (s:ByteArray) (hy:a.eval y=yv) (hb:ou w yv s)
 (hlen:n+s.size<=140737488355328) (hbase:base<=w.heap.size)
 (h:∀v' w',w'.ownsRow base 5 1 v' (n+s.size) (xs++cellsOf s)->w.grownBy w' v.ownBlock->wpList prog ops Q rest (a.put o.dst v') w'):wpList prog ops Q (o::rest) a w:=by
 obtain⟨i0,hi,hz0,hz1,hz2⟩:=FI infoByte;rcases hb with⟨rfl,hz⟩|⟨b,off,cap,rfl,h2,h3,h4⟩
 ·refine OM hgd x y 23 ho base 5 i0 1 underlying23 hi v n xs hs hown hy ?_;have e:cellsOf s=[]:=by
   have:s.data.toList.length=0:=by rw[<-qy];exact hz
   rw[cellsOf,oD this];rfl
  refine h v w ?_ ⟨rfl,rfl,rfl,fC _,λ_ _ _=>rfl⟩;rw[e,hz,kH,sO];exact hown
 exact Ie w hgd x y 23 ho base 5 i0 (.int .u8 0) 1 1 underlying23 hi hz0 hz1 hz2 rfl (by decide) v n xs hs hown ⟨b,off,none⟩ s.size cap (cellsOf s) hy (by rw[cellsOf,JA,OJ]) (Mv h4) (JB s) (by simp only[maxLen];omega) (by omega) hbase (λv' w' q1 q2 _=>h v' w' q1 q2)
theorem ou.shape{w:World}{v:Value}{s:ByteArray}(h:ou w v s):∃a cap,v=.slice a s.size cap:=by
 rcases h with⟨h1,h2⟩|⟨b,off,cap,h1,_⟩
 ·exact⟨none,0,by rw[h1,h2]⟩
 exact⟨_,_,h1⟩
end
section
open Go.RowKit
structure CQ(w:World)(g:Nat)(s:ByteArray)(cap:Nat):Prop where
 le:s.size<=cap
 max:cap<=maxLen
 at':∃C fr,w.heap[g]?=some (.cells C 5 fr)/\C.size=cap/\C.size<=fr.1
 cell:∀j,j<s.size->w.cell? ⟨g,j,none⟩=some (.int .u8 (s.get! j).toNat)
theorem CQ.RP{w:World}{g:Nat}{s:ByteArray}{cap:Nat}(h:CQ w g s cap):ou w (.slice (some ⟨g,0,none⟩) s.size cap) s:=
 .inr ⟨g,0,cap,rfl,h.le,h.max,λj hj=>by rw[j5];exact h.cell j hj⟩
theorem JC(s:ByteArray)(w:World)(hs:s.size<=maxLen):
 ∃cap w',(convert 9 23 (.string s)).run prog w=.ok (.slice (some ⟨w.heap.size,0,none⟩) s.size cap) w'/\CQ w' w.heap.size s cap/\Below w.heap.size w w':=by
 refine⟨grownCap w s.size 0 5,Lib.bytesWorld w 5 s,Lib.run_convert_string_bytes w 9 23 5 s underlying9 underlying23 underlying5,?_,?_⟩
 ·have hge:=grownCap_ge w s.size 0 5;have hC:(Lib.bytesCells w 5 s).size=grownCap w s.size 0 5:=by
   have e:s.data.size=s.size:=rfl;simp[Lib.bytesCells,e];omega
  refine⟨hge,grownCap_le_maxLen _ _ _ _ hs,⟨_,_,Lib.bytesWorld_at_new w 5 s,hC,fC _⟩,λj hj=>?_⟩;rw[Lib.bytesWorld_cell w 5 s j hj,zt]
 exact⟨rfl,rfl,rfl,by rw[Lib.bytesWorld_size];omega,λi hi=>Lib.bytesWorld_at_old w 5 s i hi⟩
end
section
open Go.RowKit
open Sg
theorem EE{w:World}{a:Option Addr}{s:ByteArray}{cap lo hi:Nat}(h:ou w (.slice a s.size cap) s)(h1:lo<=hi)(h2:hi<=s.size):
 ou w (.slice (if cap=lo then a else a.map λx=>x.add lo) (hi-lo) (cap-lo)) (s.extract lo hi):=by
 have hz:=ext_size s lo hi h2;rcases h with⟨hv,h0⟩|⟨b,off,cap',hv,g2,g3,g4⟩
 ·obtain⟨rfl,-,rfl⟩:=mq hv;obtain rfl:lo=0:=by omega
  obtain rfl:hi=0:=by omega
  exact .inl ⟨rfl,hz⟩
 obtain⟨rfl,-,rfl⟩:=mq hv;by_cases hc:cap=lo
 ·rw[eT hc];refine .inr ⟨b,off,cap-lo,by rw[hz],by omega,by omega,λj hj=>?_⟩;rw[hz]at hj;omega
 rw[eQ hc];refine .inr ⟨b,off+lo,cap-lo,?_,by omega,by omega,λj hj=>?_⟩
 ·rw[hz,FF,addr_add]
 rw[hz]at hj;rw[ext_get s lo hi j (by omega),LQ];exact g4 (lo+j) (by omega)
theorem tK{w:World}{v:Value}{s:ByteArray}(h:ou w v s):(convert 23 9 v).run prog w=.ok (.string s) w:=by
 rcases h with⟨rfl,h⟩|⟨b,off,cap,rfl,h2,h3,h4⟩
 ·rw[Jz];have:s=⟨#[]⟩:=by
   cases s with
   |mk d=>simp[ByteArray.size]at h;rw[h]
  rw[this]
 exact xD b off cap s w h4
theorem ou.wo{w:World}{a:Option Addr}{s:ByteArray}{cap:Nat}(h:ou w (.slice a s.size cap) s):s.size<=cap/\cap<=maxLen:=by
 rcases h with⟨hv,h0⟩|⟨b,off,cap',hv,g2,g3,g4⟩
 ·obtain⟨rfl,-,rfl⟩:=mq hv;exact⟨by omega,gG _⟩
 obtain⟨rfl,-,rfl⟩:=mq hv;exact⟨g2,g3⟩
theorem sG:prog.underlying 23=some (.slice (prog.elem 23)):=by kernel_rfl
theorem size_bytes(w:World):(sizeOf (prog.elem 23)).run prog w=.ok 1 w:=by kernel_rfl
theorem Mw{w:World}{a:Option Addr}{s:ByteArray}{cap lo hi:Nat}(h:ou w (.slice a s.size cap) s)(h1:lo<=hi)(h2:hi<=s.size):
 ∃v,(∀W:World,(Instr.slice 23 (.slice a s.size cap) (some (.int .i64 (lo:Int))) (some (.int .i64 (hi:Int))) none).run prog W=.ok v W)/\ou w v (s.extract lo hi):=by
 have hb:=EE h h1 h2;have hc:=h.wo;refine⟨_,λW=>?_,hb⟩;rw[run_slice_lh W _ a s.size cap sG .i64 .i64 lo hi (by omega) (by omega) (by omega),size_bytes];simp[Result.andThen,sliced]
theorem IY{w:World}{a:Option Addr}{s:ByteArray}{cap hi:Nat}(h:ou w (.slice a s.size cap) s)(h2:hi<=s.size):
 ∃v,(∀W:World,(Instr.slice 23 (.slice a s.size cap) none (some (.int .i64 (hi:Int))) none).run prog W=.ok v W)/\ou w v (s.extract 0 hi):=by
 have hb:=EE h (gG hi) h2;have hc:=h.wo;refine⟨_,λW=>?_,hb⟩;rw[run_slice_h W _ a s.size cap sG .i64 hi (by omega) (by omega),size_bytes];simp[Result.andThen,sliced]
end
section
open Go.RowKit
theorem F6{a w w':World}{B:Nat}{row:Option Nat}(h:Below B a w)(hg:w.grownBy w' row)(hr:∀k,row=some k->B<=k)(hB:B<=w.heap.size):Below B a w':=h.grown hg hB hr
end
section
open Go.RowKit
open Sg
theorem yw(x:Int)(h0:0<=x)(h1:x<2147483648):bits .and .i32 x 63=x%64:=bits_mask .i32 31 (by decide) wraps_i32 6 (by decide) x h0 h1
theorem QM(y:Int)(h0:0<=y)(h1:y<32):bits .or .i32 224 y=224+y:=bits_join .i32 31 (by decide) wraps_i32 5 224 y (by decide) (by decide) (by decide) h0 h1 (by omega)
theorem QN(y:Int)(h0:0<=y)(h1:y<16):bits .or .i32 240 y=240+y:=bits_join .i32 31 (by decide) wraps_i32 4 240 y (by decide) (by decide) (by decide) h0 h1 (by omega)
theorem Pj(r:Int)(w:World)(h0:0<=r)(h1:r<128):
 Calls prog 99 #[.int .i32 r] w λe w'=>e=.returned (.slice (some ⟨w.heap.size,0,none⟩) 1 1)/\w'=w.alloc (.cells #[.int .u8 r] 5):=by
 go_enter func99,ntmps99
 go_wp2;go_ret;refine⟨rfl,?_⟩;rfl
theorem Pk(r:Int)(w:World)(h0:128<=r)(h1:r<2048):
 Calls prog 99 #[.int .i32 r] w λe w'=>e=.returned (.slice (some ⟨w.heap.size,0,none⟩) 2 2)/\w'=w.alloc (.cells #[.int .u8 (192+r/64),.int .u8 (128+r%64)] 5):=by
 have m0:=yw (r) (by omega) (by omega)
 go_enter func99,ntmps99
 go_wp2;go_ret;refine⟨rfl,?_⟩;rfl
theorem Pm(r:Int)(w:World)(h0:2048<=r)(h1:r<65536):
 Calls prog 99 #[.int .i32 r] w λe w'=>e=.returned (.slice (some ⟨w.heap.size,0,none⟩) 3 3)/\w'=w.alloc (.cells #[.int .u8 (224+r/4096),.int .u8 (128+r/64%64),.int .u8 (128+r%64)] 5):=by
 have m0:=yw (r) (by omega) (by omega);have m1:=yw (r/64) (by omega) (by omega);have mo:=QM (r/4096) (by omega) (by omega)
 go_enter func99,ntmps99
 go_wp2;go_ret;refine⟨rfl,?_⟩;rfl
theorem Pn(r:Int)(w:World)(h0:65536<=r)(h1:r<1114112):
 Calls prog 99 #[.int .i32 r] w λe w'=>e=.returned (.slice (some ⟨w.heap.size,0,none⟩) 4 4)/\w'=w.alloc (.cells #[.int .u8 (240+r/262144),.int .u8 (128+r/4096%64),.int .u8 (128+r/64%64),.int .u8 (128+r%64)] 5):=by
 have m0:=yw (r) (by omega) (by omega);have m1:=yw (r/64) (by omega) (by omega);have m2:=yw (r/4096) (by omega) (by omega);have mo:=QN (r/262144) (by omega) (by omega)
 go_enter func99,ntmps99
 go_wp2;go_ret;refine⟨rfl,?_⟩;rfl
theorem rE(n:Nat)(l:List UInt8)(C:Array Value)(w:World)(hl:l.length=n)(hn:n<=4)(hC:C=(l.map fun(x:UInt8)=>Value.int .u8 (x.toNat:Int)).toArray):
 ou (w.alloc (.cells C 5)) (.slice (some ⟨w.heap.size,0,none⟩) n n) ⟨l.toArray⟩:=by
 subst hC;refine .inr ⟨w.heap.size,0,n,by rw[size_at,hl],by rw[size_at,hl];exact fC _,by simp only[maxLen];omega,λj hj=>?_⟩;rw[size_at]at hj;rw[o6,Sg.get_at,Hy,nO,j5,lU hj,jS,lU hj];rfl
theorem wQ(r:Int)(w:World)(h:Utf8.valid r=true):
 Calls prog 99 #[.int .i32 r] w λe w'=>e=.returned (.slice (some ⟨w.heap.size,0,none⟩) (Utf8.encode r).size (Utf8.encode r).size)/\ou w' (.slice (some ⟨w.heap.size,0,none⟩) (Utf8.encode r).size (Utf8.encode r).size) (Utf8.encode r)/\Below w.heap.size w w':=by
 have hv:=FU h;have hb:=O9 r;rw[encode_eq,size_at];generalize xN r=c at hv hb;subst hv;have hB:∀C,Below w.heap.size w (w.alloc (.cells C 5)):=λC=>(fu _ w).alloc (fC _) _
 by_cases c1:c<128
 ·rw[show rU c=enc1 c from by unfold rU;rw[eT c1]];refine(Pj c w (by omega) (by omega)).mono λe w' ⟨he,hw⟩=>⟨he,?_,by rw[hw];exact hB _⟩
  rw[hw];exact rE 1 (enc1 c) _ w rfl (by omega) (by simp only[enc1,qi,xX,byte_of c (by omega)])
 by_cases c2:c<2048
 ·rw[show rU c=enc2 c from by unfold rU;rw[eQ c1,eT c2]];refine(Pk c w (by omega) (by omega)).mono λe w' ⟨he,hw⟩=>⟨he,?_,by rw[hw];exact hB _⟩
  rw[hw];exact rE 2 (enc2 c) _ w rfl (by omega) (by simp only[enc2,qi,xX,byte_of (192+c/64) (by omega),byte_of (128+c%64) (by omega)];simp)
 by_cases c3:c<65536
 ·rw[show rU c=enc3 c from by unfold rU;rw[eQ c1,eQ c2,eT c3]];refine(Pm c w (by omega) (by omega)).mono λe w' ⟨he,hw⟩=>⟨he,?_,by rw[hw];exact hB _⟩
  rw[hw];exact rE 3 (enc3 c) _ w rfl (by omega) (by simp only[enc3,qi,xX,byte_of (224+c/4096) (by omega),byte_of (128+c/64%64) (by omega),byte_of (128+c%64) (by omega)];simp)
 rw[show rU c=enc4 c from by unfold rU;rw[eQ c1,eQ c2,eQ c3]];refine(Pn c w (by omega) (by omega)).mono λe w' ⟨he,hw⟩=>⟨he,?_,by rw[hw];exact hB _⟩
 rw[hw];exact rE 4 (enc4 c) _ w rfl (by omega) (by simp only[enc4,qi,xX,byte_of (240+c/262144) (by omega),byte_of (128+c/4096%64) (by omega),byte_of (128+c/64%64) (by omega),byte_of (128+c%64) (by omega)];simp)
end
section
open Go.RowKit
open Sg
open Sq
def pg(x n:Int):Int:=if x.tmod n<0 then x.tmod n+n else x.tmod n
theorem zN(x n:Int)(h:0<n):0<=pg x n/\pg x n<n:=by
 have h1:=Am x h;have h2:-n<x.tmod n:=by
  have:=Am (-x) h;rw[Lv]at this;omega
 unfold pg;split<;>omega
theorem Ca(x n:Int)(w:World)(h1:1<=n)(h2:n<=1000):
 Calls prog 35 #[.int .i64 x,.int .i64 n] w λe w'=>e=.returned (.int .i64 (pg x n))/\w=w':=by
 have hb1:=Am x (show 0<n by omega);have hb2:-n<x.tmod n:=by
  have:=Am (-x) (show 0<n by omega);rw[Lv]at this;omega
 have hz:(n==0)=false:=by simp;omega
 have hn1:n≠0:=by omega
 unfold pg;by_cases hc:x.tmod n<0
 ·rw[eT hc]
  go_enter func35,ntmps35
  go_wp2;go_ret;exact⟨rfl,rfl⟩
 rw[eQ hc]
 go_enter func35,ntmps35
 go_wp2;go_ret;exact⟨rfl,rfl⟩
theorem Cb(x:Int)(n:Nat)(h1:1<=n)(h2:n<=1000):∃k:Nat,k<n/\∀w:World,Calls prog 35 #[.int .i64 x,.int .i64 n] w λe w'=>e=.returned (.int .i64 k)/\w=w':=by
 have hb:=zN x n (by omega);refine⟨(pg x n).toNat,by omega,λw=>?_⟩;have:=Ca x n w (by omega) (by omega);rw[show((pg x n).toNat:Int)=pg x n from by omega];exact this
theorem JD(w:World)(l:List UInt8)(C:Array Value)(n:Nat)(fr:Nat×Nat)(hn:l.length=n)(hl:n<=1000)(hC:C=(l.map fun(x:UInt8)=>Value.int .u8 (x.toNat:Int)).toArray):ou (w.alloc (.cells C 5 fr)) (.slice (some ⟨w.heap.size,0,none⟩) n n) ⟨l.toArray⟩:=by
 subst hC;refine .inr ⟨w.heap.size,0,n,by rw[size_at,hn],by rw[size_at,hn];exact fC _,by simp only[maxLen];omega,λj hj=>?_⟩;rw[size_at]at hj;rw[o6,Sg.get_at,Hy,nO,j5,lU hj,jS,lU hj];rfl
end
section
open Go.ChangeShapes Go.WideShapes Go.ChangeAt Go.RowKit
theorem own:ownKnob prog.godebug=none:=by kernel_rfl
theorem laidOut:laidOutB prog=true:=by kernel_rfl
theorem Dl{P:Program}{w:World}{base:Nat}{t e:TypeId}{x:Addr}{len cap:Nat}(ht:P.underlying t=some (.slice e))(h:Value.okWide P w .any base t (.slice (some x) len cap)):x.spot=none:=by
 simp only[Value.okWide,ht,Cell.okWide]at h;simp only[Cell.ok,ht]at h;exact h.2.2.2.1
def rX(k:IntKind)(w:World)(v:Value)(l:List Int):Prop:=
 ((v=.slice none 0 0/\l=[])\/∃b off cap,v=.slice (some ⟨b,off,none⟩) l.length cap/\l.length<=cap/\cap<=maxLen/\∀j,j<l.length->w.cell? ⟨b,off+j,none⟩=some (.int k (l.getD j 0)))/\∀n∈l,(Lit.int k n).wf=true
theorem qO{H:Type}{enc:TypeId×Value->H}{w:World}{base:Nat}{t e:TypeId}{k:IntKind}{v:Value}{d:DataW H}{p:List MemPlace}
 (ht:prog.underlying t=some (.slice e)) (he:prog.underlying e=some (.int k)) (hce:prog.cellsOf e=1)
 (hv:Value.okWide prog w .any base t v) (h:DataW.Trod enc prog w 0 (λ_=>true) true t v d p):∃l,rX k w v l:=by
 obtain⟨a,len,cap,rfl⟩:=okWide_slice ht hv;obtain⟨fuel,hf⟩:=h;rcases open_ints ht he hce hf with⟨hcs,_⟩|⟨x,l,c,zs,hcs,_,hl,hm,hz,_,hcell,hwz⟩
 ·simp[Value.cells]at hcs;obtain⟨rfl,rfl,rfl⟩:=hcs;exact⟨[],.inl ⟨rfl,rfl⟩,by simp⟩
 simp[Value.cells]at hcs;obtain⟨rfl,rfl,rfl⟩:=hcs;have hsp:=Dl ht hv;obtain⟨b,off,spot⟩:=x;simp only at hsp;subst hsp;have hzl:zs.length=cap:=by simpa using hz
 have hlen:(zs.take len).length=len:=by rw[jQ];omega
 refine⟨zs.take len,.inr ⟨b,off,cap,by rw[hlen],by rw[hlen];exact hl,hm,λj hj=>?_⟩,λn hn=>hwz n (OA hn)⟩;rw[hlen]at hj;have:=hcell j (by omega);rw[addr_add]at this;rw[this];simp[List.getD,hj]
theorem Ce{w:World}{v:Value}{l:List Int}(h:rX .u8 w v l):∃s,ou w v s:=by
 obtain⟨h1,hwf⟩:=h;have hb:∀n∈l,0<=n/\n<256:=λn hn=>by
  have:=bounds_u8 (hwf n hn);omega
 refine⟨⟨(l.map λn=>UInt8.ofNat n.toNat).toArray⟩,?_⟩;have hsz:(⟨(l.map λn=>UInt8.ofNat n.toNat).toArray⟩:ByteArray).size=l.length:=by simp[ByteArray.size]
 rcases h1 with⟨rfl,rfl⟩|⟨b,off,cap,rfl,h2,h3,h4⟩
 ·exact .inl ⟨rfl,rfl⟩
 refine .inr ⟨b,off,cap,by rw[hsz],by rw[hsz];exact h2,h3,λj hj=>?_⟩;rw[hsz]at hj;rw[h4 j hj,<-zt,jS,jS];have hx:=hb l[j] (List.getElem_mem hj);simp[hj];omega
theorem Dm{H:Type}{enc:TypeId×Value->H}{w:World}{base:Nat}{v:Value}{d:DataW H}{p:List MemPlace}
 (hv:Value.okWide prog w .any base 23 v) (h:DataW.Trod enc prog w 0 (λ_=>true) true 23 v d p):∃s,ou w v s:=by
 obtain⟨l,hl⟩:=qO underlying23 underlying5 (by kernel_rfl) hv h;exact Ce hl
end
section
open Go.RowKit
theorem rX.shape{k:IntKind}{w:World}{v:Value}{l:List Int}(h:rX k w v l):∃a cap,v=.slice a l.length cap:=by
 rcases h.1 with⟨h1,h2⟩|⟨b,off,cap,h1,_⟩
 ·exact⟨none,0,by rw[h1,h2];rfl⟩
 exact⟨_,_,h1⟩
theorem rX.below{k:IntKind}{w w':World}{v:Value}{l:List Int}(h:rX k w v l)(hb:Below w.heap.size w w'):rX k w' v l:=by
 refine⟨?_,h.2⟩;rcases h.1 with h1|⟨b,off,cap,h1,h2,h3,h4⟩
 ·exact .inl h1
 refine .inr ⟨b,off,cap,h1,h2,h3,λj hj=>?_⟩;have h5:=h4 j hj;rw[hb.cell (p:=⟨b,off+j,none⟩) (lt_of_cell h5)];exact h5
theorem rX.at_{k:IntKind}{w:World}{a:Option Addr}{l:List Int}{cap j:Nat}(h:rX k w (.slice a l.length cap) l)(hj:j<l.length):
 ∃b off,a=some ⟨b,off,none⟩/\l.length<=cap/\cap<=maxLen/\w.cell? ⟨b,off+j,none⟩=some (.int k (l.getD j 0)):=by
 rcases h.1 with⟨_,hz⟩|⟨b,off,cap',hv,g2,g3,g4⟩
 ·rw[hz]at hj;exact absurd hj (uY _)
 obtain⟨rfl,-,rfl⟩:=mq hv;exact⟨b,off,rfl,g2,g3,g4 j hj⟩
theorem rX.len{k:IntKind}{w:World}{v:Value}{l:List Int}(h1:rX k w v l):l.length<=9223372036854775807:=by
 rcases h1.1 with⟨_,hz⟩|⟨_,_,_,_,g2,g3,_⟩
 ·rw[hz];exact gG _
 simp only[maxLen]at g3;omega
end
section
open Go.RowKit
open Sg
open Sq
theorem Cf(x n:Int)(w:World)(h1:1<=n)(h2:n<=100000):
 Calls prog 22 #[.int .i64 x,.int .i64 n] w λe w'=>e=.returned (.int .i64 (pg x n))/\w=w':=by
 have hb1:=Am x (show 0<n by omega);have hb2:-n<x.tmod n:=by
  have:=Am (-x) (show 0<n by omega);rw[Lv]at this;omega
 have hz:(n==0)=false:=by simp;omega
 have hn1:n≠0:=by omega
 unfold pg;by_cases hc:x.tmod n<0
 ·rw[eT hc]
  go_enter func22,ntmps22
  go_wp2;go_ret;exact⟨rfl,rfl⟩
 rw[eQ hc]
 go_enter func22,ntmps22
 go_wp2;go_ret;exact⟨rfl,rfl⟩
theorem EF(x:Int)(n:Nat)(m:Int)(hm:m=(n:Int))(h1:1<=n)(h2:n<=100000):∃k:Nat,k<n/\∀w:World,Calls prog 22 #[.int .i64 x,.int .i64 m] w λe w'=>e=.returned (.int .i64 (k:Int))/\w=w':=by
 subst hm;have hb:=zN x n (by omega);refine⟨(pg x n).toNat,by omega,λw=>?_⟩;have:=Cf x n w (by omega) (by omega);rw[show((pg x n).toNat:Int)=pg x n from by omega];exact this
end
section
open Go.RowKit
open Sg
open Sq
def Iw:List (List UInt8):=[[45,32],[97,58,32],[98,58,32,49],[45,32,99,58,32],[45,32,45,32,100],[116,101,120,116],[91,49,44,32,50,93],[45,32,124],[101,58,32,62],[102,58],[45],[39,113,39,58,32,122],[45,45,45],[46,46,46],[35,32,99],[123,97,58,32],[45,32,53,32,54],[107,58,32,118,58,32,119],[42,120],[38,121,32,122]]
abbrev D6:Array Value:=#[.string ⟨#[45,32]⟩,.string ⟨#[97,58,32]⟩,.string ⟨#[98,58,32,49]⟩,.string ⟨#[45,32,99,58,32]⟩,.string ⟨#[45,32,45,32,100]⟩,.string ⟨#[116,101,120,116]⟩,.string ⟨#[91,49,44,32,50,93]⟩,.string ⟨#[45,32,124]⟩,.string ⟨#[101,58,32,62]⟩,.string ⟨#[102,58]⟩,.string ⟨#[45]⟩,.string ⟨#[39,113,39,58,32,122]⟩,.string ⟨#[45,45,45]⟩,.string ⟨#[46,46,46]⟩,.string ⟨#[35,32,99]⟩,.string ⟨#[123,97,58,32]⟩,.string ⟨#[45,32,53,32,54]⟩,.string ⟨#[107,58,32,118,58,32,119]⟩,.string ⟨#[42,120]⟩,.string ⟨#[38,121,32,122]⟩]
theorem JE:D6=(Iw.map λp=>Value.string ⟨p.toArray⟩).toArray:=rfl
def Plain(l:List UInt8):Prop:=∀c∈l,c<128/\c≠9
theorem F7:∀k:Fin 20,((Iw[k.val]?).map λp=>decide (p.length<=8)&&p.all (λc=>decide (c<128)&&decide (c≠9)))=some true:=by decide+kernel
theorem Mx(k:Nat)(hk:k<20):∃X:ByteArray,X.size<=8/\Plain X.data.toList/\D6[k]?=some (.string X):=by
 have h:=F7 ⟨k,hk⟩;simp only at h;cases hp:Iw[k]? with
 |none=>rw[hp]at h;cases h
 |some p=>
  rw[hp,FF]at h;have h:=jF h;rw[qQ,Ic,Ol]at h;refine⟨⟨p.toArray⟩,by show p.toArray.size<=8;simpa using h.1,λc hc=>?_,?_⟩
  ·have:=h.2 c (by simpa using hc)
   simpa using this
  rw[JE,Hy,nO,hp];rfl
structure yx(S:ByteArray):Prop where
 plain:Plain S.data.toList
 last:S.data.toList=[]\/∃x,S.data.toList=x++[10]
abbrev wD:ByteArray:=⟨#[32,32,32,32,32,32,32,32]⟩
theorem F8(k:Nat)(h:k<=8):∃C:ByteArray,C.size=k/\Plain C.data.toList/\∀W:World,(Instr.slice 9 (.string ⟨#[32,32,32,32,32,32,32,32]⟩) none (some (.int .i64 (k:Int))) none).run prog W=.ok (.string C) W:=by
 have hs:wD.size=8:=rfl;have hd:(wD.extract 0 k).data.toList=List.replicate k 32:=by
  rw[Qg,Qf];show((List.replicate 8 (32:UInt8)).drop 0).take (k-0)=_;rw[xU,Nat.sub_zero,List.take_replicate,Cv h]
 refine⟨wD.extract 0 k,?_,λc hc=>?_,λW=>?_⟩
 ·rw[Fu,hs];omega
 ·rw[hd,List.mem_replicate]at hc;rw[hc.2];decide
 show(Instr.slice 9 (.string wD) none (some (.int .i64 (k:Int))) none).run prog W=_;rw[run_slice_string_h W 9 wD underlying9 .i64 k (by omega) (by rw[hs];omega)];simp
theorem yx.put{S C Y:ByteArray}(h:yx S)(hC:Plain C.data.toList)(hY:Plain Y.data.toList):yx (S++C++Y++⟨#[10]⟩):=by
 have e:(S++C++Y++(⟨#[10]⟩:ByteArray)).data.toList=(S.data.toList++C.data.toList++Y.data.toList)++[10]:=by simp[ByteArray.data_append]
 refine⟨λc hc=>?_,.inr ⟨_,e⟩⟩;rw[e,kS,kS,kS]at hc;rcases hc with((hc|hc)|hc)|hc
 ·exact h.plain c hc
 ·exact hC c hc
 ·exact hY c hc
 obtain rfl:=sN.1 hc;decide
def IZ(w:World)(e:Ending)(w':World):Prop:=∃v,∃S:ByteArray,e=.returned v/\ou w' v S/\S.size<=600/\yx S/\Below w.heap.size w w'
theorem F9(v0:Value)(l0:List Int)(w:World)(h0:rX .i64 w v0 l0):
 Calls prog 6 #[v0] w (IZ w):=by
 obtain⟨Q,hQ⟩:=eX (IZ w);rw[hQ];obtain⟨a0,cap0,rfl⟩:=h0.shape;have hl:=h0.len;obtain⟨NL,aa⟩:=eX (l0.length);rw[aa]at hl;obtain⟨H0,HQ,ak⟩:=gW h0 hQ aa;clear h0 hQ;rw[aa];clear aa
 go_enter func6,ntmps6
 go_wp2_with fail
 go_loopw [3,4] (λsv iv wr=>∃(k:Nat)(S:ByteArray),iv=.int .i64 k/\k<=30/\sv=.string S/\Hid (S.size<=17*k/\yx S/\Below w.heap.size w wr)) (λ_ iv _=>30-(intOf iv).toNat)
 case atStart=>exact⟨0,⟨#[]⟩,rfl,by omega,rfl,eu ⟨gG _,⟨λc hc=>(by cases hc),.inl rfl⟩,fu _ w⟩⟩
 case round=>
  obtain⟨k,S,rfl,hk,rfl,HS⟩:=hrel;by_cases hlt:k<NL/\k<30
  ·obtain⟨hlt1,hlt2⟩:=hlt;have i1:(k:Int)<(NL:Int):=by omega
   have i2:(k:Int)<30:=by omega
   obtain⟨nb,no,rfl,q2,q3,hc1⟩:=(H0.out.below HS.out.2.2).at_ (by rw[ak.out];exact hlt1);obtain⟨y,hy⟩:=eX (l0.getD k 0);rw[hy]at hc1;obtain⟨j1,hj1,hw1⟩:=EF y 7 7 rfl (by decide) (by decide);obtain⟨y7,av⟩:=eX (IntKind.i64.wrap (y.tdiv 7));obtain⟨j2,hj2,hw2⟩:=EF y7 20 20 rfl (by decide) (by decide);obtain⟨C1,ax,ag,ay⟩:=F8 j1 (by omega);obtain⟨Y,az,ah,ai⟩:=Mx j2 hj2;have hsz:=HS.out.1;have n1:¬(9223372036854775807<S.size+C1.size):=by omega
   have n2:¬(9223372036854775807<S.size+C1.size+Y.size):=by omega
   have n3:¬(9223372036854775807<S.size+C1.size+Y.size+1):=by omega
   have i9:(j2:Int)<20:=by omega
   have i90:(0:Int)<=(j2:Int):=by omega
   obtain⟨WX,ae⟩:=eX ((wr.alloc (.cells D6 9)).drew);have hbX:Below wr.heap.size wr WX:=ae▸((fu _ wr).alloc (fC _) _).drew;obtain⟨BX,af⟩:=eX (wr.heap.size);have xl:WX.cell? ⟨BX,j2,none⟩=some (.string Y):=by
    rw[<-ae,<-af];show(wr.alloc (.cells D6 9)).cell? ⟨wr.heap.size,j2,none⟩=_;rw[OO];exact ai
   have xc:WX.cell? ⟨nb,no+k,none⟩=some (.int .i64 y):=fe hbX hc1;have hfz:(S++C1++Y++(⟨#[10]⟩:ByteArray)).size<=17*(k+1):=by rw[kJ,kJ,kJ];show _+1<=_;omega
   have aj:=eu (show(S++C1++Y++(⟨#[10]⟩:ByteArray)).size<=17*(k+1)/\yx (S++C1++Y++⟨#[10]⟩)/\Below w.heap.size w WX from⟨hfz,HS.out.2.1.put ag ah,HS.out.2.2.trans (hbX.mono HS.out.2.2.size)⟩);obtain⟨HW1,HW2⟩:=fD hw1 hw2;have aA:=eu (show(wr.alloc (.cells #[.string ⟨#[45,32]⟩,.string ⟨#[97,58,32]⟩,.string ⟨#[98,58,32,49]⟩,.string ⟨#[45,32,99,58,32]⟩,.string ⟨#[45,32,45,32,100]⟩,.string ⟨#[116,101,120,116]⟩,.string ⟨#[91,49,44,32,50,93]⟩,.string ⟨#[45,32,124]⟩,.string ⟨#[101,58,32,62]⟩,.string ⟨#[102,58]⟩,.string ⟨#[45]⟩,.string ⟨#[39,113,39,58,32,122]⟩,.string ⟨#[45,45,45]⟩,.string ⟨#[46,46,46]⟩,.string ⟨#[35,32,99]⟩,.string ⟨#[123,97,58,32]⟩,.string ⟨#[45,32,53,32,54]⟩,.string ⟨#[107,58,32,118,58,32,119]⟩,.string ⟨#[42,120]⟩,.string ⟨#[38,121,32,122]⟩] 9)).drew=WX from ae);have aB:=eu af;clear hy hw1 hw2 ag ah ai ae hbX af hfz hsz HS az ax;go_upto_region 5 with fail
   refine fB (λwx=>wx.cell? ⟨nb,no+k,none⟩=some (.int .i64 y)) 19 (by kernel_rfl) ?_;have hH:(λwx:World=>wx.cell? ⟨nb,no+k,none⟩=some (.int .i64 y)) wr.drew:=iY hc1;refine fw 0 (.string S) rfl (by kernel_rfl) rfl eY (λW hW=>by go_simp) hH ?_;refine fw 1 (.slice (some ⟨nb,no,none⟩) NL cap0) rfl (by kernel_rfl) rfl eY (λW hW=>by go_simp) hH ?_;refine fw 2 (.int .i64 (k:Int)) rfl (by kernel_rfl) rfl eY (λW hW=>by go_simp) hH ?_;refine fw 3 (.pointer (some ⟨nb,no+k,none⟩)) rfl (by kernel_rfl) rfl eY (λW hW=>by go_simp) hH ?_;refine fw 4 (.int .i64 y) rfl (by kernel_rfl) rfl eY (λW hW=>by go_simp) hH ?_;refine oq (i:=5) (oi:=⟨_,_,_,_,_,_⟩) (v:=.int .i64 (j1:Int)) rfl (by kernel_rfl) (by kernel_rfl) (by kernel_rfl) (by kernel_rfl) (by kernel_rfl) eY (Or.inl ⟨rfl,λW hW=>?_⟩) hH ?_
   ·refine fZ.zG (f:=22) (args:=#[.int .i64 y,.int .i64 7]) ?_ ?_
    ·go_simp
    exact HW1.out _
   try simp only[Act.put,fF,fH,fG]
   refine fw 6 (.string C1) rfl (by kernel_rfl) rfl eY (λW hW=>by go_simp) hH ?_;refine fw 7 (.string (S++C1)) rfl (by kernel_rfl) rfl eY (λW hW=>by go_simp) hH ?_;refine fw 9 (.slice (some ⟨nb,no,none⟩) NL cap0) rfl (by kernel_rfl) rfl eY (λW hW=>by go_simp) hH ?_;refine fw 10 (.int .i64 (k:Int)) rfl (by kernel_rfl) rfl eY (λW hW=>by go_simp) hH ?_;refine fw 11 (.pointer (some ⟨nb,no+k,none⟩)) rfl (by kernel_rfl) rfl eY (λW hW=>by go_simp) hH ?_;refine fw 12 (.int .i64 y) rfl (by kernel_rfl) rfl eY (λW hW=>by go_simp) hH ?_;refine fw 13 (.int .i64 y7) rfl (by kernel_rfl) rfl eY (λW hW=>by go_simp) hH ?_;refine oq (i:=14) (oi:=⟨_,_,_,_,_,_⟩) (v:=.int .i64 (j2:Int)) rfl (by kernel_rfl) (by kernel_rfl) (by kernel_rfl) (by kernel_rfl) (by kernel_rfl) eY (Or.inl ⟨rfl,λW hW=>?_⟩) hH ?_
   ·refine fZ.zG (f:=22) (args:=#[.int .i64 y7,.int .i64 20]) ?_ ?_
    ·go_simp
    exact HW2.out _
   try simp only[Act.put,fF,fH,fG]
   refine iD 8 (by kernel_rfl) rfl λK hK=>?_
   go_simp;rw[aA.out];try rw[aB.out]
   refine hK.out _ _ (λ_=>xc) (λhH2=>?_);clear hK K;replace hH:=hH2 (by kernel_rfl);clear hH2;try simp only[Act.put,fF,fH,fG]
   refine fw 15 (.pointer (some ⟨BX,j2,none⟩)) rfl (by kernel_rfl) rfl eY (λW hW=>by go_simp) hH ?_;refine iD 16 (by kernel_rfl) rfl λK hK=>?_
   go_simp;refine hK.out _ _ (λ_=>xc) (λhH2=>?_);clear hK K;replace hH:=hH2 (by kernel_rfl);clear hH2;try simp only[Act.put,fF,fH,fG]
   refine fw 17 (.string (S++C1++Y)) rfl (by kernel_rfl) rfl eY (λW hW=>by go_simp) hH ?_;refine fw 18 (.string (S++C1++Y++⟨#[10]⟩)) rfl (by kernel_rfl) rfl eY (λW hW=>by go_simp) hH ?_;refine iD 19 (by kernel_rfl) rfl λK hK=>?_
   go_simp;refine hK.out _ _ (jg (by kernel_rfl)) (λ_=>?_);clear hK K;try simp only[Act.put,fF,fH,fG]
   refine fA (by kernel_rfl) ?_ _;clear xl xc n1 n2 n3 hc1 av;obtain⟨S2,hS2⟩:=eX (S++C1++Y++(⟨#[10]⟩:ByteArray));rw[hS2]at aj⊢;clear hS2;go_wp2_with fail
   go_roundw
   case rel=>exact⟨k+1,S2,by go_num,by omega,rfl,aj⟩
   case measure=>simp[intOf];omega
  obtain⟨hsz,hln,hbl⟩:=HS.out;obtain⟨cap0,w3,hcv,hrow,hb3⟩:=JC S wr (by unfold maxLen;omega)
  have HD:=eu (show Q (.returned (.slice (some ⟨wr.heap.size,0,none⟩) S.size cap0)) w3 by
   rw[<-HQ.out]
   exact⟨_,S,rfl,hrow.RP,by omega,hln,hbl.trans (hb3.mono hbl.size)⟩)
  clear HS hsz hln hbl hrow hb3;by_cases hlt1:k<NL
  ·have i1:(k:Int)<(NL:Int):=by omega
   have i2:¬((k:Int)<30):=by omega
   clear hlt;go_wp2_with fail
   exact HD.out
  have i1:¬((k:Int)<(NL:Int)):=by omega
  clear hlt;go_wp2_with fail
  exact HD.out
end
end Go.Proofs.YtfbiffdmhcjhbaaGreat

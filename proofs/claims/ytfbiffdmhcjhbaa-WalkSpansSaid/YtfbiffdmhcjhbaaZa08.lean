import Derived.Test.YtfbiffdmhcjhbaaZa01
import Derived.Test.YtfbiffdmhcjhbaaZa04
import Derived.BigQuiet
import Derived.Deep.CutBlock
import Derived.Deep.DeepCutAuto
import Derived.Deep.DeepMust
import Derived.Deep.LoopGhost
import Derived.IntWalk
import Derived.Laws.IdiomStrings
import Derived.Lib.Hide
import Derived.Lib.OthersKept
import Derived.LoopN
import Derived.LoopTactic
import Derived.Maps.AppendAt
import Derived.Outline
import Derived.Test.YtfbiffdmhcjhbaaChecked
import Derived.WalkLawsBesides
import Derived.WalkSmall
import Derived.WalkSpells
set_option linter.all false
set_option maxHeartbeats 16000000
set_option maxRecDepth 100000
namespace Go.Proofs.Ytfbiffdmhcjhbaa
open Go.RowKit Try
def UK:=@Go.below_drewN
def UL:=@IntWalk.i64_in
section
open Go.RowKit
open Sg
theorem addr_add(b off j:Nat):(⟨b,off,none⟩:Addr).add j=⟨b,off+j,none⟩:=by
 unfold Addr.add;split
 ·rename_i h;subst h;rfl
 rfl
theorem C8(b off cap:Nat)(s:ByteArray)(w:World)(hp:∀j,j<s.size->w.cell? ⟨b,off+j,none⟩=some (.int .u8 (s.get! j).toNat)):
 (convert 23 9 (.slice (some ⟨b,off,none⟩) s.size cap)).run prog w=.ok (.string s) w:=by
 have h:=run_convert_bytes_back (P:=prog) w 23 9 5 ⟨b,off,none⟩ cap s.data.toList underlying23 underlying5 underlying9 (λj hj=>by
  have hj':j<s.size:=by rw[vZ];exact hj
  have e:=hp j hj';have e2:s.data.toList[j]=s.get! j:=by
   rw[<-BP];rw[pO,qQ hj];rfl
  rw[e2];rw[addr_add]
  exact e)
 rw[<-vZ]at h
 simpa using h
theorem OZ(w:World)(c:Nat):(convert 23 9 (.slice none 0 c)).run prog w=.ok (.string ⟨#[]⟩) w:=by
 rw[run_convert_bytes_string w 23 9 5 none 0 c underlying23 underlying5 underlying9];simp[Conv.bytesToString];rfl
theorem mU{w w':World}{B e size n:Nat}{v:Value}{xs:List Value}(h:w.ownsRow B e size v n xs)(hb:Below w.heap.size w w'):w'.ownsRow B e size v n xs:=by
 refine⟨h.1,?_⟩;rcases h.2 with h0|⟨g,cap,cur,hv,hbg,hg,rest⟩
 ·exact .inl h0
 have hlt:g<w.heap.size:=(Ng.1 hg).1
 exact .inr ⟨g,cap,cur,hv,hbg,(hb.block g hlt).trans hg,rest⟩
def places(l:List Nat):List Value:=l.map fun(p:Nat)=>Value.int .i64 (p:Int)
theorem Bb(l:List Nat)(p:Nat):places (l++[p])=places l++[.int .i64 (p:Int)]:=by simp[places]
theorem J8:(prog.info? 3).map (λi=>(i.zero,i.size,i.bytes))=some (some (.int .i64 0),1,8):=by kernel_rfl
end
namespace Sc
open Sg
theorem RV:ni []=[]:=rfl
theorem rJ(c:Nat)(t:List Nat)(h:brk c=true):ni (c::t)=[]/\nP (c::t)=0:=by
 have:nP (c::t)=0:=by unfold nP;rw[run,fu (by rw[h];decide)]
 exact⟨by unfold ni;rw[this];rfl,this⟩
theorem qd(c:Nat)(t:List Nat)(h:brk c=false):ni (c::t)=c::ni t/\nP (c::t)=nP t+1:=by
 have:nP (c::t)=nP t+1:=by unfold nP;rw[run,gu (by rw[h];rfl)]
 exact⟨by unfold ni;rw[this];rfl,this⟩
theorem zA(l:List Nat)(j:Nat)(h:j<=nP l):(ni l).drop j=ni (l.drop j):=by
 unfold ni;rw[Ej l j h,List.drop_take]
def uR:List Nat->Bool
 |[]=>true
 |c::_=>blk c||brk c
theorem Cw(t:List Nat):part (ni t)=uR t:=by
 cases t with
 |nil=>rfl
 |cons c r=>
  cases h:brk c with
  |true=>rw[(rJ c r h).1];simp[part,uR,h]
  |false=>rw[(qd c r h).1];simp[part,uR,h]
def zW(op:Bool):List Nat->Bool
 |[]=>true
 |c::_=>blk c||brk c||(op&&QQ c)
theorem FB(op:Bool)(t:List Nat):key op (ni t)=zW op t:=by
 cases t with
 |nil=>rfl
 |cons c r=>
  cases h:brk c with
  |true=>rw[(rJ c r h).1];simp[key,zW,h]
  |false=>rw[(qd c r h).1];simp[key,zW,h]
def Fb(op:Bool):List Nat->Bool
 |[]=>false
 |c::r=>c==58&&zW op r
def markT:List Nat->Nat
 |c::d::e::t=>if d=c/\e=c/\uR t=true then(if c=45 then 20 else if c=46 then 21 else 0)else 0
 |_=>0
theorem Ja(c d e:Nat)(t:List Nat):mark (c::d::e::t)=if c=45/\d=45/\e=45 then(if part t=true then 20 else 0)else if c=46/\d=46/\e=46 then(if part t=true then 21 else 0)else 0:=by
 simp[mark]
theorem yU(r:List Nat)(h:r.length<3):mark r=0:=by
 cases hm:mark r with
 |zero=>rfl
 |succ n=>have:=Cs r (by omega);omega
theorem uL(l:List Nat):mark (ni l)=markT l:=by
 have hl:=pN l
 match l with
 |[]=>rfl
 |[c]=>exact yU _ (by rw[hl];have:=ru [c];simp at this;omega)
 |[c,d]=>exact yU _ (by rw[hl];have:=ru [c,d];simp at this;omega)
 |c::d::e::t=>
  rw[markT];have hs:brk c=true\/brk d=true\/brk e=true->mark (ni (c::d::e::t))=0:=by
   intro h;refine yU _ ?_;rw[hl];cases hc:brk c with
   |true=>rw[(rJ c _ hc).2];omega
   |false=>
    rw[(qd c _ hc).2];cases hd:brk d with
    |true=>rw[(rJ d _ hd).2];omega
    |false=>
     rw[(qd d _ hd).2];cases he:brk e with
     |true=>rw[(rJ e _ he).2];omega
     |false=>simp[hc,hd,he]at h
  by_cases hb:brk c=true\/brk d=true\/brk e=true
  ·rw[hs hb];split
   ·rename_i h;obtain⟨rfl,rfl,-⟩:=h;have hb:brk e=true:=by simpa using hb
    rw[fu (by intro h;subst h;simp[brk]at hb),fu (by intro h;subst h;simp[brk]at hb)]
   rfl
  obtain⟨h1,h2,h3⟩:brk c=false/\brk d=false/\brk e=false:=by simpa [not_or]using hb
  rw[(qd c _ h1).1,(qd d _ h2).1,(qd e _ h3).1,Ja,Cw];by_cases g1:c=45
  ·subst g1;by_cases g2:d=45
   ·subst g2;by_cases g3:e=45
    ·subst g3;cases uR t<;>simp
    simp[g3]
   simp[g2]
  by_cases g1':c=46
  ·subst g1';by_cases g2:d=46
   ·subst g2;by_cases g3:e=46
    ·subst g3;cases uR t<;>simp
    simp[g3]
   simp[g2]
  simp[g1,g1']
theorem tu(p:Nat->Bool)(hp:∀c,p c=true->brk c=false)(l:List Nat):run p (ni l)=run p l:=by
 induction l with
 |nil=>rfl
 |cons c t ih=>
  cases h:brk c with
  |true=>
   rw[(rJ c t h).1,run,run,fu (λg=>by rw[hp c g]at h;cases h)]
  |false=>rw[(qd c t h).1,run,run,ih]
theorem zB(p:Nat->Bool)(hp:∀c,p c=true->brk c=false)(l:List Nat):run p l<=nP l:=by
 rw[<-tu p hp,<-pN];exact vw _ _
theorem xZ(c:Nat)(h:blk c=true):brk c=false:=by simp[blk,brk]at*;omega
theorem FC(c:Nat)(h:wZ c=true):brk c=false:=by simp[wZ,brk]at*;omega
theorem Bv(c:Nat)(h:Ae c=true):brk c=false:=by simp[Ae,brk]at*;omega
theorem RX(c:Nat)(h:Nf c=true):brk c=false:=by
 rw[Nf,Nj]at h;rcases h with h|h
 ·simp[brk]at*;omega
 exact Bv c h
theorem J9(p:Nat->Bool)(l:List Nat):l.drop (run p l)=[]\/∃c t,l.drop (run p l)=c::t/\p c=false:=by
 induction l with
 |nil=>exact .inl rfl
 |cons c t ih=>
  rw[run];cases hc:p c with
  |true=>rw[gu rfl];exact ih
  |false=>rw[fu (by decide)];exact .inr ⟨c,t,rfl,hc⟩
theorem rM{l:List Nat}{k c:Nat}{t:List Nat}(h:l.drop k=c::t):k<l.length/\l.drop (k+1)=t/\l.length=k+1+t.length:=by
 have h1:=congrArg List.length h;rw[oz,nI]at h1;refine⟨by omega,?_,by omega⟩;rw[<-sG,h];rfl
theorem RY{l:List Nat}{k:Nat}(h:l.drop k=[]):l.length<=k:=by
 have h1:=congrArg List.length h;rw[oz]at h1;simp at h1;omega
theorem oO(p:Nat->Bool)(c:Nat)(t:List Nat):run p (c::t)=if p c=true then run p t+1 else 0:=rfl
theorem RZ(r:List Nat)(hr:r≠[])(d:Nat)(t:List Nat)(hd:d<128):qV (r++d::t)=qV r:=by
 have h2:¬d/64=2:=by omega
 match r,hr with
 |[a],_=>simp[qV,xm,Lib.decodeN,h2]
 |[a,b],_=>simp[qV,xm,Lib.decodeN,h2]
 |[a,b,c],_=>simp[qV,xm,Lib.decodeN,h2]
 |a::b::c::e::r',_=>simp[qV,xm,Lib.decodeN]
theorem LM(l:List Nat):ni l=l\/∃d t,l=ni l++d::t/\brk d=true:=by
 have h:=J9 (λc=>!brk c) l;have e:ni l++l.drop (nP l)=l:=by unfold ni;exact List.take_append_drop _ _
 rcases h with h|⟨d,t,h,hd⟩
 ·left;have:l.drop (nP l)=[]:=h;rw[this,rD]at e;exact e
 right;have:l.drop (nP l)=d::t:=h;rw[this]at e;exact⟨d,t,e.symm,by simpa using hd⟩
theorem U2(d:Nat)(h:brk d=true):d<128:=by simp[brk]at h;omega
theorem zo(l:List Nat)(h:nP l≠0):qV (ni l)=qV l:=by
 have hne:ni l≠[]:=λe=>by have:=pN l;rw[e]at this;exact h this.symm
 rcases LM l with e|⟨d,t,e,hd⟩
 ·rw[e]
 have:=RZ (ni l) hne d t (U2 d hd);rw[<-e]at this;exact this.symm
def BV(op pb:Bool):List Nat->Bool
 |[]=>true
 |c::r=>decide ((qV (c::r)).1<0)||brk c||(c==58&&zW op r)||(c==35&&pb)||(op&&QQ c)
theorem Gv(op pb:Bool)(l:List Nat):stop op pb (ni l)=BV op pb l:=by
 cases l with
 |nil=>rfl
 |cons c t=>
  cases h:brk c with
  |true=>rw[(rJ c t h).1];simp[stop,BV,h]
  |false=>
   have h1:=(qd c t h).1;have h2:=zo (c::t) (by rw[(qd c t h).2];omega);rw[h1]at h2;rw[h1,stop,bad,h2,FB,BV,h,Um]
theorem D6(op:Bool)(p:Nat)(l:List Nat)(h:BV op (blk p) l=true):sw op p (ni l)=0:=I5 op p _ (by rw[Gv];exact h)
theorem zC(l:List Nat)(j:Nat)(h:j<nP l):(ni l).getD j 0=l.getD j 0:=by
 unfold ni;rw[pO,pO,Nn,gu h]
theorem Ao(l:List Nat)(h:nP l≠0):1<=(qV l).2/\(qV l).2<=nP l:=by
 have hne:ni l≠[]:=λe=>by have:=pN l;rw[e]at this;exact h this.symm
 obtain⟨c,t,e⟩:=List.exists_cons_of_ne_nil hne;have h1:=Bq c t;have h2:=Ob c t;rw[<-e,zo l h]at h1 h2;rw[pN]at h2;exact⟨h1,h2⟩
theorem Hz(op:Bool)(p:Nat)(l:List Nat)(h:BV op (blk p) l=false):sw op p (ni l)=(qV l).2+sw op (l.getD ((qV l).2-1) 0) (ni (l.drop (qV l).2))/\1<=(qV l).2/\(qV l).2<=nP l:=by
 have h0:nP l≠0:=by
  intro e;cases l with
  |nil=>cases h
  |cons c t=>
   cases hb:brk c with
   |true=>simp[BV,hb]at h
   |false=>rw[(qd c t hb).2]at e;omega
 have h1:=Ao l h0;rw[OQ op p _ (by rw[Gv];exact h),zo l h0,zA l _ h1.2,zC l _ (by omega)];exact⟨rfl,h1⟩
theorem goes_le(op:Bool):∀(f p:Nat)(l:List Nat),goes op f p l<=l.length
 |0,_,_=>nO _
 |f+1,p,l=>by
  rw[goes];split
  ·exact nO _
  rename_i h;cases l with
  |nil=>exact absurd rfl h
  |cons c r=>
   have h1:=Ob c r;have h2:=goes_le op f ((c::r).getD ((qV (c::r)).2-1) 0) ((c::r).drop (qV (c::r)).2);rw[oz]at h2;omega
theorem LP(op:Bool)(l:List Nat)(h:nP l≠0)(N:Nat)(hN:(qV l).2+sw op (l.getD ((qV l).2-1) 0) (ni (l.drop (qV l).2))=N):wC op (ni l)=trim ((ni l).take N)/\N<=nP l/\1<=N:=by
 have h1:=Ao l h;have h2:sw op (l.getD ((qV l).2-1) 0) (ni (l.drop (qV l).2))<=(ni (l.drop (qV l).2)).length:=by
  exact goes_le op _ _ _
 rw[pN,Ej l _ h1.2]at h2;rw[Aj,zo l h,zA l _ h1.2,zC l _ (by omega),hN];exact⟨rfl,by omega,by omega⟩
theorem LQ(l:List Nat)(c:Nat):trim (l++[c])=if blk c=true then trim l else l.length+1:=by
 induction l with
 |nil=>cases h:blk c<;>simp[trim,h]
 |cons a r ih=>
  rw[Q5,trim,ih];cases h:blk c with
  |true=>rw[gu rfl,gu rfl,trim]
  |false=>simp
theorem Em(l:List Nat)(k:Nat)(h:k<l.length):trim (l.take (k+1))=if blk (l.getD k 0)=true then trim (l.take k)else k+1:=by
 rw[Ir,qQ h,Option.toList_some,LQ,pO,qQ h,UF,qx,Ll (AV h)]
theorem O3(l:List Nat)(h:0<l.length)(hb:blk (l.getD 0 0)=false):trim (l.take 1)=1:=by
 rw[Em l 0 h,hb];rfl
def T6(rest:List Nat):Bool:=
 match rest.drop (run blk rest)with
 |[]=>true
 |c::_=>brk c||(c==35&&decide (0<run blk rest))
theorem O4(t:List Nat):part t=(t.isEmpty||decide (0<run blk t)):=by
 cases t with
 |nil=>rfl
 |cons c r=>cases h:blk c<;>simp[part,run,h]
theorem O5(l:List Nat):ID (ni l)=T6 l:=by
 have hr:=tu blk xZ l;have hle:=zB blk xZ l;unfold ID T6;rw[hr,zA l _ hle,O4,hr];rcases J9 blk l with h|⟨c,t,h,hc⟩
 ·rw[h,RV];rfl
 rw[h];cases hb:brk c with
 |true=>rw[(rJ c t hb).1];simp[hb]
 |false=>
  have he:(ni l).isEmpty=false\/run blk l=0:=by
   by_cases h0:run blk l=0
   ·exact .inr h0
   left;have:=pN l;cases e:ni l with
   |nil=>rw[e]at this;simp at this;omega
   |cons x y=>rfl
  rw[(qd c t hb).1];simp only[hsh,hb,Nh];have hne:(c::ni t==[])=false:=by rfl
  rw[hne,Nh,Bool.and_comm];rcases he with he|he
  ·rw[he,Nh]
  rw[he]at h;have h':l=c::t:=h;subst h';rw[(qd c t hb).1];rfl
def uB:List Nat->Nat
 |[]=>0
 |c::r=>if c=124\/c=62 then(if T6 ((c::r).drop (uU r))=true then uU r else 0)else 0
theorem En(r:List Nat):uU (ni r)=uU r:=by
 cases r with
 |nil=>rfl
 |cons c t=>
  cases hb:brk c with
  |true=>
   rw[(rJ c t hb).1];have h1:c≠43:=by rintro rfl;simp[brk]at hb
   have h2:c≠45:=by rintro rfl;simp[brk]at hb
   simp[uU,h1,h2]
  |false=>rw[(qd c t hb).1];rfl
theorem Jb(r:List Nat):uU r<=nP r+1:=by
 have:=Cr (ni r);rw[En,pN]at this;exact this
theorem O6(l:List Nat)(h:nP l≠0):vG (ni l)=uB l:=by
 cases l with
 |nil=>exact absurd rfl h
 |cons c t=>
  cases hb:brk c with
  |true=>exact absurd (rJ c t hb).2 h
  |false=>
   have h1:=(qd c t hb).1;have h2:=(qd c t hb).2;have h3:=Jb t;rw[h1,vG,uB,En,<-h1,zA (c::t) _ (by omega),O5]
end Sc
section
open Go.RowKit
open Sg
def Rp(n p x y:Nat):Nat:=if x=13 then(if p+1<n/\y=10 then 2 else 1)else if x=10 then 1 else 0
theorem O7(b off cap n p x y:Nat)(w:World)(hn:p<n)(hm:n<=9223372036854775807)(h0:w.cell? ⟨b,off+p,none⟩=some (.int .u8 x))(h1:p+1<n->w.cell? ⟨b,off+(p+1),none⟩=some (.int .u8 y)):
 Calls prog 54 #[.slice (some ⟨b,off,none⟩) n cap,.int .i64 p] w λe w'=>e=.returned (.int .i64 (Rp n p x y))/\w=w':=by
 have hlt:(p:Int)<(n:Int):=by omega
 have hge:¬((n:Int)<=(p:Int)):=by omega
 unfold Rp;by_cases c1:x=13
 ·subst c1;by_cases c2:p+1<n
  ·have g1:=h1 c2;have hl2:(p:Int)+1<(n:Int):=by omega
   clear h1;by_cases c3:y=10
   ·subst c3;rw[gu rfl,gu ⟨c2,rfl⟩]
    go_enter func54,ntmps54
    go_wp2;go_ret;exact⟨rfl,rfl⟩
   have hb:((y:Int)==10)=false:=by simp;omega
   rw[gu rfl,fu (λh=>c3 h.2)];clear c3
   go_enter func54,ntmps54
   go_wp2;go_ret;exact⟨rfl,rfl⟩
  have hl2:¬((p:Int)+1<(n:Int)):=by omega
  rw[gu rfl,fu (λh=>c2 h.1)];clear c2 h1
  go_enter func54,ntmps54
  go_wp2;go_ret;exact⟨rfl,rfl⟩
 have ha:((x:Int)==13)=false:=by simp;omega
 rw[fu c1];clear c1 h1;by_cases c2:x=10
 ·subst c2;rw[gu rfl]
  go_enter func54,ntmps54
  go_wp2;go_ret;exact⟨rfl,rfl⟩
 have hb:((x:Int)==10)=false:=by simp;omega
 rw[fu c2];clear c2
 go_enter func54,ntmps54
 go_wp2;go_ret;exact⟨rfl,rfl⟩
theorem uM(c:Nat)(w:World):
 Calls prog 56 #[.int .u8 c] w λe w'=>e=.returned (.bool (Sc.blk c))/\w=w':=by
 go_enter func56,ntmps56
 go_wp2;all_goals
  go_ret;refine⟨?_,rfl⟩;refine congrArg (λb=>Ending.returned (.bool b)) ?_;rw[zS];simp[Sc.blk]at*;try omega
theorem R9(c:Nat)(w:World):
 Calls prog 74 #[.int .u8 c] w λe w'=>e=.returned (.bool (Sc.Ae c))/\w=w':=by
 go_enter func74,ntmps74
 go_wp2;all_goals
  go_ret;refine⟨?_,rfl⟩;refine congrArg (λb=>Ending.returned (.bool b)) ?_;rw[zS];simp[Sc.Ae]at*;try omega
theorem Ka(c:Nat)(w:World):
 Calls prog 75 #[.int .u8 c] w λe w'=>e=.returned (.bool (Sc.QQ c))/\w=w':=by
 go_enter func75,ntmps75
 go_wp2;all_goals
  go_ret;refine⟨?_,rfl⟩;refine congrArg (λb=>Ending.returned (.bool b)) ?_;rw[zS];simp[Sc.QQ]at*;try omega
theorem yj(k:Nat)(w:World):
 Calls prog 38 #[.int .i64 k] w λe w'=>e=.returned (.bool (Sc.counts k))/\w=w':=by
 go_enter func38,ntmps38
 go_wp2;all_goals
  go_ret;refine⟨?_,rfl⟩;refine congrArg (λb=>Ending.returned (.bool b)) ?_;rw[zS];simp[Sc.counts]at*;try omega
theorem LU(n p x y:Nat)(t:List Nat)(h:n=p+1+t.length)(hy:∀d r,t=d::r->y=d):Rp n p x y=Sc.rz (x::t):=by
 unfold Rp;cases t with
 |nil=>
  have h1:¬(p+1<n):=by simp at h;omega
  rw[Sc.rz];simp[h1]
 |cons d r=>
  have:=hy d r rfl;subst this;have h1:p+1<n:=by simp at h;omega
  rw[Sc.rz];simp[h1]
theorem vR(c:Nat)(t:List Nat):Sc.rz (c::t)=0↔Sc.brk c=false:=by
 cases t with
 |nil=>simp[Sc.rz,Sc.brk];(repeat' split)<;>omega
 |cons d r=>simp[Sc.rz,Sc.brk];(repeat' split)<;>omega
theorem Gw(l:List Nat):Sc.rz l<=2:=by
 match l with
 |[]=>decide
 |[c]=>rw[Sc.rz];(repeat' split)<;>omega
 |c::d::t=>rw[Sc.rz];(repeat' split)<;>omega
end
section
open Go.RowKit
open Sg
def yO(w:World)(b off:Nat)(L:List Nat):Prop:=∀(j c:Nat),L[j]?=some c->w.cell? ⟨b,off+j,none⟩=some (.int .u8 c)
theorem yO.below{w w':World}{b off:Nat}{L:List Nat}(h:yO w b off L)(hb:Below w.heap.size w w'):yO w' b off L:=λj c hj=>ku hb (h j c hj)
theorem xH{L:List Nat}{j c:Nat}{t:List Nat}(h:L.drop j=c::t):L[j]?=some c:=by
 have:=congrArg (λl=>l[0]?) h
 simpa using this
theorem yO.at_{w:World}{b off:Nat}{L:List Nat}(h:yO w b off L){j c:Nat}{t:List Nat}(hd:L.drop j=c::t):w.cell? ⟨b,off+j,none⟩=some (.int .u8 c):=h j c (xH hd)
theorem oh(L:List Nat)(i:Nat):(L.drop i=[]/\L.length<=i)\/∃c t,L.drop i=c::t/\L.drop (i+1)=t/\L.length=i+1+t.length:=by
 cases h:L.drop i with
 |nil=>exact .inl ⟨rfl,Sc.RY h⟩
 |cons c t=>exact .inr ⟨c,t,rfl,(Sc.rM h).2.1,(Sc.rM h).2.2⟩
variable {w:World}{a b off cap n:Nat}{L:List Nat}
theorem JF(i:Nat)(hn:L.length=n)(hm:n<=20000)(hi:i<=20000)(c0:w.cell? ⟨a,0,none⟩=some (.slice (some ⟨b,off,none⟩) n cap))(hT:yO w b off L):
 Calls prog 52 #[.pointer (some ⟨a,0,none⟩),.int .i64 i] w λe w'=>e=.returned (.int .u8 (L.getD i 0))/\w=w':=by
 rcases oh L i with⟨h1,h2⟩|⟨c,t,h1,h2,h3⟩
 ·have e:L.getD i 0=0:=by rw[pO,xQ h2];rfl
  have i1:(n:Int)<=(i:Int):=by omega
  rw[e];clear hT h1 h2 e
  go_enter func52,ntmps52
  go_wp2_with fail
  go_ret;exact⟨rfl,rfl⟩
 have e:L.getD i 0=c:=by rw[pO,xH h1];rfl
 have d:=hT.at_ h1;have i1:(i:Int)<(n:Int):=by omega
 rw[e];clear hT h1 h2 h3 e hn
 go_enter func52,ntmps52
 go_wp2_with fail
 go_ret;exact⟨rfl,rfl⟩
theorem x8(i c:Nat)(t:List Nat)(hn:L.length=n)(hm:n<=20000)(hT:yO w b off L)(h1:L.drop i=c::t):
 Calls prog 54 #[.slice (some ⟨b,off,none⟩) n cap,.int .i64 i] w λe w'=>e=.returned (.int .i64 (Sc.rz (c::t)))/\w=w':=by
 have h2:=Sc.rM h1;rw[hn]at h2
 have:=O7 b off cap n i c (t.getD 0 0) w h2.1 (by omega) (hT.at_ h1) (λh=>by
  have h3:=h2.2.1;cases t with
  |nil=>have:=h2.2.2;simp at this;omega
  |cons d r=>exact hT.at_ h3)
 rw[LU n i c _ t h2.2.2 (λd r e=>by rw[e];rfl)]at this;exact this
theorem IK(i:Nat)(hn:L.length=n)(hm:n<=20000)(hi:i<=20000)(c0:w.cell? ⟨a,0,none⟩=some (.slice (some ⟨b,off,none⟩) n cap))(hT:yO w b off L):
 Calls prog 53 #[.pointer (some ⟨a,0,none⟩),.int .i64 i] w λe w'=>e=.returned (.bool (Sc.uR (L.drop i)))/\w=w':=by
 rcases oh L i with⟨h1,h2⟩|⟨c,t,h1,h2,h3⟩
 ·have i1:(n:Int)<=(i:Int):=by omega
  rw[h1,show Sc.uR []=true from rfl];clear hT h1 h2
  go_enter func53,ntmps53
  go_wp2_with fail
  go_ret;exact⟨rfl,rfl⟩
 have d:=hT.at_ h1;have i1:(i:Int)<(n:Int):=by omega
 have HB:=eu (uM c w);have HK:=eu (x8 (cap:=cap) i c t hn hm hT h1);rw[h1,show Sc.uR (c::t)=(Sc.blk c||Sc.brk c)from rfl];have hz:=vR c t;obtain⟨K,hK⟩:=my (Sc.rz (c::t));rw[hK]at HK hz;have hg:decide (0<K)=Sc.brk c:=by
  cases hb:Sc.brk c with
  |true=>exact oP (by have:=mt hz.1 (by rw[hb];simp);omega)
  |false=>exact nK (by have:=hz.2 hb;omega)
 obtain⟨P,hP⟩:=my (Sc.brk c);rw[hP]at hg⊢;obtain⟨B,hB⟩:=my (Sc.blk c);rw[hB]at HB⊢;have HG:=eu hg;have HN:=eu (show decide (n<=i)=false from nK (by omega));clear hT h1 h2 h3 hn hz hK hP hB hg
 go_enter func53,ntmps53
 go_wp2_with fail
 refine HB.out.mono ?_;rintro e w1 ⟨rfl,rfl⟩;cases B with
 |true=>
  go_wp2_with fail
  go_ret;exact⟨rfl,rfl⟩
 |false=>
  go_wp2_with fail
  refine HK.out.mono ?_;rintro e w1 ⟨rfl,rfl⟩;go_wp2_with fail
  go_ret;exact⟨by simp[HN.out,HG.out],rfl⟩
theorem Ua(i:Nat)(hn:L.length=n)(hm:n<=16384)(hi:i<n)(c0:w.cell? ⟨a,0,none⟩=some (.slice (some ⟨b,off,none⟩) n cap))(hT:yO w b off L):
 Calls prog 33 #[.pointer (some ⟨a,0,none⟩),.int .i64 i] w λe w'=>e=.returned (.int .i64 (Sc.markT (L.drop i)))/\w=w':=by
 have HB:=eu (JF i hn (by omega) (by omega) c0 hT);have hE0:=IK (i+3) hn (by omega) (by omega) c0 hT;rw[show((i+3:Nat):Int)=(i:Int)+3 from by omega]at hE0;have HE:=eu hE0;clear hE0;rcases oh L i with⟨h1,h2⟩|⟨c,t,h1,h2,h3⟩
 ·omega
 have hg:L.getD i 0=c:=by rw[pO,xH h1];rfl
 rw[hg]at HB;rw[h1];by_cases hs:n<i+3
 ·have i1:(n:Int)<(i:Int)+3:=by omega
  have hz:Sc.markT (c::t)=0:=by
   match t with
   |[]=>rfl
   |[d]=>rfl
   |d::e::r=>simp at h3;omega
  rw[hz];clear hT h1 h2 h3 hn hg hz hs
  go_enter func33,ntmps33
  go_wp2_with fail
  refine HB.out.mono ?_;rintro e w1 ⟨rfl,rfl⟩;go_wp2_with fail
  go_ret;exact⟨rfl,rfl⟩
 obtain⟨d,e,r,rfl⟩:∃d e r,t=d::e::r:=by
  match t,h3 with
  |[],h3=>simp at h3;omega
  |[d],h3=>simp at h3;omega
  |d::e::r,_=>exact⟨d,e,r,rfl⟩
 have d1:=hT.at_ h2;have h4:=(Sc.rM h2).2.1;have d2:w.cell? ⟨b,off+(i+2),none⟩=some (.int .u8 e):=hT.at_ h4;have h5:=(Sc.rM h4).2.1;rw[show i+3=i+1+1+1 from rfl,h5]at HE;have i1:¬((n:Int)<(i:Int)+3):=by omega
 have j1:(i:Int)+1<(n:Int):=by omega
 have j2:(i:Int)+2<(n:Int):=by omega
 obtain⟨E,hE⟩:=my (Sc.uR r);rw[hE]at HE;rw[show Sc.markT (c::d::e::r)=if d=c/\e=c/\Sc.uR r=true then(if c=45 then 20 else if c=46 then 21 else 0)else 0 from rfl,hE];clear hT h1 h2 h3 h4 h5 hn hg hE hs;by_cases q1:d=c
 ·subst q1;by_cases q2:e=d
  ·subst q2;cases E with
   |true=>
    rw[gu ⟨rfl,rfl,rfl⟩];by_cases q3:e=45
    ·have g3:((e:Int)==45)=true:=by simp;omega
     rw[gu q3];clear q3
     go_enter func33,ntmps33
     go_wp2_with fail
     refine HB.out.mono ?_;rintro e w1 ⟨rfl,rfl⟩;go_wp2_with fail
     refine HE.out.mono ?_;rintro e w1 ⟨rfl,rfl⟩;go_wp2_with fail
     go_ret;exact⟨rfl,rfl⟩
    have g3:((e:Int)==45)=false:=by simp;omega
    rw[fu q3];clear q3;by_cases q4:e=46
    ·have g4:((e:Int)==46)=true:=by simp;omega
     rw[gu q4];clear q4
     go_enter func33,ntmps33
     go_wp2_with fail
     refine HB.out.mono ?_;rintro e w1 ⟨rfl,rfl⟩;go_wp2_with fail
     refine HE.out.mono ?_;rintro e w1 ⟨rfl,rfl⟩;go_wp2_with fail
     go_ret;exact⟨rfl,rfl⟩
    have g4:((e:Int)==46)=false:=by simp;omega
    rw[fu q4];clear q4
    go_enter func33,ntmps33
    go_wp2_with fail
    refine HB.out.mono ?_;rintro e w1 ⟨rfl,rfl⟩;go_wp2_with fail
    refine HE.out.mono ?_;rintro e w1 ⟨rfl,rfl⟩;go_wp2_with fail
    go_ret;exact⟨rfl,rfl⟩
   |false=>
    rw[fu (λh=>by cases h.2.2)]
    go_enter func33,ntmps33
    go_wp2_with fail
    refine HB.out.mono ?_;rintro e w1 ⟨rfl,rfl⟩;go_wp2_with fail
    refine HE.out.mono ?_;rintro e w1 ⟨rfl,rfl⟩;go_wp2_with fail
    go_ret;exact⟨rfl,rfl⟩
  have g2:((e:Int) !=(d:Int))=true:=by simp;omega
  rw[fu (λh=>q2 h.2.1)];clear q2 HE
  go_enter func33,ntmps33
  go_wp2_with fail
  refine HB.out.mono ?_;rintro e w1 ⟨rfl,rfl⟩;go_wp2_with fail
  go_ret;exact⟨rfl,rfl⟩
 have g1:((d:Int) !=(c:Int))=true:=by simp;omega
 rw[fu (λh=>q1 h.1)];clear q1 HE d2
 go_enter func33,ntmps33
 go_wp2_with fail
 refine HB.out.mono ?_;rintro e w1 ⟨rfl,rfl⟩;go_wp2_with fail
 go_ret;exact⟨rfl,rfl⟩
end
section
open Go.RowKit
open Sg
variable {w:World}{a b off cap n:Nat}{L:List Nat}
theorem LV(c:Nat)(t:List Nat)(h:Sc.brk c=true):Sc.nP (c::t)=0:=(Sc.rJ c t h).2
theorem O8(c:Nat)(t:List Nat)(h:Sc.brk c=false):Sc.nP (c::t)=Sc.nP t+1:=(Sc.qd c t h).2
theorem FD(i T:Nat)(hn:L.length=n)(hm:n<=16384)(hi:i<=n)(ae:i+Sc.nP (L.drop i)=T)(c0:w.cell? ⟨a,0,none⟩=some (.slice (some ⟨b,off,none⟩) n cap))(hT:yO w b off L):
 Calls prog 57 #[.pointer (some ⟨a,0,none⟩),.int .i64 i] w λe w'=>e=.returned (.int .i64 T)/\w=w':=by
 obtain⟨HT,HN,aa⟩:=nY hT hn ae;clear hT hn ae
 go_enter func57,ntmps57
 go_wp2_with fail
 go_loopw [1] (λis wr=>∃k:Nat,is=.int .i64 k/\k<=n/\Hid (k+Sc.nP (L.drop k)=T)/\w=wr) (λis _=>n-(intOf is).toNat)
 case atStart=>exact⟨i,rfl,hi,aa,rfl⟩
 case round=>
  obtain⟨k,rfl,hk,HK,rfl⟩:=hrel;rcases oh L k with⟨h1,h2⟩|⟨c,t,h1,h2,h3⟩
  ·have i1:¬((k:Int)<(n:Int)):=by have:=HN.out;omega
   have HE:=eu (show T=k by have:=HK.out;rw[h1,show Sc.nP []=0 from rfl]at this;omega);clear h1 h2 HK aa;go_wp2_with fail
   go_ret;exact⟨by rw[HE.out];rfl,rfl⟩
  have hkn:k<n:=by have:=HN.out;omega
  have i1:(k:Int)<(n:Int):=by omega
  have hB:=x8 (cap:=cap) k c t HN.out (by omega) HT.out h1;have hz:=vR c t;obtain⟨K,af⟩:=my (Sc.rz (c::t));rw[af]at hB hz;have HB:=eu hB;clear hB af h3;cases hb:Sc.brk c with
  |true=>
   have gK:((K:Int)==0)=false:=by have:=mt hz.1 (by rw[hb];simp);simp;omega
   have HE:=eu (show T=k by have:=HK.out;rw[h1,LV c t hb]at this;omega);clear h1 h2 HK aa hz hb hkn;go_wp2_with fail
   refine HB.out.mono ?_;rintro e w1 ⟨rfl,rfl⟩;go_wp2_with fail
   go_ret;exact⟨by rw[HE.out];rfl,rfl⟩
  |false=>
   obtain rfl:K=0:=hz.2 hb;have HE:=eu (show(k+1)+Sc.nP (L.drop (k+1))=T by have:=HK.out;rw[h1,O8 c t hb]at this;rw[h2];omega);clear h1 h2 HK aa hz hb;go_wp2_with fail
   refine HB.out.mono ?_;rintro e w1 ⟨rfl,rfl⟩;go_wp2_with fail
   go_roundw
   case rel=>exact⟨k+1,by go_num,by omega,HE,trivial⟩
   case measure=>simp[intOf];omega
def cls(tag:Bool):Nat->Bool:=if tag=true then Sc.Nf else Sc.Ae
theorem U3(tag:Bool)(c:Nat):cls tag c=(Sc.Ae c||(tag&&c==33)):=by
 cases tag
 ·simp[cls]
 simp[cls,Sc.Nf,Bool.or_comm]
theorem Oh(tag:Bool)(i T:Nat)(hn:L.length=n)(hm:n<=16384)(hi:i<=n)(ai:i+Sc.run (cls tag) (L.drop i)=T)(c0:w.cell? ⟨a,0,none⟩=some (.slice (some ⟨b,off,none⟩) n cap))(hT:yO w b off L):
 Calls prog 59 #[.pointer (some ⟨a,0,none⟩),.int .i64 i,.bool tag] w λe w'=>e=.returned (.int .i64 T)/\w=w':=by
 obtain⟨HT,HN,ag⟩:=nY hT hn ai;clear hT hn ai
 go_enter func59,ntmps59
 go_wp2_with fail
 go_loopw [1] (λis wr=>∃k:Nat,is=.int .i64 k/\k<=n/\Hid (k+Sc.run (cls tag) (L.drop k)=T)/\w=wr) (λis _=>n-(intOf is).toNat)
 case atStart=>exact⟨i,rfl,hi,ag,rfl⟩
 case round=>
  obtain⟨k,rfl,hk,HK,rfl⟩:=hrel;rcases oh L k with⟨h1,h2⟩|⟨c,t,h1,h2,h3⟩
  ·have i1:¬((k:Int)<(n:Int)):=by have:=HN.out;omega
   have HE:=eu (show T=k by have:=HK.out;rw[h1,show Sc.run (cls tag) []=0 from rfl]at this;omega);clear h1 h2 HK ag;go_wp2_with fail
   go_ret;exact⟨by rw[HE.out];rfl,rfl⟩
  have hkn:k<n:=by have:=HN.out;omega
  have i1:(k:Int)<(n:Int):=by omega
  have d:=HT.out.at_ h1;have af:=eu (R9 c w);obtain⟨N,ah⟩:=my (Sc.Ae c);rw[ah]at af;have hc:=U3 tag c;rw[ah]at hc;have aa:=eu (fun(g:cls tag c=true)=>show(k+1)+Sc.run (cls tag) (L.drop (k+1))=T by have:=HK.out;rw[h1,Sc.oO,gu g]at this;rw[h2];omega);have ae:=eu (fun(g:¬cls tag c=true)=>show T=k by have:=HK.out;rw[h1,Sc.oO,fu g]at this;omega);clear h1 h2 h3 HK ag ah;cases N with
  |true=>
   have HR:=eu (aa.out (by rw[hc];rfl));clear hc aa ae;go_wp2_with fail
   refine af.out.mono ?_;rintro e w1 ⟨rfl,rfl⟩;go_wp2_with fail
   go_roundw
   case rel=>exact⟨k+1,by go_num,by omega,HR,trivial⟩
   case measure=>simp[intOf];omega
  |false=>
   cases tag with
   |false=>
    have HR:=eu (ae.out (by rw[hc];simp));clear hc aa ae;go_wp2_with fail
    refine af.out.mono ?_;rintro e w1 ⟨rfl,rfl⟩;go_wp2_with fail
    go_ret;exact⟨by rw[HR.out];rfl,rfl⟩
   |true=>
    by_cases q:c=33
    ·have g:((c:Int)==33)=true:=by simp;omega
     have HR:=eu (aa.out (by rw[hc,q];rfl));clear hc aa ae q;go_wp2_with fail
     refine af.out.mono ?_;rintro e w1 ⟨rfl,rfl⟩;go_wp2_with fail
     go_roundw
     case rel=>exact⟨k+1,by go_num,by omega,HR,trivial⟩
     case measure=>simp[intOf];omega
    have g:((c:Int)==33)=false:=by simp;omega
    have HR:=eu (ae.out (by rw[hc];simp[q]));clear hc aa ae q;go_wp2_with fail
    refine af.out.mono ?_;rintro e w1 ⟨rfl,rfl⟩;go_wp2_with fail
    go_ret;exact⟨by rw[HR.out];rfl,rfl⟩
theorem Sa(c:Nat)(r:List Nat)(h:c≠39):Sc.vD (c::r)=Sc.vD r+1:=by
 cases r with
 |nil=>rfl
 |cons d t=>rw[Sc.vD,fu h]
theorem O9(d:Nat)(r:List Nat)(h:d=39):Sc.vD (39::d::r)=Sc.vD r+2:=by rw[Sc.vD,gu rfl,gu h]
theorem Pb(d:Nat)(r:List Nat)(h:d≠39):Sc.vD (39::d::r)=1:=by rw[Sc.vD,gu rfl,fu h]
theorem zD{k c m:Nat}{t:List Nat}(h1:L.drop k=c::t)(h2:L.drop (k+1)=t)(h:k<m):(L.drop k).take (m-k)=c::(L.drop (k+1)).take (m-(k+1)):=by
 rw[h1,h2,show m-k=m-(k+1)+1 by omega,AR]
theorem vS{k m:Nat}(h:m<=k):(L.drop k).take (m-k)=[]:=by
 rw[show m-k=0 by omega,AU]
theorem Sb(i m T:Nat)(hn:L.length=n)(hm:n<=16384)(hi:i<=m)(af:m<=n)(ae:i+Sc.vD ((L.drop i).take (m-i))=T)(c0:w.cell? ⟨a,0,none⟩=some (.slice (some ⟨b,off,none⟩) n cap))(hT:yO w b off L):
 Calls prog 61 #[.pointer (some ⟨a,0,none⟩),.int .i64 i,.int .i64 m] w λe w'=>e=.returned (.int .i64 T)/\w=w':=by
 obtain⟨HT,HN,aa⟩:=nY hT hn ae;clear hT hn ae
 go_enter func61,ntmps61
 go_wp2_with fail
 go_loopw [1] (λis wr=>∃k:Nat,is=.int .i64 k/\k<=m/\Hid (k+Sc.vD ((L.drop k).take (m-k))=T)/\w=wr) (λis _=>m-(intOf is).toNat)
 case atStart=>exact⟨i,rfl,hi,aa,rfl⟩
 case round=>
  obtain⟨k,rfl,hk,HK,rfl⟩:=hrel;by_cases hlt:k<m
  ·have i1:(k:Int)<(m:Int):=by omega
   have i2:(k:Int)<(n:Int):=by omega
   rcases oh L k with⟨h1,h2⟩|⟨c,t,h1,h2,h3⟩
   ·have:=HN.out;omega
   have d:=HT.out.at_ h1;have hP:=zD h1 h2 hlt;by_cases q:c=39
   ·subst q;by_cases hl2:k+1<m
    ·have j1:(k:Int)+1<(m:Int):=by omega
     have j2:(k:Int)+1<(n:Int):=by omega
     rcases oh L (k+1)with⟨g1,g2⟩|⟨x,u,g1,g2,g3⟩
     ·have:=HN.out;omega
     have d2:=HT.out.at_ g1;have hP2:=zD g1 g2 hl2;by_cases q2:x=39
     ·have gx:((x:Int)==39)=true:=by simp;omega
      have HR:=eu (show(k+2)+Sc.vD ((L.drop (k+2)).take (m-(k+2)))=T by have:=HK.out;rw[hP,hP2,O9 x _ q2,show k+1+1=k+2 from rfl]at this;omega);clear h1 h2 h3 HK aa hP hP2 q2 g1 g2 g3;go_wp2_with fail
      go_roundw
      case rel=>exact⟨k+2,by go_num,by omega,HR,trivial⟩
      case measure=>simp[intOf];omega
     have gx:((x:Int)==39)=false:=by simp;omega
     have HR:=eu (show T=k+1 by have:=HK.out;rw[hP,hP2,Pb x _ q2]at this;omega);clear h1 h2 h3 HK aa hP hP2 q2 g1 g2 g3;go_wp2_with fail
     go_ret;exact⟨by rw[HR.out];first|rfl|go_num,rfl⟩
    have j1:¬((k:Int)+1<(m:Int)):=by omega
    have HR:=eu (show T=k+1 by have:=HK.out;rw[hP,vS (by omega)]at this;exact this.symm);clear h1 h2 h3 HK aa hP;go_wp2_with fail
    go_ret;exact⟨by rw[HR.out];first|rfl|go_num,rfl⟩
   have gc:((c:Int) !=39)=true:=by simp;omega
   have HR:=eu (show(k+1)+Sc.vD ((L.drop (k+1)).take (m-(k+1)))=T by have:=HK.out;rw[hP,Sa c _ q]at this;omega);clear h1 h2 h3 HK aa hP q;go_wp2_with fail
   go_roundw
   case rel=>exact⟨k+1,by go_num,by omega,HR,trivial⟩
   case measure=>simp[intOf];omega
  have i1:¬((k:Int)<(m:Int)):=by omega
  have HR:=eu (show T=m by have:=HK.out;rw[vS (by omega)]at this;have e:Sc.vD []=0:=rfl;omega);clear HK aa;go_wp2_with fail
  go_ret;exact⟨by rw[HR.out];rfl,rfl⟩
theorem Sd(c:Nat)(r:List Nat)(h:c≠34)(h2:c≠92):Sc.uo (c::r)=Sc.uo r+1:=by
 cases r with
 |nil=>rfl
 |cons d t=>rw[Sc.uo,fu h,fu h2]
theorem Jc(r:List Nat):Sc.uo (34::r)=1:=by
 cases r with
 |nil=>rfl
 |cons d t=>rw[Sc.uo,gu rfl]
theorem Pd(d:Nat)(r:List Nat):Sc.uo (92::d::r)=Sc.uo r+2:=by rw[Sc.uo,fu (by decide),gu rfl]
theorem Se(i m T:Nat)(hn:L.length=n)(hm:n<=16384)(hi:i<=m)(af:m<=n)(ae:i+Sc.uo ((L.drop i).take (m-i))=T)(c0:w.cell? ⟨a,0,none⟩=some (.slice (some ⟨b,off,none⟩) n cap))(hT:yO w b off L):
 Calls prog 62 #[.pointer (some ⟨a,0,none⟩),.int .i64 i,.int .i64 m] w λe w'=>e=.returned (.int .i64 T)/\w=w':=by
 obtain⟨HT,HN⟩:=mR hT hn;have aa:=eu (show min i m+Sc.uo ((L.drop i).take (m-i))=T by rw[Ll hi];exact ae);clear hT hn ae
 go_enter func62,ntmps62
 go_wp2_with fail
 go_loopw [1] (λis wr=>∃k:Nat,is=.int .i64 k/\k<=m+1/\Hid (min k m+Sc.uo ((L.drop k).take (m-k))=T)/\w=wr) (λis _=>m+1-(intOf is).toNat)
 case atStart=>exact⟨i,rfl,by omega,aa,rfl⟩
 case round=>
  obtain⟨k,rfl,hk,HK,rfl⟩:=hrel;by_cases hlt:k<m
  ·have i1:(k:Int)<(m:Int):=by omega
   have i2:(k:Int)<(n:Int):=by omega
   rcases oh L k with⟨h1,h2⟩|⟨c,t,h1,h2,h3⟩
   ·have:=HN.out;omega
   have d:=HT.out.at_ h1;have hP:=zD h1 h2 hlt;by_cases q:c=34
   ·subst q;have HR:=eu (show T=k+1 by have:=HK.out;rw[hP,Jc]at this;omega);clear h1 h2 h3 HK aa hP;go_wp2_with fail
    go_ret;exact⟨by rw[HR.out];first|rfl|go_num,rfl⟩
   have gc:((c:Int)==34)=false:=by simp;omega
   by_cases q2:c=92
   ·have g2:((c:Int)==92)=true:=by simp;omega
    have HR:=eu (show min (k+2) m+Sc.uo ((L.drop (k+2)).take (m-(k+2)))=T by
     have h:=HK.out;rw[hP,q2]at h;by_cases hl2:k+1<m
     ·rcases oh L (k+1)with⟨g1,g2⟩|⟨x,u,g1,g2,g3⟩
      ·have:=HN.out;omega
      rw[zD g1 g2 hl2,Pd]at h;have:k+1+1=k+2:=rfl;rw[this]at h;omega
     rw[vS (k:=k+1) (by omega),show Sc.uo [92]=1 from rfl]at h;rw[vS (by omega),show Sc.uo []=0 from rfl]
     omega)
    clear h1 h2 h3 HK aa hP q q2;go_wp2_with fail
    go_roundw
    case rel=>exact⟨k+2,by go_num,by omega,HR,trivial⟩
    case measure=>simp[intOf];omega
   have g2:((c:Int)==92)=false:=by simp;omega
   have HR:=eu (show min (k+1) m+Sc.uo ((L.drop (k+1)).take (m-(k+1)))=T by have:=HK.out;rw[hP,Sd c _ q q2]at this;omega);clear h1 h2 h3 HK aa hP q q2;go_wp2_with fail
   go_roundw
   case rel=>exact⟨k+1,by go_num,by omega,HR,trivial⟩
   case measure=>simp[intOf];omega
  have i1:¬((k:Int)<(m:Int)):=by omega
  have HR:=eu (show T=m by have:=HK.out;rw[vS (by omega)]at this;have e:Sc.uo []=0:=rfl;omega);clear HK aa;go_wp2_with fail
  go_ret;exact⟨by rw[HR.out];rfl,rfl⟩
end
section
open Go.RowKit
open Sg
variable {w:World}{a b off cap n:Nat}{L:List Nat}
theorem Sf(op:Bool)(t:List Nat)(h:Sc.uR t=true):Sc.zW op t=true:=by
 cases t with
 |nil=>rfl
 |cons d r=>rw[Sc.uR]at h;simp[Sc.zW,h]
theorem U4(t:List Nat)(h:Sc.uR t=false):Sc.zW false t=false:=by
 cases t with
 |nil=>cases h
 |cons d r=>rw[Sc.uR]at h;simp[Sc.zW,h]
theorem Si(d:Nat)(r:List Nat)(h:Sc.uR (d::r)=false):Sc.zW true (d::r)=Sc.QQ d:=by
 rw[Sc.uR]at h;simp[Sc.zW,h]
theorem Oi(i op c:Nat)(t:List Nat)(h1:L.drop i=c::t)(hn:L.length=n)(hm:n<=16384)(c0:w.cell? ⟨a,0,none⟩=some (.slice (some ⟨b,off,none⟩) n cap))(c3:w.cell? ⟨a,3,none⟩=some (.int .i64 op))(hT:yO w b off L):
 Calls prog 60 #[.pointer (some ⟨a,0,none⟩),.int .i64 i] w λe w'=>e=.returned (.bool (Sc.Fb (decide (0<op)) (c::t)))/\w=w':=by
 have h2:=Sc.rM h1;have hi:i<n:=by omega
 have hb:=JF i hn (by omega) (by omega) c0 hT;rw[show L.getD i 0=c by rw[pO,xH h1];rfl]at hb;have HB:=eu hb;have he:=IK (i+1) hn (by omega) (by omega) c0 hT;have hb2:=JF (i+1) hn (by omega) (by omega) c0 hT;rw[show((i+1:Nat):Int)=(i:Int)+1 from by omega,h2.2.1]at he;rw[show((i+1:Nat):Int)=(i:Int)+1 from by omega]at hb2;have i1:(i:Int)<(n:Int):=by omega
 rw[Sc.Fb];by_cases q:c=58
 ·have g:((c:Int)==58)=true:=by simp;omega
  have gc:(c==58)=true:=by simp;omega
  rw[gc,Bool.true_and];cases hE:Sc.uR t with
  |true=>
   rw[hE]at he;have HE:=eu he;rw[Sf _ t hE];clear hb he hb2 hT h1 h2 hn q gc hE
   go_enter func60,ntmps60
   go_wp2_with fail
   refine HB.out.mono ?_;rintro e w1 ⟨rfl,rfl⟩;go_wp2_with fail
   refine HE.out.mono ?_;rintro e w1 ⟨rfl,rfl⟩;go_wp2_with fail
   go_ret;exact⟨rfl,rfl⟩
  |false=>
   rw[hE]at he;have HE:=eu he;by_cases ho:0<op
   ·have aa:(0:Int)<(op:Int):=by omega
    rw[oP ho];cases t with
    |nil=>cases hE
    |cons d r=>
     rw[show L.getD (i+1) 0=d by rw[pO,xH h2.2.1];rfl]at hb2;obtain⟨HB2,HF⟩:=mR hb2 (Ka d w);rw[Si d r hE];obtain⟨F,hF⟩:=my (Sc.QQ d);rw[hF]at HF⊢;clear hb he hb2 hT h1 h2 hn q gc hE ho hF
     go_enter func60,ntmps60
     go_wp2_with fail
     refine HB.out.mono ?_;rintro e w1 ⟨rfl,rfl⟩;go_wp2_with fail
     refine HE.out.mono ?_;rintro e w1 ⟨rfl,rfl⟩;go_wp2_with fail
     refine HB2.out.mono ?_;rintro e w1 ⟨rfl,rfl⟩;go_wp2_with fail
     refine HF.out.mono ?_;rintro e w1 ⟨rfl,rfl⟩;go_wp2_with fail
     go_ret;exact⟨by simp,rfl⟩
   obtain rfl:op=0:=by omega
   rw[show decide (0<0)=false from rfl,U4 t hE];clear hb he hb2 hT h1 h2 hn q gc hE ho
   go_enter func60,ntmps60
   go_wp2_with fail
   refine HB.out.mono ?_;rintro e w1 ⟨rfl,rfl⟩;go_wp2_with fail
   refine HE.out.mono ?_;rintro e w1 ⟨rfl,rfl⟩;go_wp2_with fail
   go_ret;exact⟨by simp,rfl⟩
 have g:((c:Int)==58)=false:=by simp;omega
 have gc:(c==58)=false:=by simp;omega
 rw[gc,Bool.false_and];clear hb he hb2 hT h1 h2 hn q gc
 go_enter func60,ntmps60
 go_wp2_with fail
 refine HB.out.mono ?_;rintro e w1 ⟨rfl,rfl⟩;go_wp2_with fail
 go_ret;exact⟨rfl,rfl⟩
theorem Sj(rest:List Nat)(h:rest.drop (Sc.run Sc.blk rest)=[]):Sc.T6 rest=true:=by unfold Sc.T6;rw[h]
theorem Pe(rest:List Nat)(x:Nat)(u:List Nat)(h:rest.drop (Sc.run Sc.blk rest)=x::u):Sc.T6 rest=(Sc.brk x||(x==35&&decide (0<Sc.run Sc.blk rest))):=by unfold Sc.T6;rw[h]
theorem Jd(c:Nat)(t:List Nat)(h1:c≠124)(h2:c≠62):Sc.uB (c::t)=0:=by rw[Sc.uB,fu (by omega)]
theorem Je(c:Nat)(t:List Nat)(h:c=124\/c=62)(H:Nat)(hH:Sc.uU t=H):Sc.uB (c::t)=if Sc.T6 ((c::t).drop H)=true then H else 0:=by rw[Sc.uB,gu h,hH]
theorem LW(t:List Nat):Sc.uU t=if t.getD 0 0=43\/t.getD 0 0=45 then 2 else 1:=by
 cases t with
 |nil=>rfl
 |cons d r=>
  show(if d=43 then 2 else if d=45 then 2 else 1)=if d=43\/d=45 then 2 else 1
  by_cases h:d=43
  ·rw[gu h,gu (.inl h)]
  rw[fu h];by_cases h2:d=45
  ·rw[gu h2,gu (.inr h2)]
  rw[fu h2,fu (by omega)]
theorem Oj(p op c:Nat)(t:List Nat)(h1:L.drop p=c::t)(hn:L.length=n)(hm:n<=16384)(hno:(c≠124/\c≠62)\/0<op)(c0:w.cell? ⟨a,0,none⟩=some (.slice (some ⟨b,off,none⟩) n cap))(c1:w.cell? ⟨a,1,none⟩=some (.int .i64 p))(c3:w.cell? ⟨a,3,none⟩=some (.int .i64 op))(hT:yO w b off L):
 Calls prog 63 #[.pointer (some ⟨a,0,none⟩)] w λe w'=>e=.returned (.int .i64 (0:Nat))/\Below w.heap.size w w':=by
 have h2:=Sc.rM h1;have i1:(p:Int)<(n:Int):=by omega
 have d:=hT.at_ h1;have d':=d;have HB:=eu (λk=>UK (mF w.heap.size w) k);clear h1 h2 hT d';by_cases q:c≠124/\c≠62
 ·have g1:((c:Int) !=124)=true:=by simp;omega
  have g2:((c:Int) !=62)=true:=by simp;omega
  clear hno q
  go_enter func63,ntmps63
  go_wp2_with fail
  go_big_quiet (fail)
  have hb:=HB.out nq;have c3:=ku hb c3;generalize w.drewN nq=W at*;go_wp2_with fail
  go_ret;exact⟨rfl,hb⟩
 have ho:0<op:=by omega
 have aa:(0:Int)<(op:Int):=by omega
 by_cases q1:c=124
 ·have g1:((c:Int) !=124)=false:=by simp;omega
  clear hno q q1
  go_enter func63,ntmps63
  go_wp2_with fail
  go_big_quiet (fail)
  have hb:=HB.out nq;have c3:=ku hb c3;generalize w.drewN nq=W at*;go_wp2_with fail
  go_ret;exact⟨rfl,hb⟩
 have g1:((c:Int) !=124)=true:=by simp;omega
 have g2:((c:Int) !=62)=false:=by simp;omega
 clear hno q q1
 go_enter func63,ntmps63
 go_wp2_with fail
 go_big_quiet (fail)
 have hb:=HB.out nq;have c3:=ku hb c3;generalize w.drewN nq=W at*;go_wp2_with fail
 go_ret;exact⟨rfl,hb⟩
theorem U5(p c H:Nat)(t:List Nat)(h1:L.drop p=c::t)(hn:L.length=n)(hm:n<=16384)(hc:c=124\/c=62)(hH:Sc.uU t=H)(c0:w.cell? ⟨a,0,none⟩=some (.slice (some ⟨b,off,none⟩) n cap))(c1:w.cell? ⟨a,1,none⟩=some (.int .i64 p))(c3:w.cell? ⟨a,3,none⟩=some (.int .i64 (0:Nat)))(hT:yO w b off L):
 Calls prog 63 #[.pointer (some ⟨a,0,none⟩)] w λe w'=>e=.returned (.int .i64 (Sc.uB (c::t)))/\Below w.heap.size w w':=by
 have h2:=Sc.rM h1;have i1:(p:Int)<(n:Int):=by omega
 have d:=hT.at_ h1;have HB:=eu (λk=>UK (mF w.heap.size w) k);have aD:H<=t.length+1:=by rw[<-hH];exact Sc.Cr t
 have ai:=LW t;rw[hH]at ai;have hby:=λW (hb:Below w.heap.size w W)=>by
  have:=JF (w:=W) (a:=a) (p+1) hn (by omega) (by omega) (ku hb c0) (hT.below hb);rw[show((p+1:Nat):Int)=(p:Int)+1 from by omega,show L.getD (p+1) 0=t.getD 0 0 by rw[<-h2.2.1,pO,pO,xP]]at this;exact this
 obtain⟨x,hx⟩:=my (t.getD 0 0);rw[hx]at ai hby;have ax:=eu hby;obtain⟨J,hJ⟩:=my (p+H);have aF:J<=n:=by omega
 have hr:(c::t).drop H=L.drop J:=by rw[<-h1,sG,hJ]
 have hF:=Je c t hc H hH;rw[hr]at hF;obtain⟨K,hK⟩:=my (J+Sc.run Sc.blk (L.drop J));have ay:(L.drop J).drop (Sc.run Sc.blk (L.drop J))=L.drop K:=by rw[sG,hK]
 obtain⟨HF,HK,az,HJ,aG,HN⟩:=qW hF hK ay hJ hT hn;have e1:(J:Int)-(p:Int)=(H:Int):=by omega
 have w1:IntKind.i64.wrap (H:Int)=(H:Int):=UL _ (by omega);clear h1 h2 hT hby hx hJ hK ay hr hF hn hH aD
 go_enter func63,ntmps63
 go_wp2_with fail
 go_big_quiet (fail)
 have hb:=HB.out nq;have c0:=ku hb c0;have c1:=ku hb c1;have c3:=ku hb c3;generalize w.drewN nq=W at*;obtain⟨aa,aA,aj⟩:=nY (ax.out W hb) (aG.out.below hb) hb;have aB:((x=43\/x=45)/\J=p+2)\/(¬(x=43\/x=45)/\J=p+1):=by
  have:=HJ.out;by_cases g:x=43\/x=45
  ·rw[gu g]at ai;exact .inl ⟨g,by omega⟩
  rw[fu g]at ai;exact .inr ⟨g,by omega⟩
 obtain⟨B,hB⟩:=my (decide (x=43\/x=45))
 have av:=eu (show J=if B=true then p+2 else p+1 by
  rcases aB with⟨g,e⟩|⟨g,e⟩
  ·rw[<-hB,oP g];exact e
  rw[<-hB,nK g];exact e)
 obtain⟨ak,aC,HW1,HC⟩:=qg hB e1 w1 hc;clear hb ax HB ai aB hB e1 w1 hc;go_upto_region 2 with fail
 go_cut [28] (λq wx=>q=.bool false/\W=wx)
 case first=>
  by_cases q1:c=124
  ·have g1:((c:Int) !=124)=false:=by simp;omega
   clear q1;go_wp2_with fail
   go_meet
   exact⟨rfl,rfl⟩
  have g1:((c:Int) !=124)=true:=by simp;omega
  have g2:((c:Int) !=62)=false:=by have:=HC.out;simp;omega
  clear q1;go_wp2_with fail
  go_meet
  exact⟨rfl,rfl⟩
 case rest=>
 obtain⟨rfl,rfl⟩:=hcut;go_upto_region 5 with fail
 go_cut [43] (λq wx=>q=.bool B/\W=wx)
 case first=>
  by_cases x1:x=43
  ·have y1:((x:Int)==43)=true:=by simp;omega
   have HE:=eu (show B=true by rw[<-ak.out,oP (.inl x1)]);clear x1;go_wp2_with fail
   refine aa.out.mono ?_;rintro e w1 ⟨rfl,rfl⟩;go_wp2_with fail
   go_meet
   exact⟨by rw[HE.out],rfl⟩
  have y1:((x:Int)==43)=false:=by simp;omega
  by_cases x2:x=45
  ·have y2:((x:Int)==45)=true:=by simp;omega
   have HE:=eu (show B=true by rw[<-ak.out,oP (.inr x2)]);clear x1 x2;go_wp2_with fail
   refine aa.out.mono ?_;rintro e w1 ⟨rfl,rfl⟩;go_wp2_with fail
   refine aa.out.mono ?_;rintro e w1 ⟨rfl,rfl⟩;go_wp2_with fail
   go_meet
   exact⟨by rw[HE.out],rfl⟩
  have y2:((x:Int)==45)=false:=by simp;omega
  have HE:=eu (show B=false by rw[<-ak.out,nK (by omega)]);clear x1 x2;go_wp2_with fail
  refine aa.out.mono ?_;rintro e w1 ⟨rfl,rfl⟩;go_wp2_with fail
  refine aa.out.mono ?_;rintro e w1 ⟨rfl,rfl⟩;go_wp2_with fail
  go_meet
  exact⟨by rw[HE.out],rfl⟩
 case rest=>
 obtain⟨rfl,rfl⟩:=hcut
 go_upto_if 43 with fail
 go_cut [4] (λq wx=>q=.int .i64 J/\W=wx)
 case first=>
  cases B with
  |true=>
   go_wp2_with fail
   go_meet
   exact⟨by rw[av.out];first|rfl|(congr 1;simp;omega),rfl⟩
  |false=>
   go_wp2_with fail
   go_meet
   exact⟨by rw[av.out];first|rfl|(congr 1;simp;omega),rfl⟩
 case rest=>
  obtain⟨rfl,rfl⟩:=hcut;have e1:=aC.out;have w1:=HW1.out;clear aa av ak d c3 HC aC HW1;go_wp2_with fail
  go_loopw [5] (λis wr=>∃k:Nat,is=.int .i64 k/\J<=k/\k<=n/\Hid (k+Sc.run Sc.blk (L.drop k)=K)/\W=wr) (λis _=>n-(intOf is).toNat)
  case atStart=>exact⟨J,rfl,mJ _,aF,HK,rfl⟩
  case round=>
   obtain⟨k,rfl,hk0,hk,ae,rfl⟩:=hrel;rcases oh L k with⟨h1,h2⟩|⟨x,t',h1,h2,h3⟩
   ·have i2:¬((k:Int)<(n:Int)):=by have:=HN.out;omega
    have af:k=K:=by have:=ae.out;rw[h1,show Sc.run Sc.blk []=0 from rfl]at this;exact this
    have HE:=eu (show Sc.uB (c::t)=H by rw[HF.out,gu (Sj _ (by rw[az.out,<-af,h1]))]);clear h1 h2 ae af;go_wp2_with fail
    go_ret;exact⟨by rw[HE.out];rfl,aj.out⟩
   have hkn:k<n:=by have:=HN.out;omega
   have i2:(k:Int)<(n:Int):=by omega
   have d:=aA.out.at_ h1;have ag:=eu (uM x W);have ah:=eu (x8 (cap:=cap) k x t' HN.out (by omega) aA.out h1);have hz:=vR x t';obtain⟨Z,hZ⟩:=my (Sc.rz (x::t'));rw[hZ]at ah hz;cases hbl:Sc.blk x with
   |true=>
    rw[hbl]at ag;have HR:=eu (show(k+1)+Sc.run Sc.blk (L.drop (k+1))=K by have:=ae.out;rw[h1,Sc.oO,gu hbl]at this;rw[h2];omega);clear h1 h2 h3 ae hz hZ hbl ah;go_wp2_with fail
    refine ag.out.mono ?_;rintro e w1 ⟨rfl,rfl⟩;go_wp2_with fail
    go_roundw
    case rel=>exact⟨k+1,by go_num,by omega,by omega,HR,trivial⟩
    case measure=>simp[intOf];omega
   |false=>
    rw[hbl]at ag;have af:k=K:=by have:=ae.out;rw[h1,Sc.oO,fu (by rw[hbl];simp)]at this;exact this
    have hok:=Pe (L.drop J) x t' (by rw[az.out,<-af,h1]);have hrun:(0<Sc.run Sc.blk (L.drop J))=(J<k):=by have:=HK.out;exact propext ⟨λh=>by omega,λh=>by omega⟩
    simp only[hrun]at hok;cases hbr:Sc.brk x with
    |true=>
     have gZ:((Z:Int)==0)=false:=by have:=mt hz.1 (by rw[hbr];simp);simp;omega
     have HE:=eu (show Sc.uB (c::t)=H by rw[HF.out,gu (by rw[hok,hbr];rfl)]);clear h1 h2 h3 ae hz hZ hbl hbr hok hrun af;go_wp2_with fail
     refine ag.out.mono ?_;rintro e w1 ⟨rfl,rfl⟩;go_wp2_with fail
     refine ah.out.mono ?_;rintro e w1 ⟨rfl,rfl⟩;go_wp2_with fail
     go_ret;exact⟨by rw[HE.out];rfl,aj.out⟩
    |false=>
     obtain rfl:Z=0:=hz.2 hbr;by_cases x1:x=35
     ·have y1:((x:Int)==35)=true:=by simp;omega
      by_cases x2:J<k
      ·have j1:(J:Int)<(k:Int):=by omega
       have HE:=eu (show Sc.uB (c::t)=H by rw[HF.out,gu (by rw[hok,x1,oP x2];simp)]);clear h1 h2 h3 ae hz hZ hbl hbr hok hrun af x1 x2;go_wp2_with fail
       refine ag.out.mono ?_;rintro e w1 ⟨rfl,rfl⟩;go_wp2_with fail
       refine ah.out.mono ?_;rintro e w1 ⟨rfl,rfl⟩;go_wp2_with fail
       go_ret;exact⟨by rw[HE.out];rfl,aj.out⟩
      obtain rfl:k=J:=by omega
      have HE:=eu (show Sc.uB (c::t)=0 by rw[HF.out,fu (by rw[hok,hbr];simp)]);clear h1 h2 h3 ae hz hZ hbl hbr hok hrun af x1 x2;go_wp2_with fail
      refine ag.out.mono ?_;rintro e w1 ⟨rfl,rfl⟩;go_wp2_with fail
      refine ah.out.mono ?_;rintro e w1 ⟨rfl,rfl⟩;go_wp2_with fail
      go_ret;exact⟨by rw[HE.out];rfl,aj.out⟩
     have y1:((x:Int)==35)=false:=by simp;omega
     have HE:=eu (show Sc.uB (c::t)=0 by rw[HF.out,fu (by rw[hok,hbr];simp[x1])]);clear h1 h2 h3 ae hz hZ hbl hbr hok hrun af x1;go_wp2_with fail
     refine ag.out.mono ?_;rintro e w1 ⟨rfl,rfl⟩;go_wp2_with fail
     refine ah.out.mono ?_;rintro e w1 ⟨rfl,rfl⟩;go_wp2_with fail
     go_ret;exact⟨by rw[HE.out];rfl,aj.out⟩
end
end Go.Proofs.Ytfbiffdmhcjhbaa

import Derived.Test.YtfbiffdmhcjhbaaGreatZa10
import Derived.IntWalk
set_option linter.all false
set_option maxHeartbeats 16000000
set_option maxRecDepth 100000
set_option synthInstance.maxSize 4000
set_option synthInstance.maxHeartbeats 0
namespace Go.Proofs.YtfbiffdmhcjhbaaGreat
open Go.RowKit Tryz
def QB:=@Go.below_drewN
def Rt:=@IntWalk.i64_in
namespace Sc
open Sg
theorem MH:fO []=[]:=rfl
theorem kM(c:Nat)(t:List Nat)(h:brk c=true):fO (c::t)=[]/\gL (c::t)=0:=by
 have:gL (c::t)=0:=by unfold gL;rw[run,eQ (by rw[h];decide)]
 exact⟨by unfold fO;rw[this];rfl,this⟩
theorem jm(c:Nat)(t:List Nat)(h:brk c=false):fO (c::t)=c::fO t/\gL (c::t)=gL t+1:=by
 have:gL (c::t)=gL t+1:=by unfold gL;rw[run,eT (by rw[h];rfl)]
 exact⟨by unfold fO;rw[this];rfl,this⟩
theorem tN(l:List Nat)(j:Nat)(h:j<=gL l):(fO l).drop j=fO (l.drop j):=by
 unfold fO;rw[yF l j h,List.drop_take]
def nT:List Nat->Bool
 |[]=>true
 |c::_=>blk c||brk c
theorem wS(t:List Nat):part (fO t)=nT t:=by
 cases t with
 |nil=>rfl
 |cons c r=>
  cases h:brk c with
  |true=>rw[(kM c r h).1];simp[part,nT,h]
  |false=>rw[(jm c r h).1];simp[part,nT,h]
def um(op:Bool):List Nat->Bool
 |[]=>true
 |c::_=>blk c||brk c||(op&&Li c)
theorem zP(op:Bool)(t:List Nat):key op (fO t)=um op t:=by
 cases t with
 |nil=>rfl
 |cons c r=>
  cases h:brk c with
  |true=>rw[(kM c r h).1];simp[key,um,h]
  |false=>rw[(jm c r h).1];simp[key,um,h]
def zu(op:Bool):List Nat->Bool
 |[]=>false
 |c::r=>c==58&&um op r
def markT:List Nat->Nat
 |c::d::e::t=>if d=c/\e=c/\nT t=true then(if c=45 then 20 else if c=46 then 21 else 0)else 0
 |_=>0
theorem Dn(c d e:Nat)(t:List Nat):mark (c::d::e::t)=if c=45/\d=45/\e=45 then(if part t=true then 20 else 0)else if c=46/\d=46/\e=46 then(if part t=true then 21 else 0)else 0:=by
 simp[mark]
theorem sH(r:List Nat)(h:r.length<3):mark r=0:=by
 cases hm:mark r with
 |zero=>rfl
 |succ n=>have:=wM r (by omega);omega
theorem nI(l:List Nat):mark (fO l)=markT l:=by
 have hl:=iV l
 match l with
 |[]=>rfl
 |[c]=>exact sH _ (by rw[hl];have:=kC [c];simp at this;omega)
 |[c,d]=>exact sH _ (by rw[hl];have:=kC [c,d];simp at this;omega)
 |c::d::e::t=>
  rw[markT];have hs:brk c=true\/brk d=true\/brk e=true->mark (fO (c::d::e::t))=0:=by
   intro h;refine sH _ ?_;rw[hl];cases hc:brk c with
   |true=>rw[(kM c _ hc).2];omega
   |false=>
    rw[(jm c _ hc).2];cases hd:brk d with
    |true=>rw[(kM d _ hd).2];omega
    |false=>
     rw[(jm d _ hd).2];cases he:brk e with
     |true=>rw[(kM e _ he).2];omega
     |false=>simp[hc,hd,he]at h
  by_cases hb:brk c=true\/brk d=true\/brk e=true
  ·rw[hs hb];split
   ·rename_i h;obtain⟨rfl,rfl,-⟩:=h;have hb:brk e=true:=by simpa using hb
    rw[eQ (by intro h;subst h;simp[brk]at hb),eQ (by intro h;subst h;simp[brk]at hb)]
   rfl
  obtain⟨h1,h2,h3⟩:brk c=false/\brk d=false/\brk e=false:=by simpa [not_or]using hb
  rw[(jm c _ h1).1,(jm d _ h2).1,(jm e _ h3).1,Dn,wS];by_cases g1:c=45
  ·subst g1;by_cases g2:d=45
   ·subst g2;by_cases g3:e=45
    ·subst g3;cases nT t<;>simp
    simp[g3]
   simp[g2]
  by_cases g1':c=46
  ·subst g1';by_cases g2:d=46
   ·subst g2;by_cases g3:e=46
    ·subst g3;cases nT t<;>simp
    simp[g3]
   simp[g2]
  simp[g1,g1']
theorem l5(p:Nat->Bool)(hp:∀c,p c=true->brk c=false)(l:List Nat):run p (fO l)=run p l:=by
 induction l with
 |nil=>rfl
 |cons c t ih=>
  cases h:brk c with
  |true=>
   rw[(kM c t h).1,run,run,eQ (λg=>by rw[hp c g]at h;cases h)]
  |false=>rw[(jm c t h).1,run,run,ih]
theorem tO(p:Nat->Bool)(hp:∀c,p c=true->brk c=false)(l:List Nat):run p l<=gL l:=by
 rw[<-l5 p hp,<-iV];exact ow _ _
theorem rq(c:Nat)(h:blk c=true):brk c=false:=by simp[blk,brk]at*;omega
theorem zQ(c:Nat)(h:qw c=true):brk c=false:=by simp[qw,brk]at*;omega
theorem vJ(c:Nat)(h:uy c=true):brk c=false:=by simp[uy,brk]at*;omega
theorem MI(c:Nat)(h:Hq c=true):brk c=false:=by
 rw[Hq,Oi]at h;rcases h with h|h
 ·simp[brk]at*;omega
 exact vJ c h
theorem EG(p:Nat->Bool)(l:List Nat):l.drop (run p l)=[]\/∃c t,l.drop (run p l)=c::t/\p c=false:=by
 induction l with
 |nil=>exact .inl rfl
 |cons c t ih=>
  rw[run];cases hc:p c with
  |true=>rw[eT rfl];exact ih
  |false=>rw[eQ (by decide)];exact .inr ⟨c,t,rfl,hc⟩
theorem kN{l:List Nat}{k c:Nat}{t:List Nat}(h:l.drop k=c::t):k<l.length/\l.drop (k+1)=t/\l.length=k+1+t.length:=by
 have h1:=congrArg List.length h;rw[iq,gy]at h1;refine⟨by omega,?_,by omega⟩;rw[<-lH,h];rfl
theorem MJ{l:List Nat}{k:Nat}(h:l.drop k=[]):l.length<=k:=by
 have h1:=congrArg List.length h;rw[iq]at h1;simp at h1;omega
theorem iH(p:Nat->Bool)(c:Nat)(t:List Nat):run p (c::t)=if p c=true then run p t+1 else 0:=rfl
theorem ML(r:List Nat)(hr:r≠[])(d:Nat)(t:List Nat)(hd:d<128):jZ (r++d::t)=jZ r:=by
 have h2:¬d/64=2:=by omega
 match r,hr with
 |[a],_=>simp[jZ,rO,Lib.decodeN,h2]
 |[a,b],_=>simp[jZ,rO,Lib.decodeN,h2]
 |[a,b,c],_=>simp[jZ,rO,Lib.decodeN,h2]
 |a::b::c::e::r',_=>simp[jZ,rO,Lib.decodeN]
theorem Gb(l:List Nat):fO l=l\/∃d t,l=fO l++d::t/\brk d=true:=by
 have h:=EG (λc=>!brk c) l;have e:fO l++l.drop (gL l)=l:=by unfold fO;exact Qw _ _
 rcases h with h|⟨d,t,h,hd⟩
 ·left;have:l.drop (gL l)=[]:=h;rw[this,kH]at e;exact e
 right;have:l.drop (gL l)=d::t:=h;rw[this]at e;exact⟨d,t,e.symm,by simpa using hd⟩
theorem Pt(d:Nat)(h:brk d=true):d<128:=by simp[brk]at h;omega
theorem sZ(l:List Nat)(h:gL l≠0):jZ (fO l)=jZ l:=by
 have hne:fO l≠[]:=λe=>by have:=iV l;rw[e]at this;exact h this.symm
 rcases Gb l with e|⟨d,t,e,hd⟩
 ·rw[e]
 have:=ML (fO l) hne d t (Pt d hd);rw[<-e]at this;exact this.symm
def vZ(op pb:Bool):List Nat->Bool
 |[]=>true
 |c::r=>decide ((jZ (c::r)).1<0)||brk c||(c==58&&um op r)||(c==35&&pb)||(op&&Li c)
theorem Bf(op pb:Bool)(l:List Nat):stop op pb (fO l)=vZ op pb l:=by
 cases l with
 |nil=>rfl
 |cons c t=>
  cases h:brk c with
  |true=>rw[(kM c t h).1];simp[stop,vZ,h]
  |false=>
   have h1:=(jm c t h).1;have h2:=sZ (c::t) (by rw[(jm c t h).2];omega);rw[h1]at h2;rw[h1,stop,bad,h2,zP,vZ,h,Oj]
theorem yo(op:Bool)(p:Nat)(l:List Nat)(h:vZ op (blk p) l=true):lD op p (fO l)=0:=Di op p _ (by rw[Bf];exact h)
theorem tQ(l:List Nat)(j:Nat)(h:j<gL l):(fO l).getD j 0=l.getD j 0:=by
 unfold fO;rw[jS,jS,LH,eT h]
theorem uI(l:List Nat)(h:gL l≠0):1<=(jZ l).2/\(jZ l).2<=gL l:=by
 have hne:fO l≠[]:=λe=>by have:=iV l;rw[e]at this;exact h this.symm
 obtain⟨c,t,e⟩:=List.exists_cons_of_ne_nil hne;have h1:=vG c t;have h2:=IU c t;rw[<-e,sZ l h]at h1 h2;rw[iV]at h2;exact⟨h1,h2⟩
theorem Cg(op:Bool)(p:Nat)(l:List Nat)(h:vZ op (blk p) l=false):lD op p (fO l)=(jZ l).2+lD op (l.getD ((jZ l).2-1) 0) (fO (l.drop (jZ l).2))/\1<=(jZ l).2/\(jZ l).2<=gL l:=by
 have h0:gL l≠0:=by
  intro e;cases l with
  |nil=>cases h
  |cons c t=>
   cases hb:brk c with
   |true=>simp[vZ,hb]at h
   |false=>rw[(jm c t hb).2]at e;omega
 have h1:=uI l h0;rw[Jt op p _ (by rw[Bf];exact h),sZ l h0,tN l _ h1.2,tQ l _ (by omega)];exact⟨rfl,h1⟩
theorem goes_le(op:Bool):∀(f p:Nat)(l:List Nat),goes op f p l<=l.length
 |0,_,_=>gG _
 |f+1,p,l=>by
  rw[goes];split
  ·exact gG _
  rename_i h;cases l with
  |nil=>exact absurd rfl h
  |cons c r=>
   have h1:=IU c r;have h2:=goes_le op f ((c::r).getD ((jZ (c::r)).2-1) 0) ((c::r).drop (jZ (c::r)).2);rw[iq]at h2;omega
theorem Gc(op:Bool)(l:List Nat)(h:gL l≠0)(N:Nat)(hN:(jZ l).2+lD op (l.getD ((jZ l).2-1) 0) (fO (l.drop (jZ l).2))=N):pG op (fO l)=trim ((fO l).take N)/\N<=gL l/\1<=N:=by
 have h1:=uI l h;have h2:lD op (l.getD ((jZ l).2-1) 0) (fO (l.drop (jZ l).2))<=(fO (l.drop (jZ l).2)).length:=by
  exact goes_le op _ _ _
 rw[iV,yF l _ h1.2]at h2;rw[uF,sZ l h,tN l _ h1.2,tQ l _ (by omega),hN];exact⟨rfl,by omega,by omega⟩
theorem Gd(l:List Nat)(c:Nat):trim (l++[c])=if blk c=true then trim l else l.length+1:=by
 induction l with
 |nil=>cases h:blk c<;>simp[trim,h]
 |cons a r ih=>
  rw[LA,trim,ih];cases h:blk c with
  |true=>rw[eT rfl,eT rfl,trim]
  |false=>simp
theorem yL(l:List Nat)(k:Nat)(h:k<l.length):trim (l.take (k+1))=if blk (l.getD k 0)=true then trim (l.take k)else k+1:=by
 rw[LM,lU h,Option.toList_some,Gd,jS,lU h,Option.getD_some,jQ,Cv (uX h)]
theorem JI(l:List Nat)(h:0<l.length)(hb:blk (l.getD 0 0)=false):trim (l.take 1)=1:=by
 rw[yL l 0 h,hb];rfl
def NS(rest:List Nat):Bool:=
 match rest.drop (run blk rest)with
 |[]=>true
 |c::_=>brk c||(c==35&&decide (0<run blk rest))
theorem JJ(t:List Nat):part t=(t.isEmpty||decide (0<run blk t)):=by
 cases t with
 |nil=>rfl
 |cons c r=>cases h:blk c<;>simp[part,run,h]
theorem JK(l:List Nat):CE (fO l)=NS l:=by
 have hr:=l5 blk rq l;have hle:=tO blk rq l;unfold CE NS;rw[hr,tN l _ hle,JJ,hr];rcases EG blk l with h|⟨c,t,h,hc⟩
 ·rw[h,MH];rfl
 rw[h];cases hb:brk c with
 |true=>rw[(kM c t hb).1];simp[hb]
 |false=>
  have he:(fO l).isEmpty=false\/run blk l=0:=by
   by_cases h0:run blk l=0
   ·exact .inr h0
   left;have:=iV l;cases e:fO l with
   |nil=>rw[e]at this;simp at this;omega
   |cons x y=>rfl
  rw[(jm c t hb).1];simp only[hsh,hb,Lu];have hne:(c::fO t==[])=false:=by rfl
  rw[hne,Lu,Bool.and_comm];rcases he with he|he
  ·rw[he,Lu]
  rw[he]at h;have h':l=c::t:=h;subst h';rw[(jm c t hb).1];rfl
def nA:List Nat->Nat
 |[]=>0
 |c::r=>if c=124\/c=62 then(if NS ((c::r).drop (nU r))=true then nU r else 0)else 0
theorem yM(r:List Nat):nU (fO r)=nU r:=by
 cases r with
 |nil=>rfl
 |cons c t=>
  cases hb:brk c with
  |true=>
   rw[(kM c t hb).1];have h1:c≠43:=by rintro rfl;simp[brk]at hb
   have h2:c≠45:=by rintro rfl;simp[brk]at hb
   simp[nU,h1,h2]
  |false=>rw[(jm c t hb).1];rfl
theorem Dp(r:List Nat):nU r<=gL r+1:=by
 have:=wL (fO r);rw[yM,iV]at this;exact this
theorem JL(l:List Nat)(h:gL l≠0):oI (fO l)=nA l:=by
 cases l with
 |nil=>exact absurd rfl h
 |cons c t=>
  cases hb:brk c with
  |true=>exact absurd (kM c t hb).2 h
  |false=>
   have h1:=(jm c t hb).1;have h2:=(jm c t hb).2;have h3:=Dp t;rw[h1,oI,nA,yM,<-h1,tN (c::t) _ (by omega),JK]
end Sc
section
open Go.RowKit
open Sg
def LZ(n p x y:Nat):Nat:=if x=13 then(if p+1<n/\y=10 then 2 else 1)else if x=10 then 1 else 0
theorem JM(b off cap n p x y:Nat)(w:World)(hn:p<n)(hm:n<=9223372036854775807)(h0:w.cell? ⟨b,off+p,none⟩=some (.int .u8 x))(h1:p+1<n->w.cell? ⟨b,off+(p+1),none⟩=some (.int .u8 y)):
 Calls prog 57 #[.slice (some ⟨b,off,none⟩) n cap,.int .i64 p] w λe w'=>e=.returned (.int .i64 (LZ n p x y))/\w=w':=by
 have hlt:(p:Int)<(n:Int):=by omega
 have hge:¬((n:Int)<=(p:Int)):=by omega
 unfold LZ;by_cases c1:x=13
 ·subst c1;by_cases c2:p+1<n
  ·have g1:=h1 c2;have hl2:(p:Int)+1<(n:Int):=by omega
   clear h1;by_cases c3:y=10
   ·subst c3;rw[eT rfl,eT ⟨c2,rfl⟩]
    go_enter func57,ntmps57
    go_wp2;go_ret;exact⟨rfl,rfl⟩
   have hb:((y:Int)==10)=false:=by simp;omega
   rw[eT rfl,eQ (λh=>c3 h.2)];clear c3
   go_enter func57,ntmps57
   go_wp2;go_ret;exact⟨rfl,rfl⟩
  have hl2:¬((p:Int)+1<(n:Int)):=by omega
  rw[eT rfl,eQ (λh=>c2 h.1)];clear c2 h1
  go_enter func57,ntmps57
  go_wp2;go_ret;exact⟨rfl,rfl⟩
 have ha:((x:Int)==13)=false:=by simp;omega
 rw[eQ c1];clear c1 h1;by_cases c2:x=10
 ·subst c2;rw[eT rfl]
  go_enter func57,ntmps57
  go_wp2;go_ret;exact⟨rfl,rfl⟩
 have hb:((x:Int)==10)=false:=by simp;omega
 rw[eQ c2];clear c2
 go_enter func57,ntmps57
 go_wp2;go_ret;exact⟨rfl,rfl⟩
theorem nJ(c:Nat)(w:World):
 Calls prog 59 #[.int .u8 c] w λe w'=>e=.returned (.bool (Sc.blk c))/\w=w':=by
 go_enter func59,ntmps59
 go_wp2;all_goals
  go_ret;refine⟨?_,rfl⟩;refine congrArg (λb=>Ending.returned (.bool b)) ?_;rw[uj];simp[Sc.blk]at*;try omega
theorem MM(c:Nat)(w:World):
 Calls prog 77 #[.int .u8 c] w λe w'=>e=.returned (.bool (Sc.uy c))/\w=w':=by
 go_enter func77,ntmps77
 go_wp2;all_goals
  go_ret;refine⟨?_,rfl⟩;refine congrArg (λb=>Ending.returned (.bool b)) ?_;rw[uj];simp[Sc.uy]at*;try omega
theorem EH(c:Nat)(w:World):
 Calls prog 78 #[.int .u8 c] w λe w'=>e=.returned (.bool (Sc.Li c))/\w=w':=by
 go_enter func78,ntmps78
 go_wp2;all_goals
  go_ret;refine⟨?_,rfl⟩;refine congrArg (λb=>Ending.returned (.bool b)) ?_;rw[uj];simp[Sc.Li]at*;try omega
theorem rF(k:Nat)(w:World):
 Calls prog 42 #[.int .i64 k] w λe w'=>e=.returned (.bool (Sc.counts k))/\w=w':=by
 go_enter func42,ntmps42
 go_wp2;all_goals
  go_ret;refine⟨?_,rfl⟩;refine congrArg (λb=>Ending.returned (.bool b)) ?_;rw[uj];simp[Sc.counts]at*;try omega
theorem Gf(n p x y:Nat)(t:List Nat)(h:n=p+1+t.length)(hy:∀d r,t=d::r->y=d):LZ n p x y=Sc.kF (x::t):=by
 unfold LZ;cases t with
 |nil=>
  have h1:¬(p+1<n):=by simp at h;omega
  rw[Sc.kF];simp[h1]
 |cons d r=>
  have:=hy d r rfl;subst this;have h1:p+1<n:=by simp at h;omega
  rw[Sc.kF];simp[h1]
theorem oQ(c:Nat)(t:List Nat):Sc.kF (c::t)=0↔Sc.brk c=false:=by
 cases t with
 |nil=>simp[Sc.kF,Sc.brk];(repeat' split)<;>omega
 |cons d r=>simp[Sc.kF,Sc.brk];(repeat' split)<;>omega
theorem Bg(l:List Nat):Sc.kF l<=2:=by
 match l with
 |[]=>decide
 |[c]=>rw[Sc.kF];(repeat' split)<;>omega
 |c::d::t=>rw[Sc.kF];(repeat' split)<;>omega
end
section
open Go.RowKit
open Sg
def r9(w:World)(b off:Nat)(L:List Nat):Prop:=∀(j c:Nat),L[j]?=some c->w.cell? ⟨b,off+j,none⟩=some (.int .u8 c)
theorem r9.below{w w':World}{b off:Nat}{L:List Nat}(h:r9 w b off L)(hb:Below w.heap.size w w'):r9 w' b off L:=λj c hj=>fe hb (h j c hj)
theorem qK{L:List Nat}{j c:Nat}{t:List Nat}(h:L.drop j=c::t):L[j]?=some c:=by
 have:=congrArg (λl=>l[0]?) h
 simpa using this
theorem r9.at_{w:World}{b off:Nat}{L:List Nat}(h:r9 w b off L){j c:Nat}{t:List Nat}(hd:L.drop j=c::t):w.cell? ⟨b,off+j,none⟩=some (.int .u8 c):=h j c (qK hd)
theorem gY(L:List Nat)(i:Nat):(L.drop i=[]/\L.length<=i)\/∃c t,L.drop i=c::t/\L.drop (i+1)=t/\L.length=i+1+t.length:=by
 cases h:L.drop i with
 |nil=>exact .inl ⟨rfl,Sc.MJ h⟩
 |cons c t=>exact .inr ⟨c,t,rfl,(Sc.kN h).2.1,(Sc.kN h).2.2⟩
variable {w:World}{a b off cap n:Nat}{L:List Nat}
theorem Eb(i:Nat)(hn:L.length=n)(hm:n<=20000)(hi:i<=20000)(c0:w.cell? ⟨a,0,none⟩=some (.slice (some ⟨b,off,none⟩) n cap))(hT:r9 w b off L):
 Calls prog 55 #[.pointer (some ⟨a,0,none⟩),.int .i64 i] w λe w'=>e=.returned (.int .u8 (L.getD i 0))/\w=w':=by
 rcases gY L i with⟨h1,h2⟩|⟨c,t,h1,h2,h3⟩
 ·have e:L.getD i 0=0:=by rw[jS,uV h2];rfl
  have i1:(n:Int)<=(i:Int):=by omega
  rw[e];clear hT h1 h2 e
  go_enter func55,ntmps55
  go_wp2_with fail
  go_ret;exact⟨rfl,rfl⟩
 have e:L.getD i 0=c:=by rw[jS,qK h1];rfl
 have d:=hT.at_ h1;have i1:(i:Int)<(n:Int):=by omega
 rw[e];clear hT h1 h2 h3 e hn
 go_enter func55,ntmps55
 go_wp2_with fail
 go_ret;exact⟨rfl,rfl⟩
theorem ru(i c:Nat)(t:List Nat)(hn:L.length=n)(hm:n<=20000)(hT:r9 w b off L)(h1:L.drop i=c::t):
 Calls prog 57 #[.slice (some ⟨b,off,none⟩) n cap,.int .i64 i] w λe w'=>e=.returned (.int .i64 (Sc.kF (c::t)))/\w=w':=by
 have h2:=Sc.kN h1;rw[hn]at h2
 have:=JM b off cap n i c (t.getD 0 0) w h2.1 (by omega) (hT.at_ h1) (λh=>by
  have h3:=h2.2.1;cases t with
  |nil=>have:=h2.2.2;simp at this;omega
  |cons d r=>exact hT.at_ h3)
 rw[Gf n i c _ t h2.2.2 (λd r e=>by rw[e];rfl)]at this;exact this
theorem CS(i:Nat)(hn:L.length=n)(hm:n<=20000)(hi:i<=20000)(c0:w.cell? ⟨a,0,none⟩=some (.slice (some ⟨b,off,none⟩) n cap))(hT:r9 w b off L):
 Calls prog 56 #[.pointer (some ⟨a,0,none⟩),.int .i64 i] w λe w'=>e=.returned (.bool (Sc.nT (L.drop i)))/\w=w':=by
 rcases gY L i with⟨h1,h2⟩|⟨c,t,h1,h2,h3⟩
 ·have i1:(n:Int)<=(i:Int):=by omega
  rw[h1,show Sc.nT []=true from rfl];clear hT h1 h2
  go_enter func56,ntmps56
  go_wp2_with fail
  go_ret;exact⟨rfl,rfl⟩
 have d:=hT.at_ h1;have i1:(i:Int)<(n:Int):=by omega
 have HB:=eu (nJ c w);have HK:=eu (ru (cap:=cap) i c t hn hm hT h1);rw[h1,show Sc.nT (c::t)=(Sc.blk c||Sc.brk c)from rfl];have hz:=oQ c t;obtain⟨K,hK⟩:=eX (Sc.kF (c::t));rw[hK]at HK hz;have hg:decide (0<K)=Sc.brk c:=by
  cases hb:Sc.brk c with
  |true=>exact iO (by have:=mt hz.1 (by rw[hb];simp);omega)
  |false=>exact iF (by have:=hz.2 hb;omega)
 obtain⟨P,hP⟩:=eX (Sc.brk c);rw[hP]at hg⊢;obtain⟨B,hB⟩:=eX (Sc.blk c);rw[hB]at HB⊢;have HG:=eu hg;have HN:=eu (show decide (n<=i)=false from iF (by omega));clear hT h1 h2 h3 hn hz hK hP hB hg
 go_enter func56,ntmps56
 go_wp2_with fail
 refine HB.out.mono ?_;rintro e w1 ⟨rfl,rfl⟩;cases B with
 |true=>
  go_wp2_with fail
  go_ret;exact⟨rfl,rfl⟩
 |false=>
  go_wp2_with fail
  refine HK.out.mono ?_;rintro e w1 ⟨rfl,rfl⟩;go_wp2_with fail
  go_ret;exact⟨by simp[HN.out,HG.out],rfl⟩
theorem NY(i:Nat)(hn:L.length=n)(hm:n<=16384)(hi:i<n)(c0:w.cell? ⟨a,0,none⟩=some (.slice (some ⟨b,off,none⟩) n cap))(hT:r9 w b off L):
 Calls prog 37 #[.pointer (some ⟨a,0,none⟩),.int .i64 i] w λe w'=>e=.returned (.int .i64 (Sc.markT (L.drop i)))/\w=w':=by
 have HB:=eu (Eb i hn (by omega) (by omega) c0 hT);have hE0:=CS (i+3) hn (by omega) (by omega) c0 hT;rw[show((i+3:Nat):Int)=(i:Int)+3 from by omega]at hE0;have HE:=eu hE0;clear hE0;rcases gY L i with⟨h1,h2⟩|⟨c,t,h1,h2,h3⟩
 ·omega
 have hg:L.getD i 0=c:=by rw[jS,qK h1];rfl
 rw[hg]at HB;rw[h1];by_cases hs:n<i+3
 ·have i1:(n:Int)<(i:Int)+3:=by omega
  have hz:Sc.markT (c::t)=0:=by
   match t with
   |[]=>rfl
   |[d]=>rfl
   |d::e::r=>simp at h3;omega
  rw[hz];clear hT h1 h2 h3 hn hg hz hs
  go_enter func37,ntmps37
  go_wp2_with fail
  refine HB.out.mono ?_;rintro e w1 ⟨rfl,rfl⟩;go_wp2_with fail
  go_ret;exact⟨rfl,rfl⟩
 obtain⟨d,e,r,rfl⟩:∃d e r,t=d::e::r:=by
  match t,h3 with
  |[],h3=>simp at h3;omega
  |[d],h3=>simp at h3;omega
  |d::e::r,_=>exact⟨d,e,r,rfl⟩
 have d1:=hT.at_ h2;have h4:=(Sc.kN h2).2.1;have d2:w.cell? ⟨b,off+(i+2),none⟩=some (.int .u8 e):=hT.at_ h4;have h5:=(Sc.kN h4).2.1;rw[show i+3=i+1+1+1 from rfl,h5]at HE;have i1:¬((n:Int)<(i:Int)+3):=by omega
 have j1:(i:Int)+1<(n:Int):=by omega
 have j2:(i:Int)+2<(n:Int):=by omega
 obtain⟨E,hE⟩:=eX (Sc.nT r);rw[hE]at HE;rw[show Sc.markT (c::d::e::r)=if d=c/\e=c/\Sc.nT r=true then(if c=45 then 20 else if c=46 then 21 else 0)else 0 from rfl,hE];clear hT h1 h2 h3 h4 h5 hn hg hE hs;by_cases q1:d=c
 ·subst q1;by_cases q2:e=d
  ·subst q2;cases E with
   |true=>
    rw[eT ⟨rfl,rfl,rfl⟩];by_cases q3:e=45
    ·have g3:((e:Int)==45)=true:=by simp;omega
     rw[eT q3];clear q3
     go_enter func37,ntmps37
     go_wp2_with fail
     refine HB.out.mono ?_;rintro e w1 ⟨rfl,rfl⟩;go_wp2_with fail
     refine HE.out.mono ?_;rintro e w1 ⟨rfl,rfl⟩;go_wp2_with fail
     go_ret;exact⟨rfl,rfl⟩
    have g3:((e:Int)==45)=false:=by simp;omega
    rw[eQ q3];clear q3;by_cases q4:e=46
    ·have g4:((e:Int)==46)=true:=by simp;omega
     rw[eT q4];clear q4
     go_enter func37,ntmps37
     go_wp2_with fail
     refine HB.out.mono ?_;rintro e w1 ⟨rfl,rfl⟩;go_wp2_with fail
     refine HE.out.mono ?_;rintro e w1 ⟨rfl,rfl⟩;go_wp2_with fail
     go_ret;exact⟨rfl,rfl⟩
    have g4:((e:Int)==46)=false:=by simp;omega
    rw[eQ q4];clear q4
    go_enter func37,ntmps37
    go_wp2_with fail
    refine HB.out.mono ?_;rintro e w1 ⟨rfl,rfl⟩;go_wp2_with fail
    refine HE.out.mono ?_;rintro e w1 ⟨rfl,rfl⟩;go_wp2_with fail
    go_ret;exact⟨rfl,rfl⟩
   |false=>
    rw[eQ (λh=>by cases h.2.2)]
    go_enter func37,ntmps37
    go_wp2_with fail
    refine HB.out.mono ?_;rintro e w1 ⟨rfl,rfl⟩;go_wp2_with fail
    refine HE.out.mono ?_;rintro e w1 ⟨rfl,rfl⟩;go_wp2_with fail
    go_ret;exact⟨rfl,rfl⟩
  have g2:((e:Int) !=(d:Int))=true:=by simp;omega
  rw[eQ (λh=>q2 h.2.1)];clear q2 HE
  go_enter func37,ntmps37
  go_wp2_with fail
  refine HB.out.mono ?_;rintro e w1 ⟨rfl,rfl⟩;go_wp2_with fail
  go_ret;exact⟨rfl,rfl⟩
 have g1:((d:Int) !=(c:Int))=true:=by simp;omega
 rw[eQ (λh=>q1 h.1)];clear q1 HE d2
 go_enter func37,ntmps37
 go_wp2_with fail
 refine HB.out.mono ?_;rintro e w1 ⟨rfl,rfl⟩;go_wp2_with fail
 go_ret;exact⟨rfl,rfl⟩
end
section
open Go.RowKit
open Sg
variable {w:World}{a b off cap n:Nat}{L:List Nat}
theorem Gg(c:Nat)(t:List Nat)(h:Sc.brk c=true):Sc.gL (c::t)=0:=(Sc.kM c t h).2
theorem JN(c:Nat)(t:List Nat)(h:Sc.brk c=false):Sc.gL (c::t)=Sc.gL t+1:=(Sc.jm c t h).2
theorem zS(i T:Nat)(hn:L.length=n)(hm:n<=16384)(hi:i<=n)(ae:i+Sc.gL (L.drop i)=T)(c0:w.cell? ⟨a,0,none⟩=some (.slice (some ⟨b,off,none⟩) n cap))(hT:r9 w b off L):
 Calls prog 60 #[.pointer (some ⟨a,0,none⟩),.int .i64 i] w λe w'=>e=.returned (.int .i64 T)/\w=w':=by
 obtain⟨HT,HN,aa⟩:=gW hT hn ae;clear hT hn ae
 go_enter func60,ntmps60
 go_wp2_with fail
 go_loopw [1] (λis wr=>∃k:Nat,is=.int .i64 k/\k<=n/\Hid (k+Sc.gL (L.drop k)=T)/\w=wr) (λis _=>n-(intOf is).toNat)
 case atStart=>exact⟨i,rfl,hi,aa,rfl⟩
 case round=>
  obtain⟨k,rfl,hk,HK,rfl⟩:=hrel;rcases gY L k with⟨h1,h2⟩|⟨c,t,h1,h2,h3⟩
  ·have i1:¬((k:Int)<(n:Int)):=by have:=HN.out;omega
   have HE:=eu (show T=k by have:=HK.out;rw[h1,show Sc.gL []=0 from rfl]at this;omega);clear h1 h2 HK aa;go_wp2_with fail
   go_ret;exact⟨by rw[HE.out];rfl,rfl⟩
  have hkn:k<n:=by have:=HN.out;omega
  have i1:(k:Int)<(n:Int):=by omega
  have hB:=ru (cap:=cap) k c t HN.out (by omega) HT.out h1;have hz:=oQ c t;obtain⟨K,af⟩:=eX (Sc.kF (c::t));rw[af]at hB hz;have HB:=eu hB;clear hB af h3;cases hb:Sc.brk c with
  |true=>
   have gK:((K:Int)==0)=false:=by have:=mt hz.1 (by rw[hb];simp);simp;omega
   have HE:=eu (show T=k by have:=HK.out;rw[h1,Gg c t hb]at this;omega);clear h1 h2 HK aa hz hb hkn;go_wp2_with fail
   refine HB.out.mono ?_;rintro e w1 ⟨rfl,rfl⟩;go_wp2_with fail
   go_ret;exact⟨by rw[HE.out];rfl,rfl⟩
  |false=>
   obtain rfl:K=0:=hz.2 hb;have HE:=eu (show(k+1)+Sc.gL (L.drop (k+1))=T by have:=HK.out;rw[h1,JN c t hb]at this;rw[h2];omega);clear h1 h2 HK aa hz hb;go_wp2_with fail
   refine HB.out.mono ?_;rintro e w1 ⟨rfl,rfl⟩;go_wp2_with fail
   go_roundw
   case rel=>exact⟨k+1,by go_num,by omega,HE,trivial⟩
   case measure=>simp[intOf];omega
def cls(tag:Bool):Nat->Bool:=if tag=true then Sc.Hq else Sc.uy
theorem Pv(tag:Bool)(c:Nat):cls tag c=(Sc.uy c||(tag&&c==33)):=by
 cases tag
 ·simp[cls]
 simp[cls,Sc.Hq,Bool.or_comm]
theorem I6(tag:Bool)(i T:Nat)(hn:L.length=n)(hm:n<=16384)(hi:i<=n)(ai:i+Sc.run (cls tag) (L.drop i)=T)(c0:w.cell? ⟨a,0,none⟩=some (.slice (some ⟨b,off,none⟩) n cap))(hT:r9 w b off L):
 Calls prog 62 #[.pointer (some ⟨a,0,none⟩),.int .i64 i,.bool tag] w λe w'=>e=.returned (.int .i64 T)/\w=w':=by
 obtain⟨HT,HN,ag⟩:=gW hT hn ai;clear hT hn ai
 go_enter func62,ntmps62
 go_wp2_with fail
 go_loopw [1] (λis wr=>∃k:Nat,is=.int .i64 k/\k<=n/\Hid (k+Sc.run (cls tag) (L.drop k)=T)/\w=wr) (λis _=>n-(intOf is).toNat)
 case atStart=>exact⟨i,rfl,hi,ag,rfl⟩
 case round=>
  obtain⟨k,rfl,hk,HK,rfl⟩:=hrel;rcases gY L k with⟨h1,h2⟩|⟨c,t,h1,h2,h3⟩
  ·have i1:¬((k:Int)<(n:Int)):=by have:=HN.out;omega
   have HE:=eu (show T=k by have:=HK.out;rw[h1,show Sc.run (cls tag) []=0 from rfl]at this;omega);clear h1 h2 HK ag;go_wp2_with fail
   go_ret;exact⟨by rw[HE.out];rfl,rfl⟩
  have hkn:k<n:=by have:=HN.out;omega
  have i1:(k:Int)<(n:Int):=by omega
  have d:=HT.out.at_ h1;have af:=eu (MM c w);obtain⟨N,ah⟩:=eX (Sc.uy c);rw[ah]at af;have hc:=Pv tag c;rw[ah]at hc;have aa:=eu (fun(g:cls tag c=true)=>show(k+1)+Sc.run (cls tag) (L.drop (k+1))=T by have:=HK.out;rw[h1,Sc.iH,eT g]at this;rw[h2];omega);have ae:=eu (fun(g:¬cls tag c=true)=>show T=k by have:=HK.out;rw[h1,Sc.iH,eQ g]at this;omega);clear h1 h2 h3 HK ag ah;cases N with
  |true=>
   have HR:=eu (aa.out (by rw[hc];rfl));clear hc aa ae;go_wp2_with fail
   refine af.out.mono ?_;rintro e w1 ⟨rfl,rfl⟩;go_wp2_with fail
   go_roundw
   case rel=>exact⟨k+1,by go_num,by omega,HR,trivial⟩
   case measure=>simp[intOf];omega
  |false=>
   cases tag with
   |false=>
    have HR:=eu (ae.out (by rw[hc];simp));clear hc aa ae;go_wp2_with fail
    refine af.out.mono ?_;rintro e w1 ⟨rfl,rfl⟩;go_wp2_with fail
    go_ret;exact⟨by rw[HR.out];rfl,rfl⟩
   |true=>
    by_cases q:c=33
    ·have g:((c:Int)==33)=true:=by simp;omega
     have HR:=eu (aa.out (by rw[hc,q];rfl));clear hc aa ae q;go_wp2_with fail
     refine af.out.mono ?_;rintro e w1 ⟨rfl,rfl⟩;go_wp2_with fail
     go_roundw
     case rel=>exact⟨k+1,by go_num,by omega,HR,trivial⟩
     case measure=>simp[intOf];omega
    have g:((c:Int)==33)=false:=by simp;omega
    have HR:=eu (ae.out (by rw[hc];simp[q]));clear hc aa ae q;go_wp2_with fail
    refine af.out.mono ?_;rintro e w1 ⟨rfl,rfl⟩;go_wp2_with fail
    go_ret;exact⟨by rw[HR.out];rfl,rfl⟩
theorem MN(c:Nat)(r:List Nat)(h:c≠39):Sc.oF (c::r)=Sc.oF r+1:=by
 cases r with
 |nil=>rfl
 |cons d t=>rw[Sc.oF,eQ h]
theorem JO(d:Nat)(r:List Nat)(h:d=39):Sc.oF (39::d::r)=Sc.oF r+2:=by rw[Sc.oF,eT rfl,eT h]
theorem JP(d:Nat)(r:List Nat)(h:d≠39):Sc.oF (39::d::r)=1:=by rw[Sc.oF,eT rfl,eQ h]
theorem tT{k c m:Nat}{t:List Nat}(h1:L.drop k=c::t)(h2:L.drop (k+1)=t)(h:k<m):(L.drop k).take (m-k)=c::(L.drop (k+1)).take (m-(k+1)):=by
 rw[h1,h2,show m-k=m-(k+1)+1 by omega,vR]
theorem oU{k m:Nat}(h:m<=k):(L.drop k).take (m-k)=[]:=by
 rw[show m-k=0 by omega,vS]
theorem MO(i m T:Nat)(hn:L.length=n)(hm:n<=16384)(hi:i<=m)(af:m<=n)(ae:i+Sc.oF ((L.drop i).take (m-i))=T)(c0:w.cell? ⟨a,0,none⟩=some (.slice (some ⟨b,off,none⟩) n cap))(hT:r9 w b off L):
 Calls prog 64 #[.pointer (some ⟨a,0,none⟩),.int .i64 i,.int .i64 m] w λe w'=>e=.returned (.int .i64 T)/\w=w':=by
 obtain⟨HT,HN,aa⟩:=gW hT hn ae;clear hT hn ae
 go_enter func64,ntmps64
 go_wp2_with fail
 go_loopw [1] (λis wr=>∃k:Nat,is=.int .i64 k/\k<=m/\Hid (k+Sc.oF ((L.drop k).take (m-k))=T)/\w=wr) (λis _=>m-(intOf is).toNat)
 case atStart=>exact⟨i,rfl,hi,aa,rfl⟩
 case round=>
  obtain⟨k,rfl,hk,HK,rfl⟩:=hrel;by_cases hlt:k<m
  ·have i1:(k:Int)<(m:Int):=by omega
   have i2:(k:Int)<(n:Int):=by omega
   rcases gY L k with⟨h1,h2⟩|⟨c,t,h1,h2,h3⟩
   ·have:=HN.out;omega
   have d:=HT.out.at_ h1;have hP:=tT h1 h2 hlt;by_cases q:c=39
   ·subst q;by_cases hl2:k+1<m
    ·have j1:(k:Int)+1<(m:Int):=by omega
     have j2:(k:Int)+1<(n:Int):=by omega
     rcases gY L (k+1)with⟨g1,g2⟩|⟨x,u,g1,g2,g3⟩
     ·have:=HN.out;omega
     have d2:=HT.out.at_ g1;have hP2:=tT g1 g2 hl2;by_cases q2:x=39
     ·have gx:((x:Int)==39)=true:=by simp;omega
      have HR:=eu (show(k+2)+Sc.oF ((L.drop (k+2)).take (m-(k+2)))=T by have:=HK.out;rw[hP,hP2,JO x _ q2,show k+1+1=k+2 from rfl]at this;omega);clear h1 h2 h3 HK aa hP hP2 q2 g1 g2 g3;go_wp2_with fail
      go_roundw
      case rel=>exact⟨k+2,by go_num,by omega,HR,trivial⟩
      case measure=>simp[intOf];omega
     have gx:((x:Int)==39)=false:=by simp;omega
     have HR:=eu (show T=k+1 by have:=HK.out;rw[hP,hP2,JP x _ q2]at this;omega);clear h1 h2 h3 HK aa hP hP2 q2 g1 g2 g3;go_wp2_with fail
     go_ret;exact⟨by rw[HR.out];first|rfl|go_num,rfl⟩
    have j1:¬((k:Int)+1<(m:Int)):=by omega
    have HR:=eu (show T=k+1 by have:=HK.out;rw[hP,oU (by omega)]at this;exact this.symm);clear h1 h2 h3 HK aa hP;go_wp2_with fail
    go_ret;exact⟨by rw[HR.out];first|rfl|go_num,rfl⟩
   have gc:((c:Int) !=39)=true:=by simp;omega
   have HR:=eu (show(k+1)+Sc.oF ((L.drop (k+1)).take (m-(k+1)))=T by have:=HK.out;rw[hP,MN c _ q]at this;omega);clear h1 h2 h3 HK aa hP q;go_wp2_with fail
   go_roundw
   case rel=>exact⟨k+1,by go_num,by omega,HR,trivial⟩
   case measure=>simp[intOf];omega
  have i1:¬((k:Int)<(m:Int)):=by omega
  have HR:=eu (show T=m by have:=HK.out;rw[oU (by omega)]at this;have e:Sc.oF []=0:=rfl;omega);clear HK aa;go_wp2_with fail
  go_ret;exact⟨by rw[HR.out];rfl,rfl⟩
theorem MP(c:Nat)(r:List Nat)(h:c≠34)(h2:c≠92):Sc.mV (c::r)=Sc.mV r+1:=by
 cases r with
 |nil=>rfl
 |cons d t=>rw[Sc.mV,eQ h,eQ h2]
theorem Dq(r:List Nat):Sc.mV (34::r)=1:=by
 cases r with
 |nil=>rfl
 |cons d t=>rw[Sc.mV,eT rfl]
theorem JQ(d:Nat)(r:List Nat):Sc.mV (92::d::r)=Sc.mV r+2:=by rw[Sc.mV,eQ (by decide),eT rfl]
theorem MQ(i m T:Nat)(hn:L.length=n)(hm:n<=16384)(hi:i<=m)(af:m<=n)(ae:i+Sc.mV ((L.drop i).take (m-i))=T)(c0:w.cell? ⟨a,0,none⟩=some (.slice (some ⟨b,off,none⟩) n cap))(hT:r9 w b off L):
 Calls prog 65 #[.pointer (some ⟨a,0,none⟩),.int .i64 i,.int .i64 m] w λe w'=>e=.returned (.int .i64 T)/\w=w':=by
 obtain⟨HT,HN⟩:=fD hT hn;have aa:=eu (show min i m+Sc.mV ((L.drop i).take (m-i))=T by rw[Cv hi];exact ae);clear hT hn ae
 go_enter func65,ntmps65
 go_wp2_with fail
 go_loopw [1] (λis wr=>∃k:Nat,is=.int .i64 k/\k<=m+1/\Hid (min k m+Sc.mV ((L.drop k).take (m-k))=T)/\w=wr) (λis _=>m+1-(intOf is).toNat)
 case atStart=>exact⟨i,rfl,by omega,aa,rfl⟩
 case round=>
  obtain⟨k,rfl,hk,HK,rfl⟩:=hrel;by_cases hlt:k<m
  ·have i1:(k:Int)<(m:Int):=by omega
   have i2:(k:Int)<(n:Int):=by omega
   rcases gY L k with⟨h1,h2⟩|⟨c,t,h1,h2,h3⟩
   ·have:=HN.out;omega
   have d:=HT.out.at_ h1;have hP:=tT h1 h2 hlt;by_cases q:c=34
   ·subst q;have HR:=eu (show T=k+1 by have:=HK.out;rw[hP,Dq]at this;omega);clear h1 h2 h3 HK aa hP;go_wp2_with fail
    go_ret;exact⟨by rw[HR.out];first|rfl|go_num,rfl⟩
   have gc:((c:Int)==34)=false:=by simp;omega
   by_cases q2:c=92
   ·have g2:((c:Int)==92)=true:=by simp;omega
    have HR:=eu (show min (k+2) m+Sc.mV ((L.drop (k+2)).take (m-(k+2)))=T by
     have h:=HK.out;rw[hP,q2]at h;by_cases hl2:k+1<m
     ·rcases gY L (k+1)with⟨g1,g2⟩|⟨x,u,g1,g2,g3⟩
      ·have:=HN.out;omega
      rw[tT g1 g2 hl2,JQ]at h;have:k+1+1=k+2:=rfl;rw[this]at h;omega
     rw[oU (k:=k+1) (by omega),show Sc.mV [92]=1 from rfl]at h;rw[oU (by omega),show Sc.mV []=0 from rfl]
     omega)
    clear h1 h2 h3 HK aa hP q q2;go_wp2_with fail
    go_roundw
    case rel=>exact⟨k+2,by go_num,by omega,HR,trivial⟩
    case measure=>simp[intOf];omega
   have g2:((c:Int)==92)=false:=by simp;omega
   have HR:=eu (show min (k+1) m+Sc.mV ((L.drop (k+1)).take (m-(k+1)))=T by have:=HK.out;rw[hP,MP c _ q q2]at this;omega);clear h1 h2 h3 HK aa hP q q2;go_wp2_with fail
   go_roundw
   case rel=>exact⟨k+1,by go_num,by omega,HR,trivial⟩
   case measure=>simp[intOf];omega
  have i1:¬((k:Int)<(m:Int)):=by omega
  have HR:=eu (show T=m by have:=HK.out;rw[oU (by omega)]at this;have e:Sc.mV []=0:=rfl;omega);clear HK aa;go_wp2_with fail
  go_ret;exact⟨by rw[HR.out];rfl,rfl⟩
end
section
open Go.RowKit
open Sg
variable {w:World}{a b off cap n:Nat}{L:List Nat}
theorem MR(op:Bool)(t:List Nat)(h:Sc.nT t=true):Sc.um op t=true:=by
 cases t with
 |nil=>rfl
 |cons d r=>rw[Sc.nT]at h;simp[Sc.um,h]
theorem Pw(t:List Nat)(h:Sc.nT t=false):Sc.um false t=false:=by
 cases t with
 |nil=>cases h
 |cons d r=>rw[Sc.nT]at h;simp[Sc.um,h]
theorem MS(d:Nat)(r:List Nat)(h:Sc.nT (d::r)=false):Sc.um true (d::r)=Sc.Li d:=by
 rw[Sc.nT]at h;simp[Sc.um,h]
theorem I7(i op c:Nat)(t:List Nat)(h1:L.drop i=c::t)(hn:L.length=n)(hm:n<=16384)(c0:w.cell? ⟨a,0,none⟩=some (.slice (some ⟨b,off,none⟩) n cap))(c3:w.cell? ⟨a,3,none⟩=some (.int .i64 op))(hT:r9 w b off L):
 Calls prog 63 #[.pointer (some ⟨a,0,none⟩),.int .i64 i] w λe w'=>e=.returned (.bool (Sc.zu (decide (0<op)) (c::t)))/\w=w':=by
 have h2:=Sc.kN h1;have hi:i<n:=by omega
 have hb:=Eb i hn (by omega) (by omega) c0 hT;rw[show L.getD i 0=c by rw[jS,qK h1];rfl]at hb;have HB:=eu hb;have he:=CS (i+1) hn (by omega) (by omega) c0 hT;have hb2:=Eb (i+1) hn (by omega) (by omega) c0 hT;rw[show((i+1:Nat):Int)=(i:Int)+1 from by omega,h2.2.1]at he;rw[show((i+1:Nat):Int)=(i:Int)+1 from by omega]at hb2;have i1:(i:Int)<(n:Int):=by omega
 rw[Sc.zu];by_cases q:c=58
 ·have g:((c:Int)==58)=true:=by simp;omega
  have gc:(c==58)=true:=by simp;omega
  rw[gc,Bool.true_and];cases hE:Sc.nT t with
  |true=>
   rw[hE]at he;have HE:=eu he;rw[MR _ t hE];clear hb he hb2 hT h1 h2 hn q gc hE
   go_enter func63,ntmps63
   go_wp2_with fail
   refine HB.out.mono ?_;rintro e w1 ⟨rfl,rfl⟩;go_wp2_with fail
   refine HE.out.mono ?_;rintro e w1 ⟨rfl,rfl⟩;go_wp2_with fail
   go_ret;exact⟨rfl,rfl⟩
  |false=>
   rw[hE]at he;have HE:=eu he;by_cases ho:0<op
   ·have aa:(0:Int)<(op:Int):=by omega
    rw[iO ho];cases t with
    |nil=>cases hE
    |cons d r=>
     rw[show L.getD (i+1) 0=d by rw[jS,qK h2.2.1];rfl]at hb2;obtain⟨HB2,HF⟩:=fD hb2 (EH d w);rw[MS d r hE];obtain⟨F,hF⟩:=eX (Sc.Li d);rw[hF]at HF⊢;clear hb he hb2 hT h1 h2 hn q gc hE ho hF
     go_enter func63,ntmps63
     go_wp2_with fail
     refine HB.out.mono ?_;rintro e w1 ⟨rfl,rfl⟩;go_wp2_with fail
     refine HE.out.mono ?_;rintro e w1 ⟨rfl,rfl⟩;go_wp2_with fail
     refine HB2.out.mono ?_;rintro e w1 ⟨rfl,rfl⟩;go_wp2_with fail
     refine HF.out.mono ?_;rintro e w1 ⟨rfl,rfl⟩;go_wp2_with fail
     go_ret;exact⟨by simp,rfl⟩
   obtain rfl:op=0:=by omega
   rw[show decide (0<0)=false from rfl,Pw t hE];clear hb he hb2 hT h1 h2 hn q gc hE ho
   go_enter func63,ntmps63
   go_wp2_with fail
   refine HB.out.mono ?_;rintro e w1 ⟨rfl,rfl⟩;go_wp2_with fail
   refine HE.out.mono ?_;rintro e w1 ⟨rfl,rfl⟩;go_wp2_with fail
   go_ret;exact⟨by simp,rfl⟩
 have g:((c:Int)==58)=false:=by simp;omega
 have gc:(c==58)=false:=by simp;omega
 rw[gc,Bool.false_and];clear hb he hb2 hT h1 h2 hn q gc
 go_enter func63,ntmps63
 go_wp2_with fail
 refine HB.out.mono ?_;rintro e w1 ⟨rfl,rfl⟩;go_wp2_with fail
 go_ret;exact⟨rfl,rfl⟩
theorem MU(rest:List Nat)(h:rest.drop (Sc.run Sc.blk rest)=[]):Sc.NS rest=true:=by unfold Sc.NS;rw[h]
theorem JR(rest:List Nat)(x:Nat)(u:List Nat)(h:rest.drop (Sc.run Sc.blk rest)=x::u):Sc.NS rest=(Sc.brk x||(x==35&&decide (0<Sc.run Sc.blk rest))):=by unfold Sc.NS;rw[h]
theorem Dr(c:Nat)(t:List Nat)(h1:c≠124)(h2:c≠62):Sc.nA (c::t)=0:=by rw[Sc.nA,eQ (by omega)]
theorem Dt(c:Nat)(t:List Nat)(h:c=124\/c=62)(H:Nat)(hH:Sc.nU t=H):Sc.nA (c::t)=if Sc.NS ((c::t).drop H)=true then H else 0:=by rw[Sc.nA,eT h,hH]
theorem Gh(t:List Nat):Sc.nU t=if t.getD 0 0=43\/t.getD 0 0=45 then 2 else 1:=by
 cases t with
 |nil=>rfl
 |cons d r=>
  show(if d=43 then 2 else if d=45 then 2 else 1)=if d=43\/d=45 then 2 else 1
  by_cases h:d=43
  ·rw[eT h,eT (.inl h)]
  rw[eQ h];by_cases h2:d=45
  ·rw[eT h2,eT (.inr h2)]
  rw[eQ h2,eQ (by omega)]
theorem I8(p op c:Nat)(t:List Nat)(h1:L.drop p=c::t)(hn:L.length=n)(hm:n<=16384)(hno:(c≠124/\c≠62)\/0<op)(c0:w.cell? ⟨a,0,none⟩=some (.slice (some ⟨b,off,none⟩) n cap))(c1:w.cell? ⟨a,1,none⟩=some (.int .i64 p))(c3:w.cell? ⟨a,3,none⟩=some (.int .i64 op))(hT:r9 w b off L):
 Calls prog 66 #[.pointer (some ⟨a,0,none⟩)] w λe w'=>e=.returned (.int .i64 (0:Nat))/\Below w.heap.size w w':=by
 have h2:=Sc.kN h1;have i1:(p:Int)<(n:Int):=by omega
 have d:=hT.at_ h1;have d':=d;have HB:=eu (λk=>QB (fu w.heap.size w) k);clear h1 h2 hT d';by_cases q:c≠124/\c≠62
 ·have g1:((c:Int) !=124)=true:=by simp;omega
  have g2:((c:Int) !=62)=true:=by simp;omega
  clear hno q
  go_enter func66,ntmps66
  go_wp2_with fail
  go_big_quiet (fail)
  have hb:=HB.out nq;have c3:=fe hb c3;generalize w.drewN nq=W at*;go_wp2_with fail
  go_ret;exact⟨rfl,hb⟩
 have ho:0<op:=by omega
 have aa:(0:Int)<(op:Int):=by omega
 by_cases q1:c=124
 ·have g1:((c:Int) !=124)=false:=by simp;omega
  clear hno q q1
  go_enter func66,ntmps66
  go_wp2_with fail
  go_big_quiet (fail)
  have hb:=HB.out nq;have c3:=fe hb c3;generalize w.drewN nq=W at*;go_wp2_with fail
  go_ret;exact⟨rfl,hb⟩
 have g1:((c:Int) !=124)=true:=by simp;omega
 have g2:((c:Int) !=62)=false:=by simp;omega
 clear hno q q1
 go_enter func66,ntmps66
 go_wp2_with fail
 go_big_quiet (fail)
 have hb:=HB.out nq;have c3:=fe hb c3;generalize w.drewN nq=W at*;go_wp2_with fail
 go_ret;exact⟨rfl,hb⟩
theorem Px(p c H:Nat)(t:List Nat)(h1:L.drop p=c::t)(hn:L.length=n)(hm:n<=16384)(hc:c=124\/c=62)(hH:Sc.nU t=H)(c0:w.cell? ⟨a,0,none⟩=some (.slice (some ⟨b,off,none⟩) n cap))(c1:w.cell? ⟨a,1,none⟩=some (.int .i64 p))(c3:w.cell? ⟨a,3,none⟩=some (.int .i64 (0:Nat)))(hT:r9 w b off L):
 Calls prog 66 #[.pointer (some ⟨a,0,none⟩)] w λe w'=>e=.returned (.int .i64 (Sc.nA (c::t)))/\Below w.heap.size w w':=by
 have h2:=Sc.kN h1;have i1:(p:Int)<(n:Int):=by omega
 have d:=hT.at_ h1;have HB:=eu (λk=>QB (fu w.heap.size w) k);have aD:H<=t.length+1:=by rw[<-hH];exact Sc.wL t
 have ai:=Gh t;rw[hH]at ai;have hby:=λW (hb:Below w.heap.size w W)=>by
  have:=Eb (w:=W) (a:=a) (p+1) hn (by omega) (by omega) (fe hb c0) (hT.below hb);rw[show((p+1:Nat):Int)=(p:Int)+1 from by omega,show L.getD (p+1) 0=t.getD 0 0 by rw[<-h2.2.1,jS,jS,qT]]at this;exact this
 obtain⟨x,hx⟩:=eX (t.getD 0 0);rw[hx]at ai hby;have ax:=eu hby;obtain⟨J,hJ⟩:=eX (p+H);have aF:J<=n:=by omega
 have hr:(c::t).drop H=L.drop J:=by rw[<-h1,lH,hJ]
 have hF:=Dt c t hc H hH;rw[hr]at hF;obtain⟨K,hK⟩:=eX (J+Sc.run Sc.blk (L.drop J));have ay:(L.drop J).drop (Sc.run Sc.blk (L.drop J))=L.drop K:=by rw[lH,hK]
 obtain⟨HF,HK,az,HJ,aG,HN⟩:=j6 hF hK ay hJ hT hn;have e1:(J:Int)-(p:Int)=(H:Int):=by omega
 have w1:IntKind.i64.wrap (H:Int)=(H:Int):=Rt _ (by omega);clear h1 h2 hT hby hx hJ hK ay hr hF hn hH aD
 go_enter func66,ntmps66
 go_wp2_with fail
 go_big_quiet (fail)
 have hb:=HB.out nq;have c0:=fe hb c0;have c1:=fe hb c1;have c3:=fe hb c3;generalize w.drewN nq=W at*;obtain⟨aa,aA,aj⟩:=gW (ax.out W hb) (aG.out.below hb) hb;have aB:((x=43\/x=45)/\J=p+2)\/(¬(x=43\/x=45)/\J=p+1):=by
  have:=HJ.out;by_cases g:x=43\/x=45
  ·rw[eT g]at ai;exact .inl ⟨g,by omega⟩
  rw[eQ g]at ai;exact .inr ⟨g,by omega⟩
 obtain⟨B,hB⟩:=eX (decide (x=43\/x=45))
 have av:=eu (show J=if B=true then p+2 else p+1 by
  rcases aB with⟨g,e⟩|⟨g,e⟩
  ·rw[<-hB,iO g];exact e
  rw[<-hB,iF g];exact e)
 obtain⟨ak,aC,HW1,HC⟩:=jk hB e1 w1 hc;clear hb ax HB ai aB hB e1 w1 hc;go_upto_region 2 with fail
 go_cut [28] (λq wx=>q=.bool false/\W=wx)
 case first=>
  by_cases q1:c=124
  ·have g1:((c:Int) !=124)=false:=by simp;omega
   clear q1;go_wp2_with fail
   go_meet
   exact⟨rfl,rfl⟩
  have g1:((c:Int) !=124)=true:=by simp;omega
  have g2:((c:Int) !=62)=false:=by have:=HC.out;simp;omega
  clear q1;go_wp2_with fail
  go_meet
  exact⟨rfl,rfl⟩
 case rest=>
 obtain⟨rfl,rfl⟩:=hcut;go_upto_region 5 with fail
 go_cut [43] (λq wx=>q=.bool B/\W=wx)
 case first=>
  by_cases x1:x=43
  ·have y1:((x:Int)==43)=true:=by simp;omega
   have HE:=eu (show B=true by rw[<-ak.out,iO (.inl x1)]);clear x1;go_wp2_with fail
   refine aa.out.mono ?_;rintro e w1 ⟨rfl,rfl⟩;go_wp2_with fail
   go_meet
   exact⟨by rw[HE.out],rfl⟩
  have y1:((x:Int)==43)=false:=by simp;omega
  by_cases x2:x=45
  ·have y2:((x:Int)==45)=true:=by simp;omega
   have HE:=eu (show B=true by rw[<-ak.out,iO (.inr x2)]);clear x1 x2;go_wp2_with fail
   refine aa.out.mono ?_;rintro e w1 ⟨rfl,rfl⟩;go_wp2_with fail
   refine aa.out.mono ?_;rintro e w1 ⟨rfl,rfl⟩;go_wp2_with fail
   go_meet
   exact⟨by rw[HE.out],rfl⟩
  have y2:((x:Int)==45)=false:=by simp;omega
  have HE:=eu (show B=false by rw[<-ak.out,iF (by omega)]);clear x1 x2;go_wp2_with fail
  refine aa.out.mono ?_;rintro e w1 ⟨rfl,rfl⟩;go_wp2_with fail
  refine aa.out.mono ?_;rintro e w1 ⟨rfl,rfl⟩;go_wp2_with fail
  go_meet
  exact⟨by rw[HE.out],rfl⟩
 case rest=>
 obtain⟨rfl,rfl⟩:=hcut
 go_upto_if 43 with fail
 go_cut [4] (λq wx=>q=.int .i64 J/\W=wx)
 case first=>
  cases B with
  |true=>
   go_wp2_with fail
   go_meet
   exact⟨by rw[av.out];first|rfl|(congr 1;simp;omega),rfl⟩
  |false=>
   go_wp2_with fail
   go_meet
   exact⟨by rw[av.out];first|rfl|(congr 1;simp;omega),rfl⟩
 case rest=>
  obtain⟨rfl,rfl⟩:=hcut;have e1:=aC.out;have w1:=HW1.out;clear aa av ak d c3 HC aC HW1;go_wp2_with fail
  go_loopw [5] (λis wr=>∃k:Nat,is=.int .i64 k/\J<=k/\k<=n/\Hid (k+Sc.run Sc.blk (L.drop k)=K)/\W=wr) (λis _=>n-(intOf is).toNat)
  case atStart=>exact⟨J,rfl,fC _,aF,HK,rfl⟩
  case round=>
   obtain⟨k,rfl,hk0,hk,ae,rfl⟩:=hrel;rcases gY L k with⟨h1,h2⟩|⟨x,t',h1,h2,h3⟩
   ·have i2:¬((k:Int)<(n:Int)):=by have:=HN.out;omega
    have af:k=K:=by have:=ae.out;rw[h1,show Sc.run Sc.blk []=0 from rfl]at this;exact this
    have HE:=eu (show Sc.nA (c::t)=H by rw[HF.out,eT (MU _ (by rw[az.out,<-af,h1]))]);clear h1 h2 ae af;go_wp2_with fail
    go_ret;exact⟨by rw[HE.out];rfl,aj.out⟩
   have hkn:k<n:=by have:=HN.out;omega
   have i2:(k:Int)<(n:Int):=by omega
   have d:=aA.out.at_ h1;have ag:=eu (nJ x W);have ah:=eu (ru (cap:=cap) k x t' HN.out (by omega) aA.out h1);have hz:=oQ x t';obtain⟨Z,hZ⟩:=eX (Sc.kF (x::t'));rw[hZ]at ah hz;cases hbl:Sc.blk x with
   |true=>
    rw[hbl]at ag;have HR:=eu (show(k+1)+Sc.run Sc.blk (L.drop (k+1))=K by have:=ae.out;rw[h1,Sc.iH,eT hbl]at this;rw[h2];omega);clear h1 h2 h3 ae hz hZ hbl ah;go_wp2_with fail
    refine ag.out.mono ?_;rintro e w1 ⟨rfl,rfl⟩;go_wp2_with fail
    go_roundw
    case rel=>exact⟨k+1,by go_num,by omega,by omega,HR,trivial⟩
    case measure=>simp[intOf];omega
   |false=>
    rw[hbl]at ag;have af:k=K:=by have:=ae.out;rw[h1,Sc.iH,eQ (by rw[hbl];simp)]at this;exact this
    have hok:=JR (L.drop J) x t' (by rw[az.out,<-af,h1]);have hrun:(0<Sc.run Sc.blk (L.drop J))=(J<k):=by have:=HK.out;exact propext ⟨λh=>by omega,λh=>by omega⟩
    simp only[hrun]at hok;cases hbr:Sc.brk x with
    |true=>
     have gZ:((Z:Int)==0)=false:=by have:=mt hz.1 (by rw[hbr];simp);simp;omega
     have HE:=eu (show Sc.nA (c::t)=H by rw[HF.out,eT (by rw[hok,hbr];rfl)]);clear h1 h2 h3 ae hz hZ hbl hbr hok hrun af;go_wp2_with fail
     refine ag.out.mono ?_;rintro e w1 ⟨rfl,rfl⟩;go_wp2_with fail
     refine ah.out.mono ?_;rintro e w1 ⟨rfl,rfl⟩;go_wp2_with fail
     go_ret;exact⟨by rw[HE.out];rfl,aj.out⟩
    |false=>
     obtain rfl:Z=0:=hz.2 hbr;by_cases x1:x=35
     ·have y1:((x:Int)==35)=true:=by simp;omega
      by_cases x2:J<k
      ·have j1:(J:Int)<(k:Int):=by omega
       have HE:=eu (show Sc.nA (c::t)=H by rw[HF.out,eT (by rw[hok,x1,iO x2];simp)]);clear h1 h2 h3 ae hz hZ hbl hbr hok hrun af x1 x2;go_wp2_with fail
       refine ag.out.mono ?_;rintro e w1 ⟨rfl,rfl⟩;go_wp2_with fail
       refine ah.out.mono ?_;rintro e w1 ⟨rfl,rfl⟩;go_wp2_with fail
       go_ret;exact⟨by rw[HE.out];rfl,aj.out⟩
      obtain rfl:k=J:=by omega
      have HE:=eu (show Sc.nA (c::t)=0 by rw[HF.out,eQ (by rw[hok,hbr];simp)]);clear h1 h2 h3 ae hz hZ hbl hbr hok hrun af x1 x2;go_wp2_with fail
      refine ag.out.mono ?_;rintro e w1 ⟨rfl,rfl⟩;go_wp2_with fail
      refine ah.out.mono ?_;rintro e w1 ⟨rfl,rfl⟩;go_wp2_with fail
      go_ret;exact⟨by rw[HE.out];rfl,aj.out⟩
     have y1:((x:Int)==35)=false:=by simp;omega
     have HE:=eu (show Sc.nA (c::t)=0 by rw[HF.out,eQ (by rw[hok,hbr];simp[x1])]);clear h1 h2 h3 ae hz hZ hbl hbr hok hrun af x1;go_wp2_with fail
     refine ag.out.mono ?_;rintro e w1 ⟨rfl,rfl⟩;go_wp2_with fail
     refine ah.out.mono ?_;rintro e w1 ⟨rfl,rfl⟩;go_wp2_with fail
     go_ret;exact⟨by rw[HE.out];rfl,aj.out⟩
end
end Go.Proofs.YtfbiffdmhcjhbaaGreat

import Derived.Test.YtmkkdjpebbdikaaGreatDoorZb02
import Derived.Test.YtmkkdjpebbdikaaGreatDoorZb04
import Derived.BigQuiet
import Derived.Deep.DeepMust
import Derived.Deep.LoopGhost
import Derived.Laws.IdiomStrings
import Derived.Lib.Hide
import Derived.Lib.OthersKept
import Derived.LoopN
import Derived.LoopTactic
import Derived.Maps.AppendAt
import Derived.Outline
import Derived.OwnWalk
import Derived.Test.YtmkkdjpebbdikaaGreatDoorChecked
import Derived.WalkLawsBesides
import Derived.WalkSmall
import Derived.WalkSpells
set_option linter.all false
set_option maxHeartbeats 16000000
set_option maxRecDepth 100000
namespace Go.Proofs.YtmkkdjpebbdikaaGreatDoor
open Go.RowKit Tryz
def AL:=@World.iter_heap
def fD:=@Below.refl
def Gs:=@Lib.run_next_any_at
def tJ:=@Lib.below_iterAt
def Gt:=@Lib.run_next_ascii_at
def yI:=@Lib.iterAt_heap
def Dv:=@Lib.run_next_end_at
def akw:=@ByteArray.toList_eq
section
open Go.RowKit
open Sg
theorem addr_add(b off j:Nat):(⟨b,off,none⟩:Addr).add j=⟨b,off+j,none⟩:=by
 unfold Addr.add;split
 ·rename_i h;subst h;rfl
 ·rfl
theorem Fx(b off cap:Nat)(s:ByteArray)(w:World)(hp:∀j,j<s.size->w.cell? ⟨b,off+j,none⟩=some (.int .u8 (s.get! j).toNat)):
 (convert 23 9 (.slice (some ⟨b,off,none⟩) s.size cap)).run prog w=.ok (.string s) w:=by
 have h:=run_convert_bytes_back (P:=prog) w 23 9 5 ⟨b,off,none⟩ cap s.data.toList underlying23 underlying5 underlying9 (λj hj=>by
  have hj':j<s.size:=by rw[vL];exact hj
  have e:=hp j hj';have e2:s.data.toList[j]=s.get! j:=by
   rw[<-AJ];rw[xC,fu hj];rfl
  rw[e2];rw[addr_add]
  exact e)
 rw[<-vL]at h
 simpa using h
theorem MB(w:World)(c:Nat):(convert 23 9 (.slice none 0 c)).run prog w=.ok (.string ⟨#[]⟩) w:=by
 rw[run_convert_bytes_string w 23 9 5 none 0 c underlying23 underlying5 underlying9];simp[Conv.bytesToString];rfl
theorem Au{w:World}{B e size n k pos:Nat}{v:Value}{xs:List Value}{s:ByteArray}(h:w.ownsRow B e size v n xs)(hk:w.heap[k]?=some (.stringIter s pos)):v.ownBlock≠some k:=λe=>by
 rcases h.2 with⟨h1,_⟩|⟨g,cap,cur,h1,_,h3,_⟩
 ·rw[h1]at e;cases e
 ·rw[h1]at e;obtain rfl:g=k:=iG e;rw[h3]at hk;cases hk
theorem own_iterAt{w:World}{B e size n k pos:Nat}{v:Value}{xs:List Value}{s:ByteArray}(h:w.ownsRow B e size v n xs)(hk:w.heap[k]?=some (.stringIter s pos))(pos':Nat):(w.iterAt k s pos').ownsRow B e size v n xs:=
 h.kept (row:=some k) ⟨rfl,rfl,rfl,ahT (Lib.iterAt_size w k s pos').symm,λj _ hj=>Lib.iterAt_other w k j s pos' (λe=>hj (by rw[e]))⟩ (.inr (Au h hk))
theorem own_ne_iter{w:World}{B e size n k pos:Nat}{v:Value}{xs:List Value}{s:ByteArray}(h:w.ownsRow B e size v n xs)(hk:w.heap[k]?=some (.stringIter s pos)):some k≠v.ownBlock:=λe=>Au h hk e.symm
theorem eZ{w w':World}{B e size n:Nat}{v:Value}{xs:List Value}(h:w.ownsRow B e size v n xs)(hb:Below w.heap.size w w'):w'.ownsRow B e size v n xs:=Y8
def places(l:List Nat):List Value:=l.map fun(p:Nat)=>Value.int .i64 (p:Int)
theorem Cj(l:List Nat)(p:Nat):places (l++[p])=places l++[.int .i64 (p:Int)]:=by simp[places]
theorem TZ:(prog.info? 3).map (λi=>(i.zero,i.size,i.bytes))=some (some (.int .i64 0),1,8):=dV
end
namespace Qo
open Es
open Go.Lib Go.RowKit
def vQ:List UInt8->List UInt8×Bool
 |[]=>([],false)
 |[c]=>if c=39 then([],true)else([c],false)
 |c::d::r=>if c=39 then(if d=39 then(39::(vQ r).1,(vQ r).2)else([],true))else(c::(vQ (d::r)).1,(vQ (d::r)).2)
theorem aiT(c:UInt8)(r:List UInt8)(h:c≠39):vQ (c::r)=(c::(vQ r).1,(vQ r).2):=by
 cases r with
 |nil=>simp[vQ,h]
 |cons d t=>rw[vQ,dW h]
theorem afh(r:List UInt8):vQ (39::39::r)=(39::(vQ r).1,(vQ r).2):=by rw[vQ,dX rfl,dX rfl]
theorem afi(d:UInt8)(r:List UInt8)(h:d≠39):vQ (39::d::r)=([],true):=by rw[vQ,dX rfl,dW h]
def Dk:Nat->Nat->List UInt8->List UInt8×List Nat×Bool
 |0,_,_=>([],[],false)
 |_+1,_,[]=>([],[],false)
 |f+1,p,c::r=>
  if c=34 then([],[],true)
  else if c=92 then(match esc (c::r)with
   |some (v,k)=>((Utf8.encode v).data.toList++(Dk f (p+k) ((c::r).drop k)).1,(Dk f (p+k) ((c::r).drop k)).2)
   |none=>(c::(Dk f (p+1) r).1,p::(Dk f (p+1) r).2.1,(Dk f (p+1) r).2.2))
  else(c::(Dk f (p+1) r).1,(Dk f (p+1) r).2)
theorem zK{l:List UInt8}{v:Int}{k:Nat}(h:esc l=some (v,k)):2<=k/\k<=l.length:=by
 match l with
 |[]=>cases h
 |[_]=>cases h
 |a::c::rest=>
  by_cases ha:a.toNat=92
  ·cases hs:qX c.toNat with
   |some u=>
    rw[Fv ha hs]at h;injection h with h;injection h with h1 h2;subst h2;simp
   |none=>
    by_cases hd:kK c.toNat=0\/rest.length<kK c.toNat
    ·rw[uB ha hs hd]at h;cases h
    ·cases hn:sign (rest.take (kK c.toNat))with
     |none=>rw[TR ha hs dS dS hn]at h;cases h
     |some u=>
      rw[zW ha hs dS dS hn]at h;injection h with h;injection h with h1 h2;subst h2;simp;omega
  ·rw[G6 ha]at h;cases h
theorem EE:∀(f g p:Nat)(l:List UInt8),l.length<=f->l.length<=g->Dk f p l=Dk g p l
 |0,g,p,l,h,_=>by
  obtain rfl:l=[]:=l9 dS;cases g<;>rfl
 |f+1,0,p,l,_,h=>by
  obtain rfl:l=[]:=l9 dS;rfl
 |f+1,g+1,p,[],_,_=>rfl
 |f+1,g+1,p,c::r,hf,hg=>by
  have h1:=EE f g (p+1) r (by simp at hf;omega) (by simp at hg;omega);rw[Dk,Dk,h1];by_cases q:c=34
  ·rw[dX q,dX q]
  ·rw[dW q,dW q];by_cases q2:c=92
   ·rw[dX q2,dX q2];cases he:esc (c::r)with
    |none=>rfl
    |some x=>
     obtain⟨v,k⟩:=x;have:=zK he;have h2:=EE f g (p+k) ((c::r).drop k) jc jc;simp only[h2]
   ·rw[dW q2,dW q2]
def tZ(p:Nat)(l:List UInt8):List UInt8×List Nat×Bool:=Dk l.length p l
theorem afj(p:Nat):tZ p []=([],[],false):=rfl
theorem afk(p:Nat)(r:List UInt8):tZ p (34::r)=([],[],true):=by
 unfold tZ;rw[iR,Dk,dX rfl]
theorem aiU(p:Nat)(c:UInt8)(r:List UInt8)(h1:c≠34)(h2:c≠92):tZ p (c::r)=(c::(tZ (p+1) r).1,(tZ (p+1) r).2):=by
 unfold tZ;rw[iR,Dk,dW h1,dW h2]
theorem afl(p:Nat)(r:List UInt8)(v:Int)(k:Nat)(h:esc (92::r)=some (v,k)):tZ p (92::r)=((Utf8.encode v).data.toList++(tZ (p+k) ((92::r).drop k)).1,(tZ (p+k) ((92::r).drop k)).2):=by
 have hl:=zK h;have e:=EE r.length ((92::r).drop k).length (p+k) ((92::r).drop k) (by rw[ky,iR];omega) (eO _);unfold tZ;rw[iR,Dk,dW dU,dX rfl,h];simp only[e]
theorem afm(p:Nat)(r:List UInt8)(h:esc (92::r)=none):tZ p (92::r)=(92::(tZ (p+1) r).1,p::(tZ (p+1) r).2.1,(tZ (p+1) r).2.2):=by
 unfold tZ;rw[iR,Dk,dW dU,dX rfl,h]
def mI(kind:Int)(l:List UInt8):List UInt8×List Nat×Bool:=
 if l=[]then([],[],false)
 else if kind=15 then(l,[],true)
 else if kind=16 then((vQ (l.drop 1)).1,[],(vQ (l.drop 1)).2)
 else if kind=17 then tZ 1 (l.drop 1)
 else([],[],false)
theorem Tx(c:UInt8)(n:Nat)(h:c.toNat=n):c=UInt8.ofNat n:=by
 subst h;exact UInt8.ofNat_toNat.symm
end Qo
namespace Sc
open Sg
theorem Vy(op:Nat)(least:Int)(l:List Nat)(h:isText least (iV l)=true):step (fresh op least) l=(19,jg l+lI (l.drop (jg l)),fresh op least):=by
 unfold step;rw[dX (show(fresh op least).eT=0 from rfl),dX (show isText (fresh op least).least (iV l)=true from h)];rfl
theorem wS(s:St)(l:List Nat)(h:s.eT=0->s.least=-1):step s l=mid s l:=by
 unfold step;by_cases hc:s.eT=0
 ·have hl:=h hc;rw[dX hc,dW (by rw[hl];simp[isText])];congr 1;cases s;simp only at hl;rw[hl]
 ·rw[dW hc]
theorem RH(op:Nat)(least:Int)(l:List Nat)(h:isText least (iV l)=false):step (fresh op least) l=step (fresh op (-1)) l:=by
 rw[wS (fresh op (-1)) l (λ_=>rfl)];unfold step;rw[dX (show(fresh op least).eT=0 from rfl),dW (by rw[show(fresh op least).least=least from rfl,h];simp)];rfl
theorem N7(op:Nat)(least:Int)(p:Nat)(l:List Nat)(h:isText least (iV l)=false):lY (fresh op least) p l=lY (fresh op (-1)) p l:=by
 cases l with
 |nil=>rfl
 |cons c r=>rw[lF (fresh op least) p (c::r) eG,lF (fresh op (-1)) p (c::r) eG,RH op least _ h]
theorem Q7(s:St)(l:List Nat)(h:jg l≠0):mid s l=((next s.op s.dash s.blank (s.eT==0) (iV l)).1,(next s.op s.dash s.blank (s.eT==0) (iV l)).2,take s (next s.op s.dash s.blank (s.eT==0) (iV l)).1 (next s.op s.dash s.blank (s.eT==0) (iV l)).2):=by
 unfold mid;rw[dW h]
theorem mid_end(s:St)(l:List Nat)(h:jg l=0):mid s l=(1,lI l,fresh s.op s.least):=by
 unfold mid;rw[dX h]
theorem EG(op k:Nat):opens op k<=op+1:=by
 unfold opens;(repeat' split)<;>omega
structure dR(L:List Nat)(Tot l:List (Nat×Nat×Nat))(st:St)(at':Nat):Prop where
 tot:l++lY st at' (L.drop at')=Tot
 zero:st.eT=0->st.least=-1
 op:st.op<=at'
 base:-1<=st.base/\st.base<=at'
 least:-1<=st.least
 len:l.length<=at'
 eT:st.eT<=at'
 last:st.eT≠0->∃l0 x,l=l0++[x]/\st.blank=(x.1==2||x.1==3)
structure wu(L:List Nat)(Tot l:List (Nat×Nat×Nat))(op:Nat)(least:Int)(p:Nat):Prop where
 tot:l++lY (fresh op least) p (L.drop p)=Tot
 op:op<=p
 least:-1<=least
 len:l.length<=p
theorem wu.text{L:List Nat}{aa l:List (Nat×Nat×Nat)}{op:Nat}{least:Int}{p n:Nat}(h:wu L aa l op least p)(hp:p<L.length)(ht:isText least (iV (L.drop p))=true)(hn:jg (L.drop p)+lI ((L.drop p).drop (jg (L.drop p)))=n):
 wu L aa (l++[(19,p,p+n)]) op least (p+n)/\0<n/\p+n<=L.length:=by
 have hne:L.drop p≠[]:=λe=>by have:=congrArg List.length e;rw[ky]at this;simp at this;omega
 have hs:=Vy op least (L.drop p) ht;rw[hn]at hs;have hp2:=step_pos (fresh op least) (L.drop p) hne;rw[hs,ky]at hp2;obtain⟨q1,q2⟩:0<n/\n<=L.length-p:=hp2
 have h1:=h.op;have h2:=h.len;refine⟨⟨?_,dS,h.least,eQ⟩,q1,dS⟩;rw[pI,ahR,<-h.tot,lF _ _ _ hne,hs,nP]
theorem wu.row{L:List Nat}{aa l:List (Nat×Nat×Nat)}{op:Nat}{least:Int}{p:Nat}(h:wu L aa l op least p)(ht:isText least (iV (L.drop p))=false):dR L aa l (fresh op (-1)) p:=
 ⟨by rw[<-h.tot,N7 op least p _ ht],λ_=>rfl,h.op,⟨jk _,by show(-1:Int)<=(p:Int);omega⟩,jk _,h.len,fP _,λhc=>absurd rfl hc⟩
theorem dR.on{L:List Nat}{aa l:List (Nat×Nat×Nat)}{st:St}{at' k n:Nat}(h:dR L aa l st at')(hr:jg (L.drop at')≠0)(hn:next st.op st.dash st.blank (st.eT==0) (iV (L.drop at'))=(k,n)):
 dR L aa (l++[(k,at',at'+n)]) (take st k n) (at'+n)/\0<n/\n<=jg (L.drop at'):=by
 have hne:L.drop at'≠[]:=λe=>by rw[e]at hr;exact hr rfl
 have hs:=wS st (L.drop at') h.zero;rw[Q7 st _ hr,hn]at hs;have hle:0<n/\n<=jg (L.drop at'):=by
  have hl:=ru (L.drop at');cases hrl:iV (L.drop at')with
  |nil=>rw[hrl]at hl;exact absurd hl.symm hr
  |cons c r=>
   rw[hrl]at hn hl;have:=zH st.op st.dash st.blank (st.eT==0) c r;rw[hn,hl]at this;exact this
 have h1:=h.op;have h2:=h.len;have h3:=EG st.op k;have h4:=h.base;have h5:=h.least;have h6:=h.eT;refine⟨⟨?_,λhc=>?_,?_,?_,?_,eQ,?_,λ_=>⟨l,_,rfl,rfl⟩⟩,hle⟩
 ·rw[pI,ahR,<-h.tot,lF _ _ _ hne,hs,nP]
 ·have:st.eT+n=0:=hc;omega
 ·show opens st.op k<=at'+n;omega
 ·show -1<=(if st.base=-1/\counts k=true then(st.eT:Int)else st.base)/\(if st.base=-1/\counts k=true then(st.eT:Int)else st.base)<=((at'+n:Nat):Int);split<;>omega
 ·show -1<=(if k=18 then(if st.base=-1 then(st.eT:Int)else st.base+1)else st.least)
  (repeat' split)<;>omega
 ·show st.eT+n<=at'+n;omega
theorem dR.brk{L:List Nat}{aa l:List (Nat×Nat×Nat)}{st:St}{at':Nat}(h:dR L aa l st at')(hr:jg (L.drop at')=0)(hb:0<lI (L.drop at')):
 wu L aa (l++[(1,at',at'+lI (L.drop at'))]) st.op st.least (at'+lI (L.drop at'))/\at'+lI (L.drop at')<=L.length:=by
 have hne:L.drop at'≠[]:=λe=>by rw[e]at hb;exact absurd hb dU
 have hs:=wS st (L.drop at') h.zero;rw[mid_end st _ hr]at hs;have h1:=h.op;have h2:=h.len;have h3:=CP (L.drop at');rw[ky]at h3;refine⟨⟨?_,dS,h.least,eQ⟩,dS⟩;rw[pI,ahR,<-h.tot,lF _ _ _ hne,hs,nP]
theorem dR.stop{L:List Nat}{aa l:List (Nat×Nat×Nat)}{st:St}{at':Nat}(h:dR L aa l st at')(hr:jg (L.drop at')=0)(hb:¬0<lI (L.drop at')):L.drop at'=[]/\wu L aa l st.op st.least at':=by
 have hne:L.drop at'=[]:=by
  cases hl:L.drop at' with
  |nil=>rfl
  |cons c r=>rw[hl]at hr hb;exact absurd (EC (c::r) eG hr) hb
 refine⟨hne,⟨?_,h.op,h.least,h.len⟩⟩;have:=h.tot;rw[hne]at this⊢;exact this
end Sc
namespace Rw
open Sc (lY fresh jg iV)
theorem Vz(l:List Tk):blanks l<=l.length:=by
 induction l with
 |nil=>exact eO _
 |cons x r ih=>rw[blanks];split<;>simp<;>omega
theorem Bz(l:List Tk)(k:Nat)(h:jS l=k)(hk:k≠0):l≠[]:=λe=>by rw[e]at h;exact hk h.symm
def Ord:Nat->Int->List E->Prop
 |_,_,[]=>True
 |p,c,e::r=>p<=e.from'/\e.from'<e.bu/\c<e.eT/\(e.dash=true\/r=[])/\Ord e.bu e.eT r
def Ls(ts:List Tk)(i:Nat):Int:=(wK ts i:Int)-(B6 ts:Int)
theorem vv(ts:List Tk)(i:Nat)(x:Tk)(h:ts[i]?=some x):wK ts i=x.2.1:=by
 have hi:=(eY.1 h).1;have e:ts[i]=x:=(eY.1 h).2;unfold wK;rw[xz hi,e];rfl
theorem aa2{p:Nat}{ts:List Tk}(h:jO p ts)(i j:Nat)(hij:i<j)(hj:j<ts.length):Ls ts i<Ls ts j:=by
 have hx:=fu (show i<ts.length by omega);have hy:=fu hj;unfold Ls;rw[vv ts i _ hx,vv ts j _ hy];have h1:=h.lt i j _ _ hij hx hy;have h2:=(h.le i _ hx).2;omega
theorem afn{p:Nat}{ts:List Tk}(h:jO p ts)(i:Nat)(hi:i<ts.length):-1<Ls ts i:=by
 rcases rP i with rfl|hp
 ·unfold Ls wK;rw[lM];omega
 ·have:=aa2 h 0 i hp hi;have e:Ls ts 0=0:=by unfold Ls wK;rw[lM];omega
  omega
def yz(at':Nat)(ts:List Tk)(i:Nat):E:=⟨true,Ls ts i,at'+i,at'+i+1⟩
theorem MC{q:Nat}{ts:List Tk}(ht:jO q ts)(at':Nat)(tail:List E):∀(f p:Nat)(a:Nat)(c:Int),a<=at'+p->(p<ts.length->c<Ls ts p)->
 (∀(a:Nat)(c:Int),a<=at'+(p+kV f (ts.drop p))->(p+kV f (ts.drop p)<ts.length->c<Ls ts (p+kV f (ts.drop p)))->Ord a c tail)->
 Ord a c ((lU f (ts.drop p)).map (λi=>yz at' ts (p+i))++tail)
 |0,p,a,c=>λh1 h2 h3=>by
  rw[lU,O0,XP];exact h3 a c (by rw[kV];exact h1) (by rw[kV];exact h2)
 |f+1,p,a,c=>λh1 h2 h3=>by
  rw[lU];rw[kV]at h3;by_cases hk:jS (ts.drop p)=5
  ·rw[dX hk]at h3⊢;have hp:p<ts.length:=Zh
   obtain⟨n,hn⟩:=eu (blanks ((ts.drop p).drop 1)+1);have hn1:1<=n:=dS
   rw[hn]at h3⊢;rw[yG,Dm,oW,XO];have e1:(ts.drop p).drop n=ts.drop (p+n):=by rw[nP]
   rw[e1]at h3⊢;have e2:((λi=>yz at' ts (p+i))∘λx=>x+n)=λi=>yz at' ts (p+n+i):=by
    funext i;show yz at' ts (p+(i+n))=_;rw[show p+(i+n)=p+n+i by omega]
   rw[e2];refine⟨h1,by show at'+p<at'+p+1;omega,h2 hp,.inl rfl,MC ht at' tail f (p+n) _ _ (by show at'+p+1<=_;omega) (λhlt=>aa2 ht p (p+n) dS hlt) ?_⟩;intro a2 c2 g1 g2;rw[show p+n+kV f (ts.drop (p+n))=p+(kV f (ts.drop (p+n))+n)by omega]at g1 g2;exact h3 a2 c2 g1 g2
  ·rw[dW hk]at h3⊢;rw[O0,XP];exact h3 a c h1 h2
theorem T3(ts:List Tk):∀(f p:Nat),∀i∈lU f (ts.drop p),p+i<ts.length
 |0,_=>λi hi=>by cases hi
 |f+1,p=>λi hi=>by
  rw[lU]at hi;by_cases hk:jS (ts.drop p)=5
  ·rw[dX hk]at hi;have hp:p<ts.length:=Zh
   rcases kY.1 hi with rfl|hi
   ·omega
   ·obtain⟨j,hj,rfl⟩:=tC.1 hi;rw[nP]at hj;have:=T3 ts f _ j hj;omega
  ·rw[dW hk]at hi;cases hi
theorem qW(l:List Tk)(n:Nat)(h:pO l=some n):1<=n/\n<=l.length/\l≠[]:=by
 unfold pO at h;by_cases hk:jS (l.drop (sQ l))=6
 ·rw[dX hk]at h;injection h with h
  have hne:=Bz _ 6 hk dU;have hlt:sQ l<l.length:=by
   rcases mD (sQ l) l.length with g|g
   ·exact g
   ·exact absurd (oG g) hne
  refine⟨dS,dS,λe=>by rw[e]at hlt;exact absurd hlt (pK _)⟩
 ·rw[dW hk]at h;cases h
theorem KA(l:List Tk):gJ l<=l.length:=by
 induction l with
 |nil=>exact eO _
 |cons x r ih=>rw[gJ];split<;>simp<;>omega
def vO(ts:List Tk):Nat:=gJ ts+kV (ts.drop (gJ ts)).length (ts.drop (gJ ts))
def IZ(at':Nat)(ts:List Tk):List E:=match pO (ts.drop (vO ts))with
 |some n=>[⟨false,Ls ts (vO ts),at'+vO ts,at'+vO ts+n⟩]
 |none=>[]
theorem pG(at':Nat)(ts:List Tk):mG at' ts=(lU (ts.drop (gJ ts)).length (ts.drop (gJ ts))).map (λi=>yz at' ts (gJ ts+i))++IZ at' ts:=by
 unfold mG IZ;congr 1
 ·refine aet λi _=>?_
  unfold yz Ls;congr 1<;>omega
 ·show(match pO (ts.drop (vO ts))with|some n=>_|none=>_)=_;cases pO (ts.drop (vO ts))with
  |none=>rfl
  |some n=>
   dsimp only;congr 2
   ·unfold vO;omega
   ·unfold vO;omega
theorem ME{q:Nat}{ts:List Tk}(ht:jO q ts)(at':Nat):Ord at' (-1) (mG at' ts):=by
 rw[pG];refine MC ht at' (IZ at' ts) _ (gJ ts) at' (-1) dS (λh=>afn ht _ h) ?_;intro a c h1 h2
 change a<=at'+vO ts at h1
 change vO ts<ts.length->c<Ls ts (vO ts)at h2
 unfold IZ;cases hk:pO (ts.drop (vO ts))with
 |none=>trivial
 |some n=>
  obtain⟨k1,k2,k3⟩:=qW _ n hk;have hq:vO ts<ts.length:=Zo
  exact⟨h1,by show at'+vO ts<at'+vO ts+n;omega,h2 hq,.inr rfl,trivial⟩
theorem afo(at':Nat)(ts:List Tk):∀e∈mG at' ts,e.bu<=at'+ts.length:=by
 rw[pG];intro e he;rcases kC.1 he with he|he
 ·obtain⟨i,hi,rfl⟩:=tC.1 he;have:=T3 ts _ _ i hi;show at'+(gJ ts+i)+1<=_;omega
 ·unfold IZ at he;cases hk:pO (ts.drop (vO ts))with
  |none=>rw[hk]at he;cases he
  |some n=>
   rw[hk]at he;obtain rfl:=tF.1 he;obtain⟨k1,k2,k3⟩:=qW _ n hk;have hq:vO ts<ts.length:=Zo
   rw[ky]at k2;show at'+vO ts+n<=_;omega
theorem KC(at':Nat)(ts:List Tk):(mG at' ts=[]->rW at' ts=at'+gJ ts)/\(∀e,(mG at' ts).getLast?=some e->rW at' ts=e.bu)/\rW at' ts<=at'+ts.length:=by
 have hl:=KA ts;refine⟨λh=>by unfold rW;rw[h];rfl,λe h=>by unfold rW;rw[h],?_⟩;unfold rW;cases h:(mG at' ts).getLast? with
 |none=>show at'+gJ ts<=_;omega
 |some e=>exact afo at' ts e (LF h)
end Rw
namespace Rw
theorem VA(l:List Tk)(op fr:Nat)(h:fr<l.length):jq op fr (l.drop fr)=
 ⟨kindOf (decide (0<op)) ((l.drop fr).take (jm (l.drop fr))),fr,fr+jm (l.drop fr),vH ((l.drop fr).take (jm (l.drop fr)))⟩::jq (mZ op ((l.drop fr).take (jm (l.drop fr)))) (fr+jm (l.drop fr)) (l.drop (fr+jm (l.drop fr))):=by
 rw[nO op fr (l.drop fr) (by intro e;have:=congrArg List.length e;rw[ky]at this;simp at this;omega),nP]
theorem VB(l:List Tk)(op fr:Nat)(h:l.length<=fr):jq op fr (l.drop fr)=[]:=by
 rw[oG h];rfl
theorem afp(l:List Tk)(n:Nat)(h:∀j x,j<n->l[j]?=some x->Sc.counts x.1=false)(hn:n=l.length\/∃x,l[n]?=some x/\Sc.counts x.1=true):gJ l=n:=by
 induction l generalizing n with
 |nil=>
  rcases hn with h1|⟨x,h1,_⟩
  ·exact h1.symm
  ·simp at h1
 |cons y r ih=>
  rw[gJ];cases n with
  |zero=>
   rcases hn with h1|⟨x,h1,h2⟩
   ·simp at h1
   ·obtain rfl:y=x:=by simpa using h1
    rw[dX h2]
  |succ n=>
   rw[dW (by rw[h 0 y dS rfl];decide),ih n (λj x hj hx=>h (j+1) x dS jJ) (by
    rcases hn with h1|⟨x,h1,h2⟩
    ·left;rw[iR]at h1;omega
    ·right;exact⟨x,by simpa using h1,h2⟩)]
theorem G7:∀(f g:Nat)(l:List Tk),l.length<=f->l.length<=g->lU f l=lU g l/\kV f l=kV g l
 |0,g,l=>λh _=>by
  obtain rfl:l=[]:=l9 dS;cases g with
  |zero=>exact⟨rfl,rfl⟩
  |succ g=>rw[lU,lU,kV,kV];exact⟨JH,JH⟩
 |f+1,0,l=>λ_ h=>by
  obtain rfl:l=[]:=l9 dS;rw[lU,lU,kV,kV];exact⟨JH,JH⟩
 |f+1,g+1,l=>λh1 h2=>by
  rw[lU,lU,kV,kV];by_cases hk:jS l=5
  ·rw[dX hk,dX hk,dX hk,dX hk];have ih:=G7 f g (l.drop (blanks (l.drop 1)+1)) jc jc;rw[ih.1,ih.2];exact⟨rfl,rfl⟩
  ·rw[dW hk,dW hk,dW hk,dW hk];exact⟨rfl,rfl⟩
theorem G8:∀(f g:Nat)(l:List Tk),l.length<=f->l.length<=g->nV f l=nV g l
 |0,g,l=>λh _=>by
  obtain rfl:l=[]:=l9 dS;cases g with
  |zero=>rfl
  |succ g=>rw[nV,nV,dW dU]
 |f+1,0,l=>λ_ h=>by
  obtain rfl:l=[]:=l9 dS;rw[nV,nV,dW dU]
 |f+1,g+1,l=>λh1 h2=>by
  rw[nV,nV];by_cases hk:isProp (jS l)=true
  ·rw[dX hk,dX hk,G8 f g _ jc jc]
  ·rw[dW hk,dW hk]
theorem VD(l:List Tk)(h:jS l=5):lU l.length l=0::(lU (l.drop (blanks (l.drop 1)+1)).length (l.drop (blanks (l.drop 1)+1))).map (·+(blanks (l.drop 1)+1))/\kV l.length l=kV (l.drop (blanks (l.drop 1)+1)).length (l.drop (blanks (l.drop 1)+1))+(blanks (l.drop 1)+1):=by
 have hne:=Bz l 5 h dU;cases hl:l.length with
 |zero=>exact absurd (l9 hl) hne
 |succ f=>
  rw[lU,kV,dX h,dX h];have:=G7 f (l.drop (blanks (l.drop 1)+1)).length (l.drop (blanks (l.drop 1)+1)) jc (eO _);rw[this.1,this.2];exact⟨rfl,rfl⟩
theorem VE(l:List Tk)(h:jS l≠5):lU l.length l=[]/\kV l.length l=0:=by
 cases hl:l.length with
 |zero=>exact⟨rfl,rfl⟩
 |succ f=>rw[lU,kV,dW h,dW h];exact⟨rfl,rfl⟩
theorem VF(l:List Tk)(h:isProp (jS l)=true):nV l.length l=nV (l.drop (blanks (l.drop 1)+1)).length (l.drop (blanks (l.drop 1)+1))+(blanks (l.drop 1)+1):=by
 have hne:l≠[]:=λe=>by rw[e]at h;exact absurd h dU
 cases hl:l.length with
 |zero=>exact absurd (l9 hl) hne
 |succ f=>rw[nV,dX h,G8 f (l.drop (blanks (l.drop 1)+1)).length _ jc (eO _)]
theorem VG(l:List Tk)(h:isProp (jS l)=false):nV l.length l=0:=by
 cases hl:l.length with
 |zero=>rfl
 |succ f=>rw[nV,dW (by rw[h];decide)]
end Rw
section
open Go.RowKit
open Es
def Vi:Option Int->Value
 |some v=>.tuple #[.int .i32 v,.bool true]
 |none=>.tuple #[.int .i32 0,.bool false]
theorem G9(c:Int)(w:World)(h0:0<=c)(h1:c<256):
 Calls prog 136 #[.int .u8 c] w λe w'=>e=.returned (Vi (qX c))/\w=w':=by
 go_enter func136,ntmps136
 go_wp2;all_goals
  go_ret2;refine⟨?_,rfl⟩;simp only[uJ,jE,ne_eq]at*;simp[qX,Vi, *]
theorem RI(c v:Int)(w:World)(h0:0<=c)(h1:c<256)(h:qX c=some v):
 Calls prog 136 #[.int .u8 c] w λe w'=>e=.returned (.tuple #[.int .i32 v,.bool true])/\w=w':=by
 have:=G9 c w h0 h1;rw[h]at this;exact this
theorem Fg(c:Int)(w:World)(h0:0<=c)(h1:c<256)(h:qX c=none):
 Calls prog 136 #[.int .u8 c] w λe w'=>e=.returned (.tuple #[.int .i32 0,.bool false])/\w=w':=by
 have:=G9 c w h0 h1;rw[h]at this;exact this
theorem RJ(c:Int)(w:World):
 Calls prog 137 #[.int .u8 c] w λe w'=>e=.returned (.int .i64 (kK c))/\w=w':=by
 go_enter func137,ntmps137
 go_wp2;all_goals
  go_ret;refine⟨?_,rfl⟩;simp only[uJ,jE,ne_eq]at*;simp[kK, *]
theorem Ha(c:Int)(w:World)(h0:0<=c)(h1:c<=2147483647):
 Calls prog 160 #[.int .i32 c] w λe w'=>e=.returned (Vi (Du c))/\w=w':=by
 go_enter func160,ntmps160
 go_wp2;all_goals
  go_ret2;refine⟨?_,rfl⟩;simp only[Du]
  (repeat' split)<;>first|rfl|(simp[Vi];omega)|omega
theorem Fy(c d:Int)(w:World)(h0:0<=c)(h1:c<=2147483647)(h:Du c=some d):
 Calls prog 160 #[.int .i32 c] w λe w'=>e=.returned (.tuple #[.int .i32 d,.bool true])/\w=w':=by
 have:=Ha c w h0 h1;rw[h]at this;exact this
theorem RN(c:Int)(w:World)(h0:0<=c)(h1:c<=2147483647)(h:Du c=none):
 Calls prog 160 #[.int .i32 c] w λe w'=>e=.returned (.tuple #[.int .i32 0,.bool false])/\w=w':=by
 have:=Ha c w h0 h1;rw[h]at this;exact this
theorem BK(c:Int)(w:World)(h1:c<=2147483647):
 Calls prog 145 #[.int .i32 c] w λe w'=>e=.returned (.bool (Utf8.valid c))/\w=w':=by
 go_enter func145,ntmps145
 go_wp2;all_goals
  go_ret;refine⟨?_,rfl⟩;simp[Utf8.valid];omega
theorem VH(c:Int)(w:World)(h1:c<=2147483647)(h:Utf8.valid c=true):
 Calls prog 145 #[.int .i32 c] w λe w'=>e=.returned (.bool true)/\w=w':=by
 have:=BK c w h1;rw[h]at this;exact this
theorem ab5(c:Int)(w:World)(h1:c<=2147483647)(h:Utf8.valid c=false):
 Calls prog 145 #[.int .i32 c] w λe w'=>e=.returned (.bool false)/\w=w':=by
 have:=BK c w h1;rw[h]at this;exact this
end
section
open Go.RowKit
open Es
theorem drop_at(t:ByteArray)(p:Nat)(h:p<t.size):t.data.toList.drop p=t[p]::t.data.toList.drop (p+1):=by
 have hl:p<t.data.toList.length:=Je
 rw[xz hl];rfl
theorem ab6(t:ByteArray)(p:Nat)(h:t.size<=p):t.data.toList.drop p=[]:=oG Je
def Q8(r v:Int):Prop:=(r=v/\v<2147483648)\/(r<0/\2147483648<=v)
theorem N8{l:List UInt8}{v:Int}(h:num l 0=some v):sign l=if Utf8.valid v then some v else none:=by rw[sign,h]
theorem KZ{l:List UInt8}(h:num l 0=none):sign l=none:=by rw[sign,h]
theorem K4{r v:Int}(h:Q8 r v):Utf8.valid r=Utf8.valid v:=by
 rcases h with⟨rfl,_⟩|⟨h1,h2⟩
 ·rfl
 ·have a:Utf8.valid r=false:=by simp[Utf8.valid];omega
  have b:Utf8.valid v=false:=by simp[Utf8.valid];omega
  rw[a,b]
theorem VI(v:Int)(pos:Nat)(hp:pos<=7)(h:v<16^pos):v<268435456:=by
 have h2:(16:Int)^pos<=16^7:=by
  have:=Nat.pow_le_pow_right (n:=16) dU hp
  exact_mod_cast this
 omega
theorem ab7(v d:Int)(pos:Nat)(hd:d<=15)(h:v<16^pos):16*v+d<16^(pos+1):=by
 rw[Int.pow_succ];omega
theorem VJ{r v:Int}(h:Q8 r v):r<=2147483647:=by
 rcases h with⟨rfl,_⟩|⟨h1,h2⟩<;>omega
theorem ze(t:ByteArray)(w:World)(ht:t.size<=8):
 Calls prog 138 #[.string t] w λe w'=>e=.returned (Vi (sign t.data.toList))/\Below w.heap.size w w':=by
 go_enter func138,ntmps138
 go_wp2
 go_loopg [4] t.size (λgf r wr=>∃(pos:Nat)(x v:Int),r=.int .i32 x/\wr.heap[w.heap.size]?=some (.stringIter t pos)/\Below w.heap.size w wr/\num t.data.toList 0=num (t.data.toList.drop pos) v/\pos<=t.size/\t.size<=pos+gf/\0<=v/\v<16^pos/\Q8 x v)
 case atStart=>exact⟨0,0,0,rfl,AL w t 0,(fD _ w).alloc (eO _) _,rfl,fP _,dS,dS,dU,.inl ⟨rfl,dU⟩⟩
 case round=>
  obtain⟨pos,x,v,rfl,hit,hbw,hn,hp,hf,hv0,hv1,hst⟩:=hrel;by_cases hlt:pos<t.size
  ·obtain⟨g',rfl⟩:∃g',gk=g'+1:=⟨gk-1,dS⟩
   have hv2:=VI v pos dS hv1;obtain⟨rfl,_⟩:x=v/\v<2147483648:=by rcases hst with h|h<;>omega
   rw[drop_at t pos hlt]at hn;cases hx:Du (t[pos]).toNat with
   |none=>
    have hd:num t.data.toList 0=none:=by rw[hn,num,hx]
    have hR:Du (Utf8.decode t pos).1=none:=by
     by_cases ha:(t[pos]).toNat<128
     ·rw[decode_ascii t pos hlt ha];exact hx
     ·exact Vv (by have:=(decode_high t pos hlt dS).1;omega)
    have hR2:=decode_le t pos;have hnx:∀ty,(Instr.next (.pointer (some ⟨w.heap.size,0,none⟩)) true ty).run prog wr=_:=λty=>Gs wr w.heap.size t pos ty hit hlt
    have hb2:=tJ hbw (k:=w.heap.size) (eO _) t (pos+(Utf8.decode t pos).2);have HS:=dY (KZ hd);generalize (Utf8.decode t pos).1=R at*;generalize wr.iterAt w.heap.size t (pos+(Utf8.decode t pos).2)=W at*;have HR:=dY hR;clear hit hbw hn hx hd hR hst;go_wp2_with fail
    refine(RN _ _ dS dS HR.out).mono ?_;rintro e w1 ⟨rfl,rfl⟩;go_wp2;go_ret2;exact⟨nZ,hb2⟩
   |some d=>
    have aa:=afe hx;have ha:(t[pos]).toNat<128:=dS
    have hd:num t.data.toList 0=num (t.data.toList.drop (pos+1)) (16*x+d):=by rw[hn,num,hx]
    have hnx:∀ty,(Instr.next (.pointer (some ⟨w.heap.size,0,none⟩)) true ty).run prog wr=_:=λty=>Gt wr w.heap.size t pos ty hit hlt ha
    have hit2:=yI wr w.heap.size t pos (pos+1) hit;have hb2:=tJ hbw (k:=w.heap.size) (eO _) t (pos+1);have hp2:=ab7 x d pos dS hv1;generalize wr.iterAt w.heap.size t (pos+1)=W at*;generalize (t[pos]).toNat=b at*;obtain⟨HX,HD,HI⟩:=je hx hd hit2;clear hit hbw hn hx hd hst hit2;by_cases hs:x<134217728
    ·have o1:=aiR x d hv0 hs dS dS;have o2:=ab2 x hv0 hs;go_wp2_with fail
     refine(Fy _ d _ dS dS HX.out).mono ?_;rintro e w1 ⟨rfl,rfl⟩;go_wp2
     go_roundg g'
     case measure=>omega
     case rel=>exact⟨pos+1,16*x+d,16*x+d,by rw[Int.mul_comm 16 x],HI.out,hb2,HD.out,dS,dS,dS,hp2,.inl ⟨rfl,dS⟩⟩
    ·have o1:=aff x d dS hv2 dS dS;rw[show IntKind.i32.wrap (x*16)=wrap32 (x*16)from IntWalk.i32_left _]at o1;go_wp2_with fail
     refine(Fy _ d _ dS dS HX.out).mono ?_;rintro e w1 ⟨rfl,rfl⟩;go_wp2
     go_roundg g'
     case measure=>omega
     case rel=>exact⟨pos+1,_,16*x+d,rfl,HI.out,hb2,HD.out,dS,dS,dS,hp2,.inr ⟨o1,dS⟩⟩
  ·rw[ab6 t pos dS]at hn;have hnx:∀ty,(Instr.next (.pointer (some ⟨w.heap.size,0,none⟩)) true ty).run prog wr=_:=λty=>Dv wr w.heap.size t pos ty hit hlt
   have hs:=N8 hn;have hval:=K4 hst;have hle:=VJ hst;cases hb:Utf8.valid v with
   |false=>
    rw[hb]at hs hval;obtain⟨HS,HV⟩:=fw hs hval;clear hs hval hn hit hb hst;go_wp2_with fail
    refine(ab5 _ _ hle HV.out).mono ?_;rintro e w1 ⟨rfl,rfl⟩;go_wp2;go_ret2;exact⟨nZ,hbw⟩
   |true=>
    obtain rfl:x=v:=by
     rcases hst with h|h
     ·exact h.1
     ·simp[Utf8.valid]at hb;omega
    rw[hb]at hs;obtain⟨HS,HV⟩:=fw hs hb;clear hs hval hn hit hb hst;go_wp2_with fail
    refine(VH _ _ hle HV.out).mono ?_;rintro e w1 ⟨rfl,rfl⟩;go_wp2;go_ret2;exact⟨nZ,hbw⟩
end
section
open Go.RowKit
open Sg
theorem Kc(c:Nat)(w:World):
 Calls prog 82 #[.int .u8 c] w λe w'=>e=.returned (.bool (Sc.blk c))/\w=w':=by
 go_enter func82,ntmps82
 go_wp2;all_goals
  go_ret;refine⟨?_,rfl⟩;refine congrArg (λb=>Ending.returned (.bool b)) ?_;rw[qb];simp[Sc.blk]at*;try omega
theorem Yd(c:Nat)(w:World):
 Calls prog 125 #[.int .u8 c] w λe w'=>e=.returned (.bool (Sc.Jb c))/\w=w':=by
 go_enter func125,ntmps125
 go_wp2;all_goals
  go_ret;refine⟨?_,rfl⟩;refine congrArg (λb=>Ending.returned (.bool b)) ?_;rw[qb];simp[Sc.Jb]at*;try omega
theorem ag9(c:Nat)(w:World):
 Calls prog 128 #[.int .u8 c] w λe w'=>e=.returned (.bool (Sc.Mb c))/\w=w':=by
 go_enter func128,ntmps128
 go_wp2;all_goals
  go_ret;refine⟨?_,rfl⟩;refine congrArg (λb=>Ending.returned (.bool b)) ?_;rw[qb];simp[Sc.Mb]at*;try omega
theorem aa3(c:Nat)(w:World):
 Calls prog 83 #[.int .u8 c] w λe w'=>e=.returned (.bool (Sc.Bu c))/\w=w':=by
 go_enter func83,ntmps83
 go_wp2;all_goals
  go_ret;refine⟨?_,rfl⟩;refine congrArg (λb=>Ending.returned (.bool b)) ?_;rw[qb];simp[Sc.Bu]at*;try omega
theorem aa4(c:Nat)(w:World):
 Calls prog 124 #[.int .u8 c] w λe w'=>e=.returned (.bool (Sc.PH c))/\w=w':=by
 by_cases h:c=33
 ·subst h
  go_enter func124,ntmps124
  exact nH
 ·have hb:((c:Int)==33)=false:=by simp;omega
  have e:Sc.PH c=Sc.Jb c:=by simp[Sc.PH,h]
  rw[e];clear h e
  go_enter func124,ntmps124
  go_wp2_with fail
  refine(Yd c w).mono ?_;rintro e w1 ⟨rfl,rfl⟩;go_wp2;go_ret;exact⟨rfl,rfl⟩
theorem CG(s:ByteArray)(h:s.size=0):s=⟨#[]⟩:=by
 cases s with
 |mk d=>simp[ByteArray.size]at h;rw[h]
theorem TM(s:ByteArray)(h:0<s.size):s.data.toList.isEmpty=false:=by
 cases hl:s.data.toList with
 |nil=>rw[vL,hl]at h;exact absurd h dU
 |cons=>rfl
theorem afq(s:ByteArray)(h:0<s.size):Sc.part (Sc.eH s)=Sc.blk (s.get! 0).toNat:=by
 have:=Sc.drop_cons s 0 h;rw[lM]at this;rw[this];rfl
theorem xL(s:ByteArray)(w:World)(hs:s.size<=maxLen):
 Calls prog 122 #[.string s] w λe w'=>e=.returned (.bool (Sc.part (Sc.eH s)))/\w=w':=by
 unfold maxLen at hs;by_cases h:s.size=0
 ·obtain rfl:=CG s h
  go_enter func122,ntmps122
  exact nH
 ·have h0:0<s.size:=by omega
  have hP:=afq s h0;have hB:=Kc (s.get! 0).toNat w;rw[<-hP]at hB;rw[<-Sc.l7 s 0 h0]at hB;have HB:=dY hB;have hne:s≠⟨#[]⟩:=λe=>by rw[e]at h;exact h rfl
  have hb:s.toList.isEmpty=false:=by rw[akw];exact TM s h0
  clear hP hB hne
  go_enter func122,ntmps122
  go_wp2_with fail
  refine HB.out.mono ?_;rintro e w1 ⟨rfl,rfl⟩;go_wp2;go_ret;exact⟨rfl,rfl⟩
end
section
open Go.RowKit
theorem Fz(n:Int)(w:World):(convert 21 9 (.int .i32 n)).run prog w=.ok (.string (Utf8.encode n)) w:=Zx
theorem RO(c:Int)(w:World)(h1:c<=2147483647):
 Calls prog 145 #[.int .i32 c] w λe w'=>e=.returned (.bool (Utf8.valid c))/\w=w':=by
 go_enter func145,ntmps145
 go_wp2;all_goals
  go_ret;refine⟨?_,rfl⟩;simp[Utf8.valid];omega
theorem FB(c:Int)(w:World)(h1:c<=2147483647)(h:Utf8.valid c=true):
 Calls prog 145 #[.int .i32 c] w λe w'=>e=.returned (.bool true)/\w=w':=by
 have:=RO c w h1;rw[h]at this;exact this
end
section
open Go.RowKit
open Sg
theorem aiV(c:Nat)(h:128<=c):Sc.blk c=false:=by simp[Sc.blk];omega
theorem aa5(c:Nat)(h:128<=c):Sc.Jb c=false:=by
 rw[Lu];intro hh;simp[Sc.Jb]at hh;omega
theorem aiW(c:Nat)(h:128<=c):Sc.Bu c=false:=by simp[Sc.Bu];omega
theorem aiX(c:Nat)(h:128<=c):Sc.PH c=false:=by simp[Sc.PH,aa5 c h];omega
theorem ui(r:ByteArray)(w:World)(hr:r.size<=maxLen):
 Calls prog 81 #[.string r,.func (.func 82) #[] #[]] w λe w'=>e=.returned (.int .i64 (Sc.run Sc.blk (Sc.eH r)))/\Below w.heap.size w w':=by
 unfold maxLen at hr;have HR:=dY (λk h1 h2=>Sc.run_end Sc.blk (Sc.eH r) k h1 h2)
 go_enter func81,ntmps81
 go_wp2
 go_loopg [] r.size (λgf wr=>∃(pos:Nat),wr.heap[w.heap.size]?=some (.stringIter r pos)/\Below w.heap.size w wr/\Hid (∀j,j<pos->Sc.blk ((Sc.eH r).getD j 0)=true)/\pos<=r.size/\r.size<=pos+gf)
 case atStart=>exact⟨0,AL w r 0,(fD _ w).alloc (eO _) _,dY (λj h=>absurd h (pK j)),fP _,dS⟩
 case round=>
  obtain⟨pos,hit,hb,hall,hle,hf⟩:=hrel;by_cases hlt2:pos<r.size
  ·obtain⟨g',rfl⟩:∃g',gk=g'+1:=⟨gk-1,dS⟩
   have hgd:=Sc.jw r pos;have hge:=Sc.l7 r pos hlt2;cases hc:Sc.blk (r[pos]'hlt2).toNat with
   |true=>
    have ha:(r[pos]'hlt2).toNat<128:=by
     rcases mD (r[pos]'hlt2).toNat 128 with h|h
     ·exact h
     ·rw[aiV _ h]at hc;cases hc
    have hnx:∀ty,(Instr.next (.pointer (some ⟨w.heap.size,0,none⟩)) true ty).run prog wr=_:=λty=>Gt wr w.heap.size r pos ty hit hlt2 ha
    have hit2:=yI wr w.heap.size r pos (pos+1) hit;have hb2:=tJ hb (k:=w.heap.size) (eO _) r (pos+1);generalize wr.iterAt w.heap.size r (pos+1)=W at*;have hcall:=Kc (r[pos]'hlt2).toNat W;rw[hc]at hcall;have tT:∀j,j<pos+1->Sc.blk ((Sc.eH r).getD j 0)=true:=JJ
    exact JS
   |false=>
    have hnx:∀ty,(Instr.next (.pointer (some ⟨w.heap.size,0,none⟩)) true ty).run prog wr=_:=λty=>Gs wr w.heap.size r pos ty hit hlt2
    have hb2:=tJ hb (k:=w.heap.size) (eO _) r (pos+(Utf8.decode r pos).2);generalize (Utf8.decode r pos).1=R at*;generalize wr.iterAt w.heap.size r (pos+(Utf8.decode r pos).2)=W at*;have hcall:=Kc (r[pos]'hlt2).toNat W;rw[hc]at hcall;have hres:=HR.out pos hall.out (.inr ⟨D6,JB⟩);obtain⟨HC,HS⟩:=fw hcall hres;clear hall hcall hc hgd hge hit hb hres HR;go_wp2_with fail
    exact JW
  ·have hnx:∀ty,(Instr.next (.pointer (some ⟨w.heap.size,0,none⟩)) true ty).run prog wr=_:=λty=>Dv wr w.heap.size r pos ty hit hlt2
   obtain rfl:pos=r.size:=dS
   have hres:=HR.out r.size hall.out (.inl (Sc.fM r).symm);have HS:=dY hres;clear hall hit hres HR;go_wp2;go_ret;exact⟨nZ,hb⟩
theorem afr(r:ByteArray)(w:World)(hr:r.size<=maxLen):
 Calls prog 81 #[.string r,.func (.func 125) #[] #[]] w λe w'=>e=.returned (.int .i64 (Sc.run Sc.Jb (Sc.eH r)))/\Below w.heap.size w w':=by
 unfold maxLen at hr;have HR:=dY (λk h1 h2=>Sc.run_end Sc.Jb (Sc.eH r) k h1 h2)
 go_enter func81,ntmps81
 go_wp2
 go_loopg [] r.size (λgf wr=>∃(pos:Nat),wr.heap[w.heap.size]?=some (.stringIter r pos)/\Below w.heap.size w wr/\Hid (∀j,j<pos->Sc.Jb ((Sc.eH r).getD j 0)=true)/\pos<=r.size/\r.size<=pos+gf)
 case atStart=>exact⟨0,AL w r 0,(fD _ w).alloc (eO _) _,dY (λj h=>absurd h (pK j)),fP _,dS⟩
 case round=>
  obtain⟨pos,hit,hb,hall,hle,hf⟩:=hrel;by_cases hlt2:pos<r.size
  ·obtain⟨g',rfl⟩:∃g',gk=g'+1:=⟨gk-1,dS⟩
   have hgd:=Sc.jw r pos;have hge:=Sc.l7 r pos hlt2;cases hc:Sc.Jb (r[pos]'hlt2).toNat with
   |true=>
    have ha:(r[pos]'hlt2).toNat<128:=by
     rcases mD (r[pos]'hlt2).toNat 128 with h|h
     ·exact h
     ·rw[aa5 _ h]at hc;cases hc
    have hnx:∀ty,(Instr.next (.pointer (some ⟨w.heap.size,0,none⟩)) true ty).run prog wr=_:=λty=>Gt wr w.heap.size r pos ty hit hlt2 ha
    have hit2:=yI wr w.heap.size r pos (pos+1) hit;have hb2:=tJ hb (k:=w.heap.size) (eO _) r (pos+1);generalize wr.iterAt w.heap.size r (pos+1)=W at*;have hcall:=Yd (r[pos]'hlt2).toNat W;rw[hc]at hcall;have tT:∀j,j<pos+1->Sc.Jb ((Sc.eH r).getD j 0)=true:=JJ
    exact JS
   |false=>
    have hnx:∀ty,(Instr.next (.pointer (some ⟨w.heap.size,0,none⟩)) true ty).run prog wr=_:=λty=>Gs wr w.heap.size r pos ty hit hlt2
    have hb2:=tJ hb (k:=w.heap.size) (eO _) r (pos+(Utf8.decode r pos).2);generalize (Utf8.decode r pos).1=R at*;generalize wr.iterAt w.heap.size r (pos+(Utf8.decode r pos).2)=W at*;have hcall:=Yd (r[pos]'hlt2).toNat W;rw[hc]at hcall;have hres:=HR.out pos hall.out (.inr ⟨D6,JB⟩);obtain⟨HC,HS⟩:=fw hcall hres;clear hall hcall hc hgd hge hit hb hres HR;go_wp2_with fail
    exact JW
  ·have hnx:∀ty,(Instr.next (.pointer (some ⟨w.heap.size,0,none⟩)) true ty).run prog wr=_:=λty=>Dv wr w.heap.size r pos ty hit hlt2
   obtain rfl:pos=r.size:=dS
   have hres:=HR.out r.size hall.out (.inl (Sc.fM r).symm);have HS:=dY hres;clear hall hit hres HR;go_wp2;go_ret;exact⟨nZ,hb⟩
theorem MF(r:ByteArray)(w:World)(hr:r.size<=maxLen):
 Calls prog 81 #[.string r,.func (.func 83) #[] #[]] w λe w'=>e=.returned (.int .i64 (Sc.run Sc.Bu (Sc.eH r)))/\Below w.heap.size w w':=by
 unfold maxLen at hr;have HR:=dY (λk h1 h2=>Sc.run_end Sc.Bu (Sc.eH r) k h1 h2)
 go_enter func81,ntmps81
 go_wp2
 go_loopg [] r.size (λgf wr=>∃(pos:Nat),wr.heap[w.heap.size]?=some (.stringIter r pos)/\Below w.heap.size w wr/\Hid (∀j,j<pos->Sc.Bu ((Sc.eH r).getD j 0)=true)/\pos<=r.size/\r.size<=pos+gf)
 case atStart=>exact⟨0,AL w r 0,(fD _ w).alloc (eO _) _,dY (λj h=>absurd h (pK j)),fP _,dS⟩
 case round=>
  obtain⟨pos,hit,hb,hall,hle,hf⟩:=hrel;by_cases hlt2:pos<r.size
  ·obtain⟨g',rfl⟩:∃g',gk=g'+1:=⟨gk-1,dS⟩
   have hgd:=Sc.jw r pos;have hge:=Sc.l7 r pos hlt2;cases hc:Sc.Bu (r[pos]'hlt2).toNat with
   |true=>
    have ha:(r[pos]'hlt2).toNat<128:=by
     rcases mD (r[pos]'hlt2).toNat 128 with h|h
     ·exact h
     ·rw[aiW _ h]at hc;cases hc
    have hnx:∀ty,(Instr.next (.pointer (some ⟨w.heap.size,0,none⟩)) true ty).run prog wr=_:=λty=>Gt wr w.heap.size r pos ty hit hlt2 ha
    have hit2:=yI wr w.heap.size r pos (pos+1) hit;have hb2:=tJ hb (k:=w.heap.size) (eO _) r (pos+1);generalize wr.iterAt w.heap.size r (pos+1)=W at*;have hcall:=aa3 (r[pos]'hlt2).toNat W;rw[hc]at hcall;have tT:∀j,j<pos+1->Sc.Bu ((Sc.eH r).getD j 0)=true:=JJ
    exact JS
   |false=>
    have hnx:∀ty,(Instr.next (.pointer (some ⟨w.heap.size,0,none⟩)) true ty).run prog wr=_:=λty=>Gs wr w.heap.size r pos ty hit hlt2
    have hb2:=tJ hb (k:=w.heap.size) (eO _) r (pos+(Utf8.decode r pos).2);generalize (Utf8.decode r pos).1=R at*;generalize wr.iterAt w.heap.size r (pos+(Utf8.decode r pos).2)=W at*;have hcall:=aa3 (r[pos]'hlt2).toNat W;rw[hc]at hcall;have hres:=HR.out pos hall.out (.inr ⟨D6,JB⟩);obtain⟨HC,HS⟩:=fw hcall hres;clear hall hcall hc hgd hge hit hb hres HR;go_wp2_with fail
    exact JW
  ·have hnx:∀ty,(Instr.next (.pointer (some ⟨w.heap.size,0,none⟩)) true ty).run prog wr=_:=λty=>Dv wr w.heap.size r pos ty hit hlt2
   obtain rfl:pos=r.size:=dS
   have hres:=HR.out r.size hall.out (.inl (Sc.fM r).symm);have HS:=dY hres;clear hall hit hres HR;go_wp2;go_ret;exact⟨nZ,hb⟩
theorem ab8(r:ByteArray)(w:World)(hr:r.size<=maxLen):
 Calls prog 81 #[.string r,.func (.func 124) #[] #[]] w λe w'=>e=.returned (.int .i64 (Sc.run Sc.PH (Sc.eH r)))/\Below w.heap.size w w':=by
 unfold maxLen at hr;have HR:=dY (λk h1 h2=>Sc.run_end Sc.PH (Sc.eH r) k h1 h2)
 go_enter func81,ntmps81
 go_wp2
 go_loopg [] r.size (λgf wr=>∃(pos:Nat),wr.heap[w.heap.size]?=some (.stringIter r pos)/\Below w.heap.size w wr/\Hid (∀j,j<pos->Sc.PH ((Sc.eH r).getD j 0)=true)/\pos<=r.size/\r.size<=pos+gf)
 case atStart=>exact⟨0,AL w r 0,(fD _ w).alloc (eO _) _,dY (λj h=>absurd h (pK j)),fP _,dS⟩
 case round=>
  obtain⟨pos,hit,hb,hall,hle,hf⟩:=hrel;by_cases hlt2:pos<r.size
  ·obtain⟨g',rfl⟩:∃g',gk=g'+1:=⟨gk-1,dS⟩
   have hgd:=Sc.jw r pos;have hge:=Sc.l7 r pos hlt2;cases hc:Sc.PH (r[pos]'hlt2).toNat with
   |true=>
    have ha:(r[pos]'hlt2).toNat<128:=by
     rcases mD (r[pos]'hlt2).toNat 128 with h|h
     ·exact h
     ·rw[aiX _ h]at hc;cases hc
    have hnx:∀ty,(Instr.next (.pointer (some ⟨w.heap.size,0,none⟩)) true ty).run prog wr=_:=λty=>Gt wr w.heap.size r pos ty hit hlt2 ha
    have hit2:=yI wr w.heap.size r pos (pos+1) hit;have hb2:=tJ hb (k:=w.heap.size) (eO _) r (pos+1);generalize wr.iterAt w.heap.size r (pos+1)=W at*;have hcall:=aa4 (r[pos]'hlt2).toNat W;rw[hc]at hcall;have tT:∀j,j<pos+1->Sc.PH ((Sc.eH r).getD j 0)=true:=JJ
    exact JS
   |false=>
    have hnx:∀ty,(Instr.next (.pointer (some ⟨w.heap.size,0,none⟩)) true ty).run prog wr=_:=λty=>Gs wr w.heap.size r pos ty hit hlt2
    have hb2:=tJ hb (k:=w.heap.size) (eO _) r (pos+(Utf8.decode r pos).2);generalize (Utf8.decode r pos).1=R at*;generalize wr.iterAt w.heap.size r (pos+(Utf8.decode r pos).2)=W at*;have hcall:=aa4 (r[pos]'hlt2).toNat W;rw[hc]at hcall;have hres:=HR.out pos hall.out (.inr ⟨D6,JB⟩);obtain⟨HC,HS⟩:=fw hcall hres;clear hall hcall hc hgd hge hit hb hres HR;go_wp2_with fail
    exact JW
  ·have hnx:∀ty,(Instr.next (.pointer (some ⟨w.heap.size,0,none⟩)) true ty).run prog wr=_:=λty=>Dv wr w.heap.size r pos ty hit hlt2
   obtain rfl:pos=r.size:=dS
   have hres:=HR.out r.size hall.out (.inl (Sc.fM r).symm);have HS:=dY hres;clear hall hit hres HR;go_wp2;go_ret;exact⟨nZ,hb⟩
end
end Go.Proofs.YtmkkdjpebbdikaaGreatDoor

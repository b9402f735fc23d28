import Derived.Test.YtmkkdjpebbdikaaGreatDoorZn21
import Derived.Test.YtmkkdjpebbdikaaGreatDoorZn22
import Derived.Test.YtmkkdjpebbdikaaGreatDoorZn23
set_option linter.all false
set_option maxHeartbeats 16000000
set_option maxRecDepth 100000
namespace Go.Proofs.YtmkkdjpebbdikaaGreatDoor
open Go.RowKit Go.Proofs.Tryz
section
open Ar
open Rw (R E)
theorem vE.iff{st:List Pr.Lv}:vE st↔∃D,st.getLast?=some D/\D.fG=-1:=by
 constructor
 ·rintro⟨pre,D,rfl,h⟩;exact⟨D,by simp,h⟩
 rintro⟨D,h,hc⟩;obtain⟨ys,e⟩:=List.getLast?_eq_some_iff.1 h;exact⟨ys,D,e,hc⟩
theorem vE.cons{r:List Pr.Lv}(h:vE r)(x:Pr.Lv):vE (x::r):=by
 obtain⟨pre,D,rfl,hc⟩:=h;exact⟨x::pre,D,rfl,hc⟩
theorem vE.head{x y:Pr.Lv}{r:List Pr.Lv}(h:vE (x::r))(e:y.fG=x.fG):vE (y::r):=by
 cases r with
 |nil=>
  have:=h.last (pre:=[]) (h:=x) rfl;exact⟨[],y,rfl,by rw[e];exact this⟩
 |cons a b=>
  obtain⟨D,h1,h2⟩:=vE.iff.1 h;exact vE.iff.2 ⟨D,by rw[Vn]at h1⊢;exact h1,h2⟩
theorem vE.drop{pre:List Pr.Lv}{x:Pr.Lv}{r:List Pr.Lv}(h:vE (pre++x::r)):vE (x::r):=by
 obtain⟨D,h1,h2⟩:=vE.iff.1 h;refine vE.iff.2 ⟨D,?_,h2⟩;rw[List.getLast?_append]at h1;cases hx:(x::r).getLast? with
 |none=>simp at hx
 |some y=>rw[hx]at h1;simpa using h1
theorem Mo(l:List Tk)(s:Fl.St)(h:Pr.Lv)(e:E):(Pr.enter l s h e).2.fG=h.fG:=by
 unfold Pr.enter;split
 ·rfl
 split<;>rfl
theorem Gj(depth n:Nat)(e:E):∀(st:List Pr.Lv)(h:Pr.Lv)(r:List Pr.Lv),Pr.mX depth n e st=(0,h::r)->∃pre,st=pre++h::r
 |[],h,r,hk=>by cases hk
 |x::y,h,r,hk=>by
  rw[Pr.mX]at hk;split at hk
  ·injection hk with _ hk
   exact⟨[],hk⟩
  split at hk
  ·obtain⟨pre,hp⟩:=Gj depth n e y h r hk;exact⟨x::pre,by rw[hp];rfl⟩
  split at hk
  ·cases hk
  split at hk
  ·cases hk
  split at hk
  ·cases hk
  split at hk<;>cases hk
theorem Gl(depth n:Nat)(e:E):∀(st:List Pr.Lv)(z:List Pr.Lv),Pr.mX depth n e st=(1,z)->n<=depth
 |[],z,hk=>by cases hk
 |x::y,z,hk=>by
  rw[Pr.mX]at hk;split at hk
  ·cases hk
  split at hk
  ·exact Gl depth n e y z hk
  split at hk
  ·cases hk
  split at hk
  ·cases hk
  split at hk
  ·cases hk
  split at hk
  ·cases hk
  omega
theorem Av{q:Pr.QS}(l:List Tk)(depth:Nat)(e:E)(hb:vE q.st)(hl:q.st.length<=depth+1):
 vE (Pr.place l depth q e).2.st/\(Pr.place l depth q e).2.st.length<=depth+1/\((Pr.place l depth q e).1≠0->(Pr.place l depth q e).2=q):=by
 unfold Pr.place;obtain⟨k,hk⟩:=fq (Pr.mX depth q.st.length e q.st);rw[hk];obtain⟨code,st⟩:=k
 match code,st with
 |0,[]=>exact⟨hb,hl,λ_=>rfl⟩
 |0,v::r=>
  obtain⟨pre,hp⟩:=Gj _ _ _ _ _ _ hk;have hd:vE (v::r):=by rw[hp]at hb;exact hb.drop
  refine⟨hd.head (Mo l q.s v e),?_,λh=>absurd rfl h⟩;show((Pr.enter l q.s v e).2::r).length<=_;rw[hp,iJ,jh]at hl;rw[jh];omega
 |1,st=>
  have hn:=Gl _ _ _ _ _ hk;cases hs:q.st with
  |nil=>
   have:Pr.act l q e (1,st)=(0,q):=by
    show(match q.st with|h::r=>(0,Pr.fresh l q e h r)|[]=>(0,q))=_;rw[hs]
   rw[this];exact⟨hb,hl,λ_=>rfl⟩
  |cons v r=>
   have:Pr.act l q e (1,st)=(0,Pr.fresh l q e v r):=by
    show(match q.st with|h::r=>(0,Pr.fresh l q e h r)|[]=>(0,q))=_;rw[hs]
   rw[this];rw[hs]at hb hl hn;refine⟨(hb.head (y:={v with full:=true}) rfl).cons _,?_,λh=>absurd rfl h⟩;show(_::{v with full:=true}::r).length<=_;rw[jh]at hn⊢;rw[jh];omega
 |code+2,st=>exact⟨hb,hl,λ_=>rfl⟩
theorem oF{q:Pr.QS}(i:Nat)(h:q.st=[]\/vE q.st):vE (Pr.fM q i).st:=by
 unfold Pr.fM;cases hs:q.st with
 |nil=>exact⟨[],_,rfl,rfl⟩
 |cons v r=>
  rcases h with h|h
  ·rw[hs]at h;cases h
  exact h
theorem pU{q:Pr.QS}(i m:Nat)(h:q.st.length<=m+1):(Pr.fM q i).st.length<=m+1:=by
 unfold Pr.fM;cases hs:q.st with
 |nil=>exact Nat.succ_le_succ (ic _)
 |cons v r=>exact h
end
section
open Go.RowKit
open Sg
open Es
open Qo
def ba(l:List UInt8):ByteArray:=⟨l.toArray⟩
theorem Ju{b:ByteArray}{l:List UInt8}(h:b.data.toList=l):ba l=b:=by
 subst h;rfl
theorem Aw(a b:ByteArray):(a++b).data.toList=a.data.toList++b.data.toList:=Sg.Fq a b
theorem Ei(s:ByteArray)(a b:Nat):(s.extract a b).data.toList=(s.data.toList.drop a).take (b-a):=Es.ext_list s a b
theorem um(s:ByteArray)(a:Nat):(s.extract a s.size).data.toList=s.data.toList.drop a:=by
 rw[Ei,xK];rw[iT,<-rE];exact fB _
theorem Xa(s:ByteArray)(c:UInt8)(r:List UInt8)(h:s.data.toList=c::r):s.get! 0=c:=by
 rw[<-BD,h];rfl
theorem qX(s:ByteArray)(h:0<s.size):∃r,s.data.toList=s.get! 0::r:=by
 cases hl:s.data.toList with
 |nil=>rw[rE,hl]at h;exact absurd h (by decide)
 |cons c r=>exact⟨r,by rw[Xa s c r hl]⟩
theorem Xb(l:List UInt8):sM l=(l.take (Sc.run nq1 (l.map UInt8.toNat))++(sM (l.drop (Sc.run nq1 (l.map UInt8.toNat)))).1,(sM (l.drop (Sc.run nq1 (l.map UInt8.toNat)))).2):=by
 induction l with
 |nil=>rfl
 |cons c r ih=>
  rw[wB,Sc.run];cases hc:nq1 c.toNat with
  |false=>rfl
  |true=>
   have aa:c≠39:=λe=>by subst e;exact absurd hc (by decide)
   rw[eY rfl,VZ c r aa];generalize Sc.run nq1 (r.map UInt8.toNat)=n at*;rw[uA,wh,ih];rfl
theorem Xc(l:List UInt8):∀p,qO p l=(l.take (Sc.run xH (l.map UInt8.toNat))++(qO (p+Sc.run xH (l.map UInt8.toNat)) (l.drop (Sc.run xH (l.map UInt8.toNat)))).1,(qO (p+Sc.run xH (l.map UInt8.toNat)) (l.drop (Sc.run xH (l.map UInt8.toNat)))).2):=by
 induction l with
 |nil=>intro p;rfl
 |cons c r ih=>
  intro p;rw[wB,Sc.run];cases hc:xH c.toNat with
  |false=>rfl
  |true=>
   have aa:c≠34:=λe=>by subst e;exact absurd hc (by decide)
   have ae:c≠92:=λe=>by subst e;exact absurd hc (by decide)
   rw[eY rfl,V2 p c r aa ae];have ih:=ih (p+1);generalize Sc.run xH (r.map UInt8.toNat)=n at*;rw[uA,wh,ih,show p+1+n=p+(n+1)by omega];rfl
theorem QC(s:ByteArray)(h:0<s.size)(aa:(s.get! 0).toNat≠39):1<=Sc.run nq1 (Sc.fw s):=by
 obtain⟨r,hr⟩:=qX s h;show 1<=Sc.run nq1 (s.data.toList.map UInt8.toNat);rw[hr,wB,Sc.run,eY (by simp[nq1,BP];omega)];omega
theorem QE(s:ByteArray)(h:0<s.size)(aa:(s.get! 0).toNat≠34)(ae:(s.get! 0).toNat≠92):1<=Sc.run xH (Sc.fw s):=by
 obtain⟨r,hr⟩:=qX s h;show 1<=Sc.run xH (s.data.toList.map UInt8.toNat);rw[hr,wB,Sc.run,eY (by simp[xH,BQ];omega)];omega
theorem Gm(p:Nat->Bool)(s:ByteArray):Sc.run p (Sc.fw s)<=s.size:=by
 rw[<-Sc.gJ];exact Sc.ni p _
theorem OD(s:ByteArray)(n:Nat)(h:n<=s.size):(s.extract 0 n).size=n:=by
 rw[Sg.ext_size s 0 n h,BC]
theorem Mq(v:Int):(Utf8.encode v).size<=4:=by
 rw[Sg.qm];exact(Sg.OP _).2
theorem Xd(s:ByteArray)(h:0<s.size)(e:Rc s=.UH):sM s.data.toList=([],true):=by
 unfold Rc at e;cases hp:([39,39]:List UInt8).isPrefixOf s.data.toList with
 |true=>rw[hp,eY rfl]at e;cases e
 |false=>
  rw[hp,eX (by decide)]at e;by_cases aa:(s.get! 0).toNat=39
  ·obtain⟨r,hr⟩:=qX s h;have hc:s.get! 0=39:=Qo.Jt _ 39 aa;rw[hr,hc]at hp⊢;cases r with
   |nil=>rfl
   |cons d t=>
    refine SF d t λhd=>?_
    subst hd;simp[List.isPrefixOf]at hp
  rw[eX aa]at e;cases e
theorem Xe(s:ByteArray)(e:Rc s=.bad):False:=by
 unfold Rc at e;split at e
 ·cases e
 split at e<;>cases e
theorem Xf(s:ByteArray)(h:0<s.size)(t:ByteArray)(n:Nat)(e:Rc s=.say t n):
 1<=n/\n<=s.size/\t.size<=2*n/\sM s.data.toList=(t.data.toList++(sM (s.data.toList.drop n)).1,(sM (s.data.toList.drop n)).2):=by
 unfold Rc at e;cases hp:([39,39]:List UInt8).isPrefixOf s.data.toList with
 |true=>
  rw[hp,eY rfl]at e;injection e with e1 e2
  subst e1 e2;obtain⟨r,hr⟩:=List.isPrefixOf_iff_prefix.1 hp;have hz:s.size=r.length+2:=by rw[rE,<-hr];simp
  refine⟨by decide,by omega,by show(1:Nat)<=2*2;decide,?_⟩;rw[<-hr];exact SE r
 |false=>
  rw[hp,eX (by decide)]at e;by_cases aa:(s.get! 0).toNat=39
  ·rw[eY aa]at e;cases e
  rw[eX aa]at e;injection e with e1 e2
  have h1:=QC s h aa;have h2:=Gm nq1 s;have h3:=Xb s.data.toList;rw[show s.data.toList.map UInt8.toNat=Sc.fw s from rfl]at h3;rw[e2]at h1 h2 h3 e1;subst e1;refine⟨h1,h2,by rw[OD s n h2];omega,?_⟩;rw[Ei,lQ,BC];exact h3
theorem Xg(s:ByteArray)(p:Nat)(h:0<s.size)(e:Re s=.UH):qO p s.data.toList=([],[],true):=by
 unfold Re at e;by_cases aa:(s.get! 0).toNat=34
 ·obtain⟨r,hr⟩:=qX s h;rw[hr,Qo.Jt _ 34 aa];exact SH p r
 rw[eX aa]at e;split at e
 ·split at e<;>cases e
 cases e
theorem Xh(s:ByteArray)(p:Nat)(h:0<s.size)(e:Re s=.bad):
 qO p s.data.toList=(92::(qO (p+1) (s.data.toList.drop 1)).1,p::(qO (p+1) (s.data.toList.drop 1)).2.1,(qO (p+1) (s.data.toList.drop 1)).2.2):=by
 unfold Re at e;by_cases ae:(s.get! 0).toNat=34
 ·rw[eY ae]at e;cases e
 rw[eX ae]at e;by_cases aa:(s.get! 0).toNat=92
 ·rw[eY aa]at e;obtain⟨r,hr⟩:=qX s h;rw[Qo.Jt _ 92 aa]at hr
  change s.data.toList=92::r at hr
  rw[hr]at e⊢;cases hE:esc (92::r)with
  |none=>exact SN p r hE
  |some x=>rw[hE]at e;cases e
 rw[eX aa]at e;cases e
theorem Xi(s:ByteArray)(p:Nat)(h:0<s.size)(t:ByteArray)(n:Nat)(e:Re s=.say t n):
 1<=n/\n<=s.size/\t.size<=2*n/\qO p s.data.toList=(t.data.toList++(qO (p+n) (s.data.toList.drop n)).1,(qO (p+n) (s.data.toList.drop n)).2):=by
 unfold Re at e;by_cases ae:(s.get! 0).toNat=34
 ·rw[eY ae]at e;cases e
 rw[eX ae]at e;by_cases aa:(s.get! 0).toNat=92
 ·rw[eY aa]at e;obtain⟨r,hr⟩:=qX s h;rw[Qo.Jt _ 92 aa]at hr
  change s.data.toList=92::r at hr
  have hz:s.size=r.length+1:=by rw[rE,hr];rfl
  rw[hr]at e⊢;cases hE:esc (92::r)with
  |none=>rw[hE]at e;cases e
  |some x=>
   obtain⟨v,k⟩:=x;rw[hE]at e;injection e with e1 e2
   subst e1 e2;have hk:=Qo.wK hE;rw[jh]at hk;have h4:=Mq v;exact⟨by omega,by omega,by omega,SI p r v k hE⟩
 rw[eX aa]at e;injection e with e1 e2
 have h1:=QE s h ae aa;have h2:=Gm xH s;have h3:=Xc s.data.toList p;rw[show s.data.toList.map UInt8.toNat=Sc.fw s from rfl]at h3;rw[e2]at h1 h2 h3 e1;subst e1;refine⟨h1,h2,by rw[OD s n h2];omega,?_⟩;rw[Ei,lQ,BC];exact h3
theorem vW{w:World}{B B':Nat}{e e':TypeId}{k k' n n':Nat}{v v':Value}{xs xs':List Value}(h:w.ownsRow B e k v n xs)(h':w.ownsRow B' e' k' v' n' xs')(hne:e≠e'):v.ownBlock=none\/v.ownBlock≠v'.ownBlock:=by
 cases hv:v.ownBlock with
 |none=>exact .inl rfl
 |some g=>
  refine .inr λhe=>?_
  obtain⟨c,fz,h1⟩:=Lib.ownsRow_kind h g hv;obtain⟨c',aa,h2⟩:=Lib.ownsRow_kind h' g he.symm;rw[h1]at h2;injection h2 with h2
  injection h2 with h3 h4
  exact hne h4
theorem Kr(w:World):(Instr.typeAssert (Pc.UH).val 20 126 true).run prog w=.ok (.tuple #[.agg #[],.bool true]) w:=by kernel_rfl
theorem Ul(w:World):(Instr.typeAssert (Pc.bad).val 20 126 true).run prog w=.ok (.tuple #[.agg #[],.bool false]) w:=by kernel_rfl
theorem Ks(v:Value)(w:World):(Instr.typeAssert (.iface 131 v) 20 126 true).run prog w=.ok (.tuple #[.agg #[],.bool false]) w:=by kernel_rfl
theorem Um(w:World):(Instr.typeAssert (Pc.bad).val 20 128 true).run prog w=.ok (.tuple #[.agg #[],.bool true]) w:=by kernel_rfl
theorem Kt(v:Value)(w:World):(Instr.typeAssert (.iface 131 v) 20 128 true).run prog w=.ok (.tuple #[.agg #[],.bool false]) w:=by kernel_rfl
theorem Ku(v:Value)(w:World):(Instr.typeAssert (.iface 131 v) 20 131 false).run prog w=.ok v w:=by kernel_rfl
end
section
open Go.RowKit
open Sg
open Es
open Qo
def Told(x:List UInt8×List Nat×Bool)(w:World)(e:Ending)(w':World):Prop:=
 ∃v,e=.returned (.tuple #[.string (ba x.1),v,.bool x.2.2])/\w'.ownsRow w.heap.size 3 1 v x.2.1.length (places x.2.1)/\Below w.heap.size w w'
def YH(L T:List UInt8)(en:Bool)(p:Nat)(out:ByteArray):Prop:=out.data.toList++(sM (L.drop p)).1=T/\(sM (L.drop p)).2=en
def Yz(L T:List UInt8)(bs:List Nat)(en:Bool)(p:Nat)(out:ByteArray)(acc:List Nat):Prop:=out.data.toList++(qO p (L.drop p)).1=T/\acc++(qO p (L.drop p)).2.1=bs/\(qO p (L.drop p)).2.2=en
theorem C4(w:World)(B:Nat):w.ownsRow B 5 1 (.slice none 0 0) (⟨#[]⟩:ByteArray).size (cellsOf ⟨#[]⟩):=H6 _ _ _ _
theorem vo(w:World)(B:Nat):w.ownsRow B 3 1 (.slice none 0 0) ([]:List Nat).length (places []):=H6 _ _ _ _
theorem NC:3≠5:=by decide
theorem zy{w:World}{B:Nat}{v:Value}{out:ByteArray}(h:w.ownsRow B 5 1 v out.size (cellsOf out)):xF w v out:=xF.fJ h
theorem Ym(s:ByteArray)(w:World)(hs:s.size<=100000)(h1:1<=s.size):
 Calls prog 71 #[.string s,.func (.func 72) #[] #[]] w (Told ((sM (s.data.toList.drop 1)).1,[],(sM (s.data.toList.drop 1)).2) w):=by
 have HN:=eZ (λp W h=>Ye (s.extract p s.size) W (show(s.extract p s.size).size<=maxLen by rw[nV];unfold maxLen;omega) h);obtain⟨T,hT⟩:=fq ((sM (s.data.toList.drop 1)).1);obtain⟨en,hen⟩:=fq ((sM (s.data.toList.drop 1)).2);have H0:=eZ (show YH s.data.toList T en 1 ⟨#[]⟩from⟨hT,hen⟩);rw[hT,hen];clear hT hen;have k1:=Kr;have k2:=Ks;have k3:=Kt;have k4:=Ku
 go_enter func71,ntmps71
 go_wp2_with fail
 go_loopw [5,7,8] (λbv ov av wr=>∃(p:Nat)(out:ByteArray)(V:Value),bv=.slice none 0 0/\V=ov/\av=.int .i64 p/\1<=p/\p<=s.size/\out.size<=2*p/\Hid (wr.ownsRow w.heap.size 5 1 V out.size (cellsOf out))/\Hid (YH s.data.toList T en p out)/\Below w.heap.size w wr) (λ_ _ av _=>s.size-(intOf av).toNat)
 case atStart=>exact⟨1,⟨#[]⟩,_,rfl,rfl,rfl,fB _,by omega,by decide,eZ (C4 w _),H0,fI _ w⟩
 case round=>
  obtain⟨p,out,V,rfl,rfl,rfl,hp1,ay,af,HO,HS,hb⟩:=hrel;by_cases hlt:p<s.size
  ·have hpi:(p:Int)<(s.size:Int):=by omega
   have hex:0<(s.extract p s.size).size:=by rw[nV];omega
   have hn:=HN.out p wr hex;cases hpc:Rc (s.extract p s.size)with
   |UH=>
    have hs1:=Xd _ hex hpc;rw[um]at hs1;obtain⟨hT,hen⟩:=HS.out;rw[hs1]at hT hen;simp only[mP]at hT;rw[hpc]at hn;obtain⟨HC,HT⟩:=fT hn (Ju hT);subst hen;clear hn hpc hs1 hT hex HS HN;go_wp2_with fail
    refine HC.out.mono ?_;rintro e w1 ⟨rfl,hb1⟩;have hb2:=hb.trans (hb1.mono hb.size);have hcv:=qT (zy ((fQ HO.out hb1).alloc (.cells #[] 126)));go_wp2_with fail
    go_ret3
    exact⟨.slice none 0 0,by show Ending.returned (.tuple #[.string out,.slice none 0 0,.bool true])=.returned (.tuple #[.string (ba T),.slice none 0 0,.bool true]);rw[HT.out],vo _ _,hb2.alloc hb2.size _⟩
   |bad=>exact(Xe _ hpc).elim
   |say t n=>
    obtain⟨hn1,hn2,ag,hs1⟩:=Xf _ hex t n hpc;rw[um]at hs1;rw[nV]at hn2;obtain⟨hT,hen⟩:=HS.out;rw[hs1,mQ]at hT hen;have HS2:=eZ (show YH s.data.toList T en (p+n) (out++t)from⟨by rw[Aw,nQ];exact hT,hen⟩);rw[hpc]at hn;have HC:=eZ (show Calls prog 72 #[.string (s.extract p s.size)] wr λe w'=>e=.returned (.iface 131 (.agg #[.string t,.int .i64 (n:Int)]))/\Below wr.heap.size wr w' from hn);have hzb:out.size+t.size<=1000000:=by omega
    have hpn:p+n<=s.size:=by omega
    have hzn:out.size+t.size<=2*(p+n):=by omega
    clear hn hpc hs1 hT hen hex HS HN hn2 ag af;go_wp2_with fail
    refine HC.out.mono ?_;rintro e w1 ⟨rfl,hb1⟩;have HB3:=eZ (((hb.trans (hb1.mono hb.size)).alloc (hb.trans (hb1.mono hb.size)).size (.cells #[] 126)).alloc (by have:=(hb.trans (hb1.mono hb.size)).size;simp;omega) (.cells #[] 128)|>.alloc (by have:=(hb.trans (hb1.mono hb.size)).size;simp;omega) (.cells #[.string t,.int .i64 (n:Int)] 131));have hown1:=fQ HO.out hb1;have ah:=eZ (λg (h:V.ownBlock=some g)=>(hown1.lt g h).1);have ai:=eZ (show some (w1.heap.size+1+1)≠V.ownBlock from λe=>by have:=(hown1.lt _ e.symm).2;omega);have aj:=eZ (((hown1.alloc (.cells #[] 126)).alloc (.cells #[] 128)).alloc (.cells #[.string t,.int .i64 (n:Int)] 131))
    have HZ:=eZ (show(((w1.alloc (.cells #[] 126)).alloc (.cells #[] 128)).alloc (.cells #[.string t,.int .i64 (n:Int)] 131)).cell? ⟨w1.heap.size+1+1,1,none⟩=some (.int .i64 (n:Int))from by
     have:=at_new (W:=(w1.alloc (.cells #[] 126)).alloc (.cells #[] 128)) (C:=#[.string t,.int .i64 (n:Int)]) (t:=131) (k:=1) (u:=.int .i64 (n:Int)) rfl;rw[size_alloc,size_alloc]at this
     exact this)
    have aa:=eZ (show w.heap.size<=(((w1.alloc (.cells #[] 126)).alloc (.cells #[] 128)).alloc (.cells #[.string t,.int .i64 (n:Int)] 131)).heap.size from HB3.out.size);have ae:out.size+t.size<=140737488355328:=by omega
    clear hown1 hb hb1;go_wp2_with (at_builtin;go_must (refine wpList_append_text rfl (.tmp 50) (.tmp 52) rfl w.heap.size V out.size (cellsOf out) rfl aj.out t rfl ae aa.out ?_;intro v2 w2 hown2 hg2;have q1:=hg2.cell HZ.out ai.out;have ak:=eZ (Af hown2);have ax:=eZ (uY HB3.out hg2 ah.out aa.out);clear hown2 hg2))
    go_roundw
    case rel=>exact⟨p+n,out++t,v2,rfl,rfl,by go_num,by omega,hpn,by rw[Sg.pM];exact hzn,ak,HS2,ax.out⟩
    case measure=>simp[intOf];omega
  obtain rfl:p=s.size:=by omega
  obtain⟨hT,hen⟩:=HS.out;rw[Vk (by rw[<-rE];exact fB _),show sM []=([],false)from rfl]at hT hen;simp only[mP]at hT;have HT:=eZ (Ju hT);subst hen;have hcv:=qT (zy HO.out);clear hT HS HN;go_wp2_with fail
  go_ret3
  exact⟨.slice none 0 0,by show Ending.returned (.tuple #[.string out,.slice none 0 0,.bool false])=.returned (.tuple #[.string (ba T),.slice none 0 0,.bool false]);rw[HT.out],vo _ _,hb⟩
theorem Yn(s:ByteArray)(w:World)(hs:s.size<=100000)(h1:1<=s.size):
 Calls prog 71 #[.string s,.func (.func 73) #[] #[]] w (Told (qO 1 (s.data.toList.drop 1)) w):=by
 have HN:=eZ (λp W h=>Yf (s.extract p s.size) W (show(s.extract p s.size).size<=maxLen by rw[nV];unfold maxLen;omega) h);obtain⟨T,hT⟩:=fq ((qO 1 (s.data.toList.drop 1)).1);obtain⟨bs,hbs⟩:=fq ((qO 1 (s.data.toList.drop 1)).2.1);obtain⟨en,hen⟩:=fq ((qO 1 (s.data.toList.drop 1)).2.2);have H0:=eZ (show Yz s.data.toList T bs en 1 ⟨#[]⟩ []from⟨hT,hbs,hen⟩);rw[show qO 1 (s.data.toList.drop 1)=(T,bs,en)from by rw[<-hT,<-hbs,<-hen]];clear hT hbs hen;have k1:=Kr;have k2:=Ks;have k3:=Kt;have k4:=Ku;have k5:=Ul;have k6:=Um;obtain⟨i0,hi,hz0,hz1,hz2⟩:=M8 JK;obtain⟨i1,hj,hy0,hy1,hy2⟩:=M8 infoByte;have HI:=eZ (And.intro hi (And.intro hz0 (And.intro hz1 hz2)));have HJ:=eZ (And.intro hj (And.intro hy0 (And.intro hy1 hy2)));clear hi hz0 hz1 hz2 hj hy0 hy1 hy2
 go_enter func71,ntmps71
 go_wp2_with fail
 go_loopw [5,7,8] (λbv ov av wr=>∃(p:Nat)(out:ByteArray)(acc:List Nat)(V B:Value),B=bv/\V=ov/\av=.int .i64 p/\1<=p/\p<=s.size/\out.size<=2*p/\acc.length<=p/\Hid (wr.ownsRow w.heap.size 5 1 V out.size (cellsOf out))/\Hid (wr.ownsRow w.heap.size 3 1 B acc.length (places acc))/\Hid (Yz s.data.toList T bs en p out acc)/\Below w.heap.size w wr) (λ_ _ av _=>s.size-(intOf av).toNat)
 case atStart=>exact⟨1,⟨#[]⟩,[],_,_,rfl,rfl,rfl,fB _,by omega,by decide,by decide,eZ (C4 w _),eZ (vo w _),H0,fI _ w⟩
 case round=>
  obtain⟨p,out,acc,V,B,rfl,rfl,rfl,hp1,aO,aC,haz,HO,HA,HS,hb⟩:=hrel;by_cases hlt:p<s.size
  ·have hpi:(p:Int)<(s.size:Int):=by omega
   have hex:0<(s.extract p s.size).size:=by rw[nV];omega
   have hn:=HN.out p wr hex;cases hpc:Re (s.extract p s.size)with
   |UH=>
    have hs1:=Xg _ p hex hpc;rw[um]at hs1;obtain⟨hT,hbs,hen⟩:=HS.out;rw[hs1]at hT hbs hen;simp only[mP]at hT hbs;rw[hpc]at hn;obtain⟨HC,HT⟩:=fT hn (Ju hT);subst hen hbs;clear hn hpc hs1 hT hex HS HN;go_wp2_with fail
    refine HC.out.mono ?_;rintro e w1 ⟨rfl,hb1⟩;have hb2:=hb.trans (hb1.mono hb.size);have HA2:=eZ ((fQ HA.out hb1).alloc (.cells #[] 126));have hcv:=qT (zy ((fQ HO.out hb1).alloc (.cells #[] 126)));go_wp2_with fail
    go_ret3
    exact⟨B,by show Ending.returned (.tuple #[.string out,B,.bool true])=.returned (.tuple #[.string (ba T),B,.bool true]);rw[HT.out],HA2.out,hb2.alloc hb2.size _⟩
   |bad=>
    have hs1:=Xh _ p hex hpc;rw[um,mQ]at hs1;obtain⟨hT,hbs,hen⟩:=HS.out;rw[hs1]at hT hbs hen;have HS2:=eZ (show Yz s.data.toList T bs en (p+1) (out++⟨#[92]⟩) (acc++[p])from⟨by rw[Aw,nQ];exact hT,by rw[nQ];exact hbs,hen⟩);rw[hpc]at hn;have HC:=eZ hn;clear hn hpc hs1 hT hbs hen hex HS HN;go_wp2_with fail
    refine HC.out.mono ?_;rintro e w1 ⟨rfl,hb1⟩;have hb2:=hb.trans (hb1.mono hb.size);have hb3:=hb2.alloc hb2.size (.cells #[] 126);have hb4:=hb3.alloc hb3.size (.cells #[] 128);have hb5:=hb4.alloc hb4.size (.cells #[.int .i64 (p:Int)] 3);have af:=eZ hb5;have ak:=eZ ((((fQ HO.out hb1).alloc (.cells #[] 126)).alloc (.cells #[] 128)).alloc (.cells #[.int .i64 (p:Int)] 3));have ag:=eZ ((((fQ HA.out hb1).alloc (.cells #[] 126)).alloc (.cells #[] 128)).alloc (.cells #[.int .i64 (p:Int)] 3));have ah:=VO ((w1.alloc (.cells #[] 126)).alloc (.cells #[] 128)) (.int .i64 (p:Int)) 3;rw[size_alloc,size_alloc]at ah;have aD:=eZ ah;clear ah;clear hb hb1 hb2 hb3 hb4 hb5;have tok:True:=trivial
    go_wp2_with (first
     |(at_builtin;have _t:=tok;clear tok;go_must (refine RQ _ rfl (.tmp 39) (.tmp 41) 22 rfl w.heap.size 3 i0 (.int .i64 0) 1 8 underlying22 HI.out.1 HI.out.2.1 HI.out.2.2.1 HI.out.2.2.2 rfl (by decide) B acc.length (places acc) rfl ag.out ⟨w1.heap.size+1+1,0,none⟩ 1 1 [.int .i64 (p:Int)] rfl rfl aD.out (by intro u hu;simp at hu;subst hu;rfl) (by unfold maxLen;omega) (by omega) af.out.size ?_;intro v3 w3 hown3 hg3 hnil3;have ai:=eZ (ak.out.kept hg3 (vW ak.out ag.out NC.symm));have ax:=eZ hown3;have ae:=eZ (uY af.out hg3 (λg h=>(ag.out.lt g h).1) af.out.size);clear hown3 hg3 hnil3))
     |(at_builtin;go_must (refine RQ _ rfl (.tmp 43) (.tmp 44) 23 rfl w.heap.size 5 i1 (.int .u8 0) 1 1 underlying23 HJ.out.1 HJ.out.2.1 HJ.out.2.2.1 HJ.out.2.2.2 rfl (by decide) V out.size (cellsOf out) rfl (ai.out.alloc (.cells #[.int .u8 92] 5)) ⟨w3.heap.size,0,none⟩ 1 1 [.int .u8 92] rfl rfl (VO w3 (.int .u8 92) 5) (by intro u hu;simp at hu;subst hu;rfl) (by unfold maxLen;omega) (by omega) (by rw[size_alloc];exact Nat.le_succ_of_le ae.out.size) ?_;intro v4 w4 aa hg4 aj;have aF:=eZ ((ax.out.alloc (.cells #[.int .u8 92] 5)).kept hg4 (vW (ax.out.alloc (.cells #[.int .u8 92] 5)) (ai.out.alloc (.cells #[.int .u8 92] 5)) NC));have aG:=eZ (Af (x:=⟨#[92]⟩) aa);have aH:=eZ (uY (ae.out.alloc ae.out.size (.cells #[.int .u8 92] 5)) hg4 (λg h=>(ai.out.lt g h).1) (by rw[size_alloc];exact Nat.le_succ_of_le ae.out.size));clear aa hg4 aj)))
    go_roundw
    case rel=>exact⟨p+1,out++⟨#[92]⟩,acc++[p],v4,v3,rfl,rfl,by go_num,by omega,by omega,by rw[Sg.pM];show out.size+1<=2*(p+1);omega,by rw[iJ];show acc.length+1<=p+1;omega,aG,eZ (by rw[iJ,yP];exact aF.out),HS2,aH.out⟩
    case measure=>simp[intOf];omega
   |say t n=>
    obtain⟨hn1,hn2,aI,hs1⟩:=Xi _ p hex t n hpc;rw[um]at hs1;rw[nV]at hn2;obtain⟨hT,hbs,hen⟩:=HS.out;rw[hs1,mQ]at hT hbs hen;have HS2:=eZ (show Yz s.data.toList T bs en (p+n) (out++t) acc from⟨by rw[Aw,nQ];exact hT,hbs,hen⟩);rw[hpc]at hn;have HC:=eZ (show Calls prog 73 #[.string (s.extract p s.size)] wr λe w'=>e=.returned (.iface 131 (.agg #[.string t,.int .i64 (n:Int)]))/\Below wr.heap.size wr w' from hn);have hzb:out.size+t.size<=1000000:=by omega
    have hpn:p+n<=s.size:=by omega
    have hzn:out.size+t.size<=2*(p+n):=by omega
    clear hn hpc hs1 hT hbs hen hex HS HN hn2 aI aC;go_wp2_with fail
    refine HC.out.mono ?_;rintro e w1 ⟨rfl,hb1⟩;have HB3:=eZ (((hb.trans (hb1.mono hb.size)).alloc (hb.trans (hb1.mono hb.size)).size (.cells #[] 126)).alloc (by have:=(hb.trans (hb1.mono hb.size)).size;simp;omega) (.cells #[] 128)|>.alloc (by have:=(hb.trans (hb1.mono hb.size)).size;simp;omega) (.cells #[.string t,.int .i64 (n:Int)] 131));have hown1:=fQ HO.out hb1;have aJ:=eZ (λg (h:V.ownBlock=some g)=>(hown1.lt g h).1);have aK:=eZ (show some (w1.heap.size+1+1)≠V.ownBlock from λe=>by have:=(hown1.lt _ e.symm).2;omega);have ay:=eZ (((hown1.alloc (.cells #[] 126)).alloc (.cells #[] 128)).alloc (.cells #[.string t,.int .i64 (n:Int)] 131));have az:=eZ ((((fQ HA.out hb1).alloc (.cells #[] 126)).alloc (.cells #[] 128)).alloc (.cells #[.string t,.int .i64 (n:Int)] 131))
    have HZ:=eZ (show(((w1.alloc (.cells #[] 126)).alloc (.cells #[] 128)).alloc (.cells #[.string t,.int .i64 (n:Int)] 131)).cell? ⟨w1.heap.size+1+1,1,none⟩=some (.int .i64 (n:Int))from by
     have:=at_new (W:=(w1.alloc (.cells #[] 126)).alloc (.cells #[] 128)) (C:=#[.string t,.int .i64 (n:Int)]) (t:=131) (k:=1) (u:=.int .i64 (n:Int)) rfl;rw[size_alloc,size_alloc]at this
     exact this)
    have aA:=eZ (show w.heap.size<=(((w1.alloc (.cells #[] 126)).alloc (.cells #[] 128)).alloc (.cells #[.string t,.int .i64 (n:Int)] 131)).heap.size from HB3.out.size);have aB:out.size+t.size<=140737488355328:=by omega
    clear hown1 hb hb1;go_wp2_with (at_builtin;go_must (refine wpList_append_text rfl (.tmp 50) (.tmp 52) rfl w.heap.size V out.size (cellsOf out) rfl ay.out t rfl aB aA.out ?_;intro v2 w2 hown2 hg2;have q1:=hg2.cell HZ.out aK.out;have aL:=eZ (Af hown2);have aM:=eZ (az.out.kept hg2 (vW az.out ay.out NC));have aN:=eZ (uY HB3.out hg2 aJ.out aA.out);clear hown2 hg2))
    go_roundw
    case rel=>exact⟨p+n,out++t,acc,v2,B,rfl,rfl,by go_num,by omega,hpn,by rw[Sg.pM];exact hzn,by omega,aL,aM,HS2,aN.out⟩
    case measure=>simp[intOf];omega
  obtain rfl:p=s.size:=by omega
  obtain⟨hT,hbs,hen⟩:=HS.out;rw[Vk (by rw[<-rE];exact fB _),SG]at hT hbs hen;simp only[mP]at hT hbs;have HT:=eZ (Ju hT);subst hen hbs;have hcv:=qT (zy HO.out);clear hT HS HN;go_wp2_with fail
  go_ret3
  exact⟨B,by show Ending.returned (.tuple #[.string out,B,.bool false])=.returned (.tuple #[.string (ba T),B,.bool false]);rw[HT.out],HA.out,hb⟩
end
section
open Go.RowKit
open Sg
open Qo
theorem QF(l:List UInt8)(h:l≠[]):ma 15 l=(l,[],true):=by unfold ma;rw[eX h,eY rfl]
theorem QG(l:List UInt8)(h:l≠[]):ma 16 l=((sM (l.drop 1)).1,[],(sM (l.drop 1)).2):=by unfold ma;rw[eX h,eX (by decide),eY rfl]
theorem QH(l:List UInt8)(h:l≠[]):ma 17 l=qO 1 (l.drop 1):=by unfold ma;rw[eX h,eX (by decide),eX (by decide),eY rfl]
theorem Un(k:Int)(l:List UInt8)(h1:k≠15)(h2:k≠16)(h3:k≠17):ma k l=([],[],false):=by
 unfold ma;by_cases h:l=[]
 ·rw[eY h]
 rw[eX h,eX h1,eX h2,eX h3]
theorem Uo(s:ByteArray)(h:1<=s.size):s.toList.isEmpty=false/\s.data.toList≠[]:=by
 have h1:s.data.toList≠[]:=λe=>by rw[rE,e]at h;exact absurd h (by decide)
 refine⟨?_,h1⟩;rw[Lib.toList_data];cases hl:s.data.toList with
 |nil=>exact absurd hl h1
 |cons _ _=>rfl
theorem QJ(s:ByteArray)(h:s.size=0):s=⟨#[]⟩:=by
 cases s with
 |mk d=>simp[ByteArray.size]at h;rw[h]
theorem Ay(w w':World)(t:ByteArray)(l:List UInt8)(b:Bool)(h:ba l=t)(hb:Below w.heap.size w w'):Told (l,[],b) w (.returned (.tuple #[.string t,.slice none 0 0,.bool b])) w' :=
 ⟨.slice none 0 0,by rw[<-h],vo _ _,hb⟩
theorem Yo(k:Int)(s:ByteArray)(w:World)(hs:s.size<=100000):
 Calls prog 45 #[.int .i64 k,.string s] w (Told (ma k s.data.toList) w):=by
 by_cases h0:s.size=0
 ·obtain rfl:=QJ s h0
  go_enter func45,ntmps45
  go_wp2
  go_ret3
  exact Ay _ _ _ _ _ rfl (fI _ _)
 have h1:1<=s.size:=by omega
 obtain⟨hE,hne⟩:=Uo s h1;have r1:=Ym s w hs h1;have r2:=Yn s w hs h1;by_cases k1:k=15
 ·subst k1;rw[QF _ hne];clear r1 r2
  go_enter func45,ntmps45
  go_wp2
  go_ret3
  exact Ay _ _ _ _ _ rfl (fI _ _)
 by_cases k2:k=16
 ·subst k2;rw[QG _ hne];obtain⟨x,hx⟩:=fq (((sM (s.data.toList.drop 1)).1,([]:List Nat),(sM (s.data.toList.drop 1)).2));rw[hx]at r1⊢;have R1:=eZ r1;clear r1 r2 hx
  go_enter func45,ntmps45
  go_wp2_with fail
  refine R1.out.mono ?_;rintro e w1 ⟨v,rfl,hO,hb⟩;go_wp2
  go_ret3
  exact⟨v,rfl,hO,hb⟩
 by_cases k3:k=17
 ·subst k3;rw[QH _ hne];obtain⟨x,hx⟩:=fq (qO 1 (s.data.toList.drop 1));rw[hx]at r2⊢;have R2:=eZ r2;clear r1 r2 hx
  go_enter func45,ntmps45
  go_wp2_with fail
  refine R2.out.mono ?_;rintro e w1 ⟨v,rfl,hO,hb⟩;go_wp2
  go_ret3
  exact⟨v,rfl,hO,hb⟩
 rw[Un k _ k1 k2 k3];have g1:(k==15)=false:=iW.2 k1;have g2:(k==16)=false:=iW.2 k2;have g3:(k==17)=false:=iW.2 k3;clear r1 r2
 go_enter func45,ntmps45
 go_wp2
 go_ret3
 exact Ay _ _ _ _ _ rfl (fI _ _)
end
namespace Fe
open Ar Fl
def nine(l:List Tk)(j:Nat):Dg:=⟨9,mM l j,too l j⟩
def N9(l:List Tk)(P:Nat->Prop)(d d':List Dg):Prop:=∃(ds:List Dg)(js:List Nat),d'=d++ds/\ds.filter (λx=>x.code==9)=js.map (nine l)/\js.Nodup/\∀j∈js,P j
section
variable {l:List Tk}{P Q:Nat->Prop}{a b c:List Dg}
theorem N9.refl(d:List Dg):N9 l P d d:=⟨[],[],by simp,rfl,.nil,by simp⟩
theorem N9.mono(h:N9 l P a b)(hp:∀j,P j->Q j):N9 l Q a b:=by
 obtain⟨ds,js,h1,h2,h3,h4⟩:=h;exact⟨ds,js,h1,h2,h3,λj hj=>hp j (h4 j hj)⟩
theorem N9.trans(h:N9 l P a b)(g:N9 l Q b c)(hd:∀j,P j->Q j->False):N9 l (λj=>P j\/Q j) a c:=by
 obtain⟨ds,js,h1,h2,h3,h4⟩:=h;obtain⟨es,ks,g1,g2,g3,g4⟩:=g;refine⟨ds++es,js++ks,by rw[g1,h1,nQ],by rw[List.filter_append,wy,h2,g2],?_,λj hj=>?_⟩
 ·rw[List.nodup_append];exact⟨h3,g3,λx hx y hy e=>hd x (h4 x hx) (e▸g4 y hy)⟩
 rw[mU]at hj;exact hj.elim (λh=>.inl (h4 j h)) (λh=>.inr (g4 j h))
theorem N9.other(d:List Dg)(x:Dg)(hx:x.code≠9):N9 l P d (d++[x]):=
 ⟨[x],[],rfl,by rw[List.filter_cons_of_neg (by simpa using hx)];rfl,.nil,by simp⟩
theorem N9.open(d:List Dg)(op:Nat):N9 l (λj=>j=op) d (d++[nine l op]):=
 ⟨[nine l op],[op],rfl,rfl,by simp,by simp⟩
end
def V9(l:List Tk)(e:Nat)(n:Int)(val:Int->Nat->St->Int×Nat×St):Prop:=
 ∀(up p:Nat)(s:St)(b:Int),Ck s.t n->Fits s.t p b up->Lf s.t->No s.t up->b<=p+1->p<=e->N9 l (λj=>p<=j/\j<(val up p s).2.1) s.d (val up p s).2.2.d
theorem Xj(l:List Tk)(s:St)(c:Int)(j q:Nat):(pair l s c j q).1.d=s.d:=by
 unfold pair;dsimp only;split<;>rfl
theorem Kv(l:List Tk)(e:Nat)(n:Int)(hn:(e:Int)<=n)(fG:Option (Int->Nat->St->Nat×St)):
 (∀k,fG=some k->∀(c op:Nat)(s:St)(b:Int),op<e->cnt (raw l op)=true->Ck s.t n->Fits s.t (op+1:Nat) b c->Lf s.t->No s.t c->b<=(op+1:Nat)->
  N9 l (λj=>op<=j/\j<(k c op s).1) s.d (k c op s).2.d)->V9 l e n (pV l e fG):=by
 intro hk up p s b hck hf hlf hno hb hpe;have h0:=j6 (l:=l) hpe;obtain⟨i0,hi0⟩:=fq (blanks l e p);have hl:=uJ l e i0 (e-i0) none i0 (fB _) (by omega) (λa z h=>by simp at h);obtain⟨o,ho⟩:=fq ((lead l e (e-i0) none i0).1);obtain⟨i,hi⟩:=fq ((lead l e (e-i0) none i0).2);rw[hi0]at h0;rw[ho,hi]at hl;obtain⟨l1,l2,l3,l4⟩:=hl;obtain⟨fr,hfr⟩:=fq (kL o i);have ae:p<=fr/\fr<=i:=by
  rw[<-hfr];cases o with
  |none=>exact⟨by show p<=i;omega,fB _⟩
  |some x=>obtain⟨a,z⟩:=x;have:=l3 a z rfl;show p<=a/\a<=i;omega
 have hs:Ok l p n up s p b s:=.start hck hf hlf hno;obtain⟨k,hkd⟩:=fq (kd l e i);unfold pV;dsimp only;rw[hi0,ho,hi,hfr,hkd];have kin:k≠0->i<e/\raw l i=k:=λh=>by have:=jc (l:=l) (e:=e) (i:=i) (by omega);omega
 by_cases c1:k=13
 ·rw[eY c1];exact N9.refl _
 rw[eX c1];by_cases c2:ig k=true
 ·rw[eY c2];exact N9.refl _
 rw[eX c2];by_cases c3:k=18
 ·rw[eY c3];exact N9.refl _
 rw[eX c3];by_cases c4:opens k=true
 ·rw[eY c4];have hi2:=kin (λh=>by rw[h]at c4;exact absurd c4 (by decide));cases aa:fG with
  |none=>exact N9.other _ _ (show(10:Nat)≠9 by decide)
  |some q=>
   dsimp only;obtain⟨kind,hkind⟩:∃kind:Nat,kind=(if k=9 then 10 else 9):=⟨_,rfl⟩
   rw[<-hkind];have hk1:1<=kind/\kind<=10:=by rw[hkind];split<;>omega
   obtain⟨s',a1,a2,a3,⟨x,a4,a5⟩,a6⟩:=kE (kind:=kind) hs (f:=fr) (t:=i+1) (by omega) (by omega) (by omega) hk1.1 hk1.2;have ed:s'.d=s.d:=by
    have:=congrArg (λz:St×Int=>z.1.d) a1;exact this.symm
   rw[a1];dsimp only;have:=hk q aa s.t.length i s' (i+1:Nat) hi2.1 (by rw[hi2.2];exact qQ c4) a3.ck (a3.fits.le (by omega) (by omega)) a3.lf a3.no (jq _);rw[ed]at this;exact this.mono (λj hj=>⟨by omega,hj.2⟩)
 rw[eX c4];cases o with
 |some x=>exact N9.refl _
 |none=>exact N9.refl _
theorem QK(l:List Tk)(e:Nat)(n:Int)(hn:(e:Int)<=n)(val:Int->Nat->St->Int×Nat×St)(hv:VC l e n val)(ae:V9 l e n val)(aa:Bool){c j:Nat}{s:St}{b:Int}
 (hck:Ck s.t n) (hf:Fits s.t j b c) (hlf:Lf s.t) (hno:No s.t c) (hb:b<=j) (hj:kd l e j≠0) (af:0<key l e j\/begins (kd l e j)=true):
 N9 l (λi=>j<=i/\i<(item l e val aa c j s).1) s.d (item l e val aa c j s).2.d:=by
 have ah:=(jc hj).1;unfold item;dsimp only;by_cases hq:0<key l e j
 ·rw[eY hq];obtain⟨q1,q2,q3⟩:=pF (by omega) hq;obtain⟨q,ag⟩:=fq (key l e j);rw[ag]at q1 q2 q3⊢;have ed:=Xj l s c j q;obtain⟨s1,a1,a2,⟨x,a3,a4⟩,a5⟩:=D5 l e n hn hck hf hlf hno (by omega) q1 q2;rw[a1]at ed⊢;dsimp only at ed⊢;split
  ·show N9 l _ s.d s1.d;rw[ed];exact N9.refl _
  have ht:=iY (l:=l) (e:=e) (i:=q) q2;have h9:=ae s.t.length (fZ l e q) s1 q a2.ck (a2.fits.le (by omega) (jq _)) a2.lf a2.no (by omega) ht.2;rcases hv s.t.length (fZ l e q) s1 q a2.ck (a2.fits.le (by omega) (jq _)) a2.lf a2.no (by omega) ht.2 with⟨v1,_⟩|⟨next,s2,v1,v2,v3,v4,v5⟩
  ·rw[v1];show N9 l _ s.d s1.d;rw[ed];exact N9.refl _
  rw[v1]at h9⊢;dsimp only at h9⊢;rw[eX (by omega)];rw[ed]at h9;exact h9.mono (λi hi=>⟨by omega,hi.2⟩)
 rw[eX hq];have hbg:begins (kd l e j)=true:=af.resolve_left hq;cases aa with
 |true=>
  rw[eY rfl];obtain⟨s1,a1,_,a3,⟨x,a4,a5⟩,a6⟩:=kE (kind:=6) (Ok.start (l:=l) (p0:=j) hck hf hlf hno) (f:=j) (t:=j+1) (by omega) (by omega) (by omega) (by omega) (by omega);have a1:add s c 6 j (j+1)=(s1,(s.t.length:Int)):=a1;have ed:s1.d=s.d:=by
   have:=congrArg (λz:St×Int=>z.1.d) a1;exact this.symm
  rw[a1];dsimp only;have d3:=ou (s.t.length:Int) a3;have h9:=ae s.t.length j _ (j+1:Nat) d3.ck (d3.fits.le (jq _) (by omega)) d3.lf d3.no (by omega) (by omega);dsimp only at h9;rw[ed]at h9;rw[ed];exact h9
 |false=>
  rw[eX (by decide)];exact ae c j s b hck hf hlf hno (by omega) (by omega)
theorem Kw(l:List Tk)(e:Nat)(n:Int)(hn:(e:Int)<=n)(val:Int->Nat->St->Int×Nat×St)(hv:VC l e n val)(ae:V9 l e n val)(c op:Nat):
 ∀(g p:Nat)(aa:Bool)(s:St)(b:Int),Ck s.t n->Fits s.t p b c->Lf s.t->No s.t c->b<=p->op<p->p<=e->cnt (raw l (p-1))=true->
 p<=(lU l e val c op g p aa s).1/\N9 l (λj=>j=op\/(p<=j/\j<(lU l e val c op g p aa s).1)) s.d (lU l e val c op g p aa s).2.d
 |0,p,aa,s,b=>λhck hf hlf hno hb hop hpe hcp=>⟨fB _,N9.refl _⟩
 |g+1,p,aa,s,b=>λhck hf hlf hno hb hop hpe hcp=>by
  have ht:=iY (l:=l) (e:=e) (i:=p) hpe;have hs:Ok l op n c s p b s:=.start hck hf hlf hno;rw[lU];obtain⟨j,hj⟩:=fq (fZ l e p);rw[hj]at ht⊢;obtain⟨k,hk⟩:=fq (kd l e j);rw[hk];by_cases k0:k=0
  ·rw[eY k0,mJ l p (op+1) (by omega) hcp];exact⟨fB _,(N9.open s.d op).mono (λj hj=>.inl hj)⟩
  rw[eX k0];have hjk:=jc (l:=l) (e:=e) (i:=j) (by omega);rw[hk]at hjk;have on:∀(p':Nat)(h':Bool)(s1:St),Ok l op n c s p' p' s1->j<p'->p'<=e->cnt (raw l (p'-1))=true->N9 l (λi=>p<=i/\i<p') s.d s1.d->
   p<=(lU l e val c op g p' h' s1).1/\N9 l (λj=>j=op\/(p<=j/\j<(lU l e val c op g p' h' s1).1)) s.d (lU l e val c op g p' h' s1).2.d:=by
   intro p' h' s1 h1 h2 h3 h4 h5;obtain⟨g1,g2⟩:=Kw l e n hn val hv ae c op g p' h' s1 p' h1.ck h1.fits h1.lf h1.no (jq _) (by omega) h3 h4;refine⟨by omega,(h5.trans g2 (λi a b=>by omega)).mono (λi hi=>?_)⟩;rcases hi with hi|hi|hi
   ·exact .inr ⟨hi.1,by omega⟩
   ·exact .inl hi
   exact .inr ⟨by omega,hi.2⟩
  have er:∀(t code:Nat),code=8->j<t->t<=e->Ok l op n c s t t (err l s c j t code):=by
   intro t code h1 h2 h3;exact(pG hs (f:=j) (t:=t) (code:=code) (by omega) (by omega) (by omega) (by omega) (by omega) (by omega) (by omega)).1.le (jq _) (by omega)
  have e9:∀(t:Nat)(P:Nat->Prop),N9 l P s.d (err l s c j t 8).d:=λt P=>N9.other _ _ (show(8:Nat)≠9 by decide)
  have gr:Ok l op n c s (j+1:Nat) (j+1:Nat) ⟨jg s.t c ((j+1:Nat):Int),s.d⟩:=qd hs (by omega) (by omega) (by omega);have c1:cnt k=true->cnt (raw l (j+1-1))=true:=λh=>by rw[jH,hjk.2];exact h
  by_cases k1:k=(if raw l op=9 then 11 else 10)
  ·rw[eY k1];exact⟨by dsimp only;omega,N9.refl _⟩
  rw[eX k1];by_cases k2:ends k=true
  ·rw[eY k2];exact on (j+1) aa _ (er (j+1) 8 rfl (by omega) (by omega)) (by omega) (by omega) (c1 (wG k2)) (e9 _ _)
  rw[eX k2];by_cases k3:k=7
  ·rw[eY k3];have c7:=c1 (by rw[k3];rfl);split
   ·exact on (j+1) false _ gr (by omega) (by omega) c7 (N9.refl _)
   exact on (j+1) aa _ (er (j+1) 8 rfl (by omega) (by omega)) (by omega) (by omega) c7 (e9 _ _)
  rw[eX k3];have hcj:cnt (raw l j)=true:=by
   have hnt:j=e\/(λj=>!cnt (raw l j)) j=false:=by
    have:=ku (λj=>!cnt (raw l j)) (e-p) p;unfold fZ at hj;rw[hj]at this;rcases this with h|h
    ·exact .inl (by omega)
    exact .inr h
   rcases hnt with h|h
   ·omega
   simpa using h
  by_cases k4:aa=true
  ·rw[eY k4];obtain⟨t1,t2,t3⟩:=qR (l:=l) (e:=e) (j:=j) (by omega) hcj (by omega) (by rw[hk];simpa using k2);exact on _ aa _ (er _ 8 rfl t1 t2) t1 t2 t3 (e9 _ _)
  rw[eX k4];by_cases k5:0<key l e j\/begins k=true
  ·rw[eY k5];have i9:=QK l e n hn val hv ae (raw l op==9) (c:=c) (j:=j) hck (hf.le (by omega) (jq _)) hlf hno (by omega) (by omega) (by rw[hk];exact k5);obtain⟨next,s',i1,i2,i3,i4,i5⟩:=JN l e n hn val hv (raw l op==9) (c:=c) (j:=j) hck (hf.le (by omega) (jq _)) hlf hno (by omega) (by omega) (by rw[hk];exact k5);rw[i1]at i9⊢;dsimp only at i9⊢;exact on next true s' (i5.low (by omega)) i2 i3 i4 (i9.mono (λi hi=>⟨by omega,hi.2⟩))
  rw[eX k5];exact on (j+1) aa _ (er (j+1) 8 rfl (by omega) (by omega)) (by omega) (by omega) (c1 (by rw[<-hjk.2];exact hcj)) (e9 _ _)
theorem Gn(l:List Tk)(e:Nat)(n:Int)(hn:(e:Int)<=n):∀d:Nat,V9 l e n (jd l e d)
 |0=>Kv l e n hn none (λk h=>by simp at h)
 |d+1=>Kv l e n hn _ (λk h c op s b ho hc hck hf hlf hno hb=>by
  injection h with h
  subst h;obtain⟨h1,h2⟩:=Kw l e n hn _ (zg l e n hn d) (Gn l e n hn d) c op (e-op) (op+1) false s b hck hf hlf hno hb (by omega) (by omega) (by rw[jH];exact hc);refine h2.mono (λj hj=>?_);show op<=j/\j<(lU l e (jd l e d) (c:Int) op (e-op) (op+1) false s).1
  rcases hj with hj|hj<;>constructor<;>omega)
end Fe
section
open Go.RowKit
open Sg
open Sq
theorem Yp(k:Nat)(h:0<k):(kI k==-1)=false:=by
 unfold kI;rw[eX (by omega)];exact iW.2 (by omega)
theorem Uq(b:Nat)(s:ByteArray)(v:Value)(at' row en:Nat)(op base least:Int)(dash:Bool)(w:World)(hM:Mem w b s v at' row en op base least dash)(hs:s.size<=100000)(h1:row<=en)(h2:en<=s.size)(hl0:-1<=least):
 Calls prog 54 #[.pointer (some ⟨b,0,none⟩)] w λe w'=>e=.returned (.bool (Sc.isText least (Sc.fw (s.extract row en))))/\Below w.heap.size w w':=by
 obtain⟨c0,c1,c2,c3,c4,c5,c6,c7,c8⟩:=hM.c;obtain⟨r,hr⟩:=fq (s.extract row en);have hz:r.size<=maxLen:=by rw[<-hr,nV];unfold maxLen;omega
 have aa:=λW=>UZ r W hz
 have ae:=λW=>qU r W hz
 have af:=λW=>FB r W hz
 have i1:(row:Int)<=(en:Int):=by omega
 have i2:(en:Int)<=(s.size:Int):=by omega
 have i3:(0:Int)<=(row:Int):=by omega
 rw[hr];have hI:∀q:Bool,(Sc.isText least (Sc.fw r)=q)↔(decide (least≠-1/\Sc.mark (Sc.fw r)=0/\(Sc.run Sc.blk (Sc.fw r)=(Sc.fw r).length\/least<=Sc.run Sc.xX (Sc.fw r)))=q):=λq=>Iff.rfl
 have hln:=Sc.gJ r;obtain⟨m,hm⟩:=fq (Sc.mark (Sc.fw r));obtain⟨rb,hrb⟩:=fq (Sc.run Sc.blk (Sc.fw r));obtain⟨rs,hrs⟩:=fq (Sc.run Sc.xX (Sc.fw r));obtain⟨R,hR⟩:=fq (Sc.isText least (Sc.fw r));have hR2:=(hI R).1 hR;rw[hm,hrb,hrs,hln]at hR2;simp only[hm]at aa;simp only[hrb]at ae;simp only[hrs]at af;rw[hR];obtain⟨ag,ah,aj,HR,HM,HX⟩:=kJ aa ae af hR2 hM hr;have hx:∀a e:Nat,a=row->e=en->s.extract a e=r:=λa e h1 h2=>by rw[h1,h2];exact hr
 clear hI hR hR2 hm hrb hrs aa ae af hM hx c1 c2 c5 c6 c8 hln;by_cases hle:least=-1
 ·subst hle;have hf:R=false:=by rw[<-HR.out];simp
  subst hf
  go_enter func54,ntmps54
  go_wp2_with fail
  go_big_quiet (fail)
  have hb:=ji (fI w.heap.size w) nq;go_wp2_with fail
  go_ret;exact⟨rfl,hb⟩
 have hlb:(least==-1)=false:=iW.2 hle;by_cases hmk:m=0
 ·subst hmk;by_cases hbl:rb=r.size
  ·subst hbl;have hf:R=true:=by rw[<-HR.out];simp[hle]
   subst hf
   go_enter func54,ntmps54
   go_wp2_with fail
   go_big_quiet (fail)
   have hb:=ji (fI w.heap.size w) nq;go_wp2_with fail
   refine(ag.out _).mono ?_;rintro e w1 ⟨rfl,rfl⟩;go_wp2_with fail
   refine BJ (S:=λ_=>True) (by kernel_rfl) (trivial) (λhH=>?_);refine gY 0 (.string r) rfl (by kernel_rfl) rfl fC (λW hW=>by go_simp) hH ?_;refine gY 2 (.string r) rfl (by kernel_rfl) rfl fC (λW hW=>by go_simp) hH ?_;refine gY 3 (.int .i64 r.size) rfl (by kernel_rfl) rfl fC (λW hW=>by go_simp) hH ?_;refine vB 1 (by kernel_rfl) rfl λK hK=>?_
   go_simp;refine(ah.out _).mono ?_;rintro e w2 ⟨rfl,hb2⟩;go_simp;refine hK.out _ _ (trivial) (λhH2=>?_);clear hK K;try simp only[Act.put,fK,fP,fO]
   refine gY 4 (.bool true) rfl (by kernel_rfl) rfl fC (λW hW=>by go_simp) hH2 ?_;refine gY 5 (.bool true) rfl (by kernel_rfl) rfl fC (λW hW=>by go_simp) hH2 ?_;refine l6 (i:=6) (oi:=⟨_,_,_,_,_,_⟩) (v:=undef) rfl (by kernel_rfl) (by kernel_rfl) (by kernel_rfl) fC (Or.inr ⟨rfl,rfl⟩) hH2 ?_;try simp only[Act.put,fK,fP,fO]
   refine l6 (i:=7) (oi:=⟨_,_,_,_,_,_⟩) (v:=undef) rfl (by kernel_rfl) (by kernel_rfl) (by kernel_rfl) fC (Or.inr ⟨rfl,rfl⟩) hH2 ?_;try simp only[Act.put,fK,fP,fO]
   refine l6 (i:=8) (oi:=⟨_,_,_,_,_,_⟩) (v:=undef) rfl (by kernel_rfl) (by kernel_rfl) (by kernel_rfl) fC (Or.inr ⟨rfl,rfl⟩) hH2 ?_;try simp only[Act.put,fK,fP,fO]
   refine l6 (i:=9) (oi:=⟨_,_,_,_,_,_⟩) (v:=undef) rfl (by kernel_rfl) (by kernel_rfl) (by kernel_rfl) fC (Or.inr ⟨rfl,rfl⟩) hH2 ?_;try simp only[Act.put,fK,fP,fO]
   refine l6 (i:=10) (oi:=⟨_,_,_,_,_,_⟩) (v:=undef) rfl (by kernel_rfl) (by kernel_rfl) (by kernel_rfl) fC (Or.inr ⟨rfl,rfl⟩) hH2 ?_;try simp only[Act.put,fK,fP,fO]
   refine l6 (i:=11) (oi:=⟨_,_,_,_,_,_⟩) (v:=undef) rfl (by kernel_rfl) (by kernel_rfl) (by kernel_rfl) fC (Or.inr ⟨rfl,rfl⟩) hH2 ?_;try simp only[Act.put,fK,fP,fO]
   refine l6 (i:=12) (oi:=⟨_,_,_,_,_,_⟩) (v:=undef) rfl (by kernel_rfl) (by kernel_rfl) (by kernel_rfl) fC (Or.inr ⟨rfl,rfl⟩) hH2 ?_;try simp only[Act.put,fK,fP,fO]
   refine gY 13 (.bool true) rfl (by kernel_rfl) rfl fC (λW hW=>by go_simp) hH2 ?_;refine gY 14 (.bool true) rfl (by kernel_rfl) rfl fC (λW hW=>by go_simp) hH2 ?_;refine yM (by kernel_rfl) ?_ _;go_wp2_with fail
   go_ret;exact⟨rfl,hb.trans (((fI _ _).drew.trans (hb2.mono (fB _))).mono hb.size)⟩
  have hne:((rb:Int)==(r.size:Int))=false:=iW.2 (by omega);have hf:R=decide (least<=(rs:Int)):=by rw[<-HR.out];simp[hle,hbl]
  subst hf;have hdl:decide ((rs:Int)>=least)=decide (least<=(rs:Int)):=rfl
  go_enter func54,ntmps54
  go_wp2_with fail
  go_big_quiet (fail)
  have hb:=ji (fI w.heap.size w) nq;have ai:=eZ (HM.out.below hb);obtain⟨W,hW⟩:=fq (w.drewN nq);rw[hW]at ai hb⊢;clear hW c0 c3 c4 c7;have c7:=ai.out.c.2.2.2.2.2.2.2.1;go_wp2_with fail
  refine(ag.out _).mono ?_;rintro e w1 ⟨rfl,rfl⟩;go_wp2_with fail
  refine BJ (S:=λwx=>wx.cell? ⟨b,7,none⟩=some (.int .i64 least)) (by kernel_rfl) (c7) (λhH=>?_);refine gY 0 (.string r) rfl (by kernel_rfl) rfl fC (λW hW=>by go_simp) hH ?_;refine gY 2 (.string r) rfl (by kernel_rfl) rfl fC (λW hW=>by go_simp) hH ?_;refine gY 3 (.int .i64 r.size) rfl (by kernel_rfl) rfl fC (λW hW=>by go_simp) hH ?_;refine vB 1 (by kernel_rfl) rfl λK hK=>?_
  go_simp;refine(ah.out _).mono ?_;rintro e w2 ⟨rfl,hb2⟩;have d7:=fu hb2 (show W.drew.cell? ⟨b,7,none⟩=some (.int .i64 least)from c7);go_simp;refine hK.out _ _ (d7) (λhH2=>?_);clear hK K;try simp only[Act.put,fK,fP,fO]
  refine gY 4 (.bool false) rfl (by kernel_rfl) rfl fC (λW hW=>by go_simp) hH2 ?_;refine gY 5 (.bool false) rfl (by kernel_rfl) rfl fC (λW hW=>by go_simp) hH2 ?_;refine gY 6 (.string r) rfl (by kernel_rfl) rfl fC (λW hW=>by go_simp) hH2 ?_;refine gY 8 (.pointer (some ⟨b,0,none⟩)) rfl (by kernel_rfl) rfl fC (λW hW=>by go_simp) hH2 ?_;refine gY 9 (.pointer (some ⟨b,0,none⟩)) rfl (by kernel_rfl) rfl fC (λW hW=>by go_simp) hH2 ?_;refine gY 10 (.pointer (some ⟨b,7,none⟩)) rfl (by kernel_rfl) rfl fC (λW hW=>by go_simp) hH2 ?_;refine gY 11 (.int .i64 least) rfl (by kernel_rfl) rfl fC (λW hW=>by go_simp) hH2 ?_;refine vB 7 (by kernel_rfl) rfl λK hK=>?_
  go_simp;refine(aj.out _).mono ?_;rintro e w3 ⟨rfl,hb3⟩;have e7:=fu hb3 d7;go_simp;refine hK.out _ _ (e7) (λhH2=>?_);clear hK K;try simp only[Act.put,fK,fP,fO]
  refine gY 12 (.bool (decide (least<=(rs:Int)))) rfl (by kernel_rfl) rfl fC (λW hW=>by go_simp) hH2 ?_;refine gY 13 (.bool (decide (least<=(rs:Int)))) rfl (by kernel_rfl) rfl fC (λW hW=>by go_simp) hH2 ?_;refine gY 14 (.bool (decide (least<=(rs:Int)))) rfl (by kernel_rfl) rfl fC (λW hW=>by go_simp) hH2 ?_;refine yM (by kernel_rfl) ?_ _;go_wp2_with fail
  go_ret;exact⟨rfl,hb.trans ((((fI W.heap.size W).drew.trans (hb2.mono (fB _))).trans (hb3.mono hb2.size)).mono hb.size)⟩
 have ak:=Yp m (by omega);have hf:R=false:=by rw[<-HR.out];simp[hmk]
 subst hf;generalize kI m=z at*;have av:(z !=-1)=true:=by simp[bne,ak]
 go_enter func54,ntmps54
 go_wp2_with fail
 go_big_quiet (fail)
 have hb:=ji (fI w.heap.size w) nq;go_wp2_with fail
 refine(ag.out _).mono ?_;rintro e w1 ⟨rfl,rfl⟩;go_wp2_with fail
 go_ret;exact⟨rfl,hb⟩
end
section
open Go.RowKit
open Sg
open Sq
theorem oO.low{w w':World}{b:Nat}(h:oO w)(hb:Below b w w')(h1:0<b)(h2:1<b):oO w':=by
 refine⟨λc hc=>?_,λi hi=>⟨?_,?_⟩⟩
 ·rw[hb.cell (p:=⟨0,c,none⟩) h1];exact h.1 c hc
 ·rw[hb.cell (p:=⟨1,2*i,none⟩) h2];exact(h.2 i hi).1
 rw[hb.cell (p:=⟨1,2*i+1,none⟩) h2];exact(h.2 i hi).2
def zz(b:Nat)(s:ByteArray)(ag:List Tk)(p:Nat)(w w':World):Prop:=
 ∃(v':Value)(l':List Tk)(p' row' en' af:Nat)(base' aa:Int)(ae:Bool),Mem w' b s v' p' row' en' af base' aa ae/\Row w' b v' l'/\Sc.tC (Sc.fw s) ag l' af aa p'/\p<p'/\p'<=s.size/\Below b w w'
theorem QL(b:Nat)(s:ByteArray)(v:Value)(p aX en0 op:Nat)(base0 least:Int)(aU:Bool)(l aB:List Tk)(w:World)(hM:Mem w b s v p aX en0 op base0 least aU)(hO:Row w b v l)(hT:oO w)(hg1:0<b)(hg2:1<b)(hs:s.size<=16384)(hp:p<s.size)(hG:Sc.tC (Sc.fw s) aB l op least p):
 Calls prog 32 #[.pointer (some ⟨b,0,none⟩)] w λe w'=>e=.returned (.tuple #[])/\zz b s aB p w w':=by
 obtain⟨c0,c1,c2,c3,c4,c5,c6,c7,c8⟩:=hM.c;have hln:=Sc.gJ s;obtain⟨tx,htx⟩:=fq (s.extract p s.size);have hnt:Sc.fw tx=(Sc.fw s).drop p:=by rw[<-htx,Sc.lz]
 have hrs:=λW=>P7 tx W (by rw[<-htx,nV];omega)
 rw[hnt]at hrs;have aF:=Sc.wI ((Sc.fw s).drop p);rw[Sc.tZ]at aF;obtain⟨rn,hrn⟩:=fq (Sc.jI ((Sc.fw s).drop p));rw[hrn]at hrs aF;obtain⟨E,hE⟩:=fq (p+rn);have e1:(p:Int)+(rn:Int)=(E:Int):=by omega
 have w1:IntKind.i64.wrap (E:Int)=(E:Int):=qL _ (by omega);have i1:(p:Int)<=(s.size:Int):=by omega
 have i0:(0:Int)<=(p:Int):=by omega
 have aY:E<=s.size:=by omega
 obtain⟨bP,HM,HO,HT,HG,aK⟩:=kJ hrs hM hO hT hG hrn;obtain⟨HE,bQ⟩:=fT hE hM.lt;clear hM hO hT hG hrs hrn hE hnt c1 c3 c4 c5 c6 c7 c8 aF
 go_enter func32,ntmps32
 go_wp2_with fail
 refine BJ (S:=λwx=>wx.cell? ⟨b,0,none⟩=some (.string s)/\wx.cell? ⟨b,2,none⟩=some (.int .i64 p)) (by kernel_rfl) (⟨c0,c2⟩) (λhH=>?_);refine gY 0 (.pointer (some ⟨b,0,none⟩)) rfl (by kernel_rfl) rfl fC (λW hW=>by go_simp) hH ?_;refine gY 1 (.pointer (some ⟨b,0,none⟩)) rfl (by kernel_rfl) rfl fC (λW hW=>by go_simp) hH ?_;refine gY 2 (.pointer (some ⟨b,0,none⟩)) rfl (by kernel_rfl) rfl fC (λW hW=>by go_simp) hH ?_;refine gY 3 (.pointer (some ⟨b,0,none⟩)) rfl (by kernel_rfl) rfl fC (λW hW=>by go_simp) hH ?_;refine gY 4 (.pointer (some ⟨b,2,none⟩)) rfl (by kernel_rfl) rfl fC (λW hW=>by go_simp) hH ?_;refine gY 5 (.int .i64 p) rfl (by kernel_rfl) rfl fC (λW hW=>?_) hH ?_
 ·obtain⟨z0,z2⟩:=hW;go_simp
 refine gY 6 (.pointer (some ⟨b,0,none⟩)) rfl (by kernel_rfl) rfl fC (λW hW=>by go_simp) hH ?_;refine gY 7 (.pointer (some ⟨b,0,none⟩)) rfl (by kernel_rfl) rfl fC (λW hW=>by go_simp) hH ?_;refine gY 8 (.pointer (some ⟨b,2,none⟩)) rfl (by kernel_rfl) rfl fC (λW hW=>by go_simp) hH ?_;refine gY 9 (.int .i64 p) rfl (by kernel_rfl) rfl fC (λW hW=>?_) hH ?_
 ·obtain⟨z0,z2⟩:=hW;go_simp
 refine gY 10 (.pointer (some ⟨b,0,none⟩)) rfl (by kernel_rfl) rfl fC (λW hW=>by go_simp) hH ?_;refine gY 11 (.pointer (some ⟨b,0,none⟩)) rfl (by kernel_rfl) rfl fC (λW hW=>by go_simp) hH ?_;refine gY 12 (.pointer (some ⟨b,0,none⟩)) rfl (by kernel_rfl) rfl fC (λW hW=>by go_simp) hH ?_;refine gY 13 (.string s) rfl (by kernel_rfl) rfl fC (λW hW=>?_) hH ?_
 ·obtain⟨z0,z2⟩:=hW;go_simp
 refine gY 14 (.pointer (some ⟨b,0,none⟩)) rfl (by kernel_rfl) rfl fC (λW hW=>by go_simp) hH ?_;refine gY 15 (.pointer (some ⟨b,0,none⟩)) rfl (by kernel_rfl) rfl fC (λW hW=>by go_simp) hH ?_;refine gY 16 (.pointer (some ⟨b,2,none⟩)) rfl (by kernel_rfl) rfl fC (λW hW=>by go_simp) hH ?_;refine gY 17 (.int .i64 p) rfl (by kernel_rfl) rfl fC (λW hW=>?_) hH ?_
 ·obtain⟨z0,z2⟩:=hW;go_simp
 refine gY 18 (.string tx) rfl (by kernel_rfl) rfl fC (λW hW=>by go_simp) hH ?_;refine vB 19 (by kernel_rfl) rfl λK hK=>?_
 go_simp;refine(bP.out _).mono ?_;rintro e w2 ⟨rfl,hb2⟩;have M2:=HM.out.below ((fI w.heap.size w).drew.trans (hb2.mono (fB _)));have d0:=M2.c.1;have d2:=M2.c.2.2.1;have d3:=M2.c.2.2.2.1;have f3:=M2.f 3;have aZ:=eZ M2;clear M2;go_simp;refine hK.out _ _ (⟨d0,d2⟩) (λhH2=>?_);clear hK K;try simp only[Act.put,fK,fP,fO]
 refine gY 20 (.int .i64 E) rfl (by kernel_rfl) rfl fC (λW hW=>by go_simp) hH2 ?_;refine gY 21 (.pointer (some ⟨b,0,none⟩)) rfl (by kernel_rfl) rfl fC (λW hW=>by go_simp) hH2 ?_;refine gY 22 (.pointer (some ⟨b,3,none⟩)) rfl (by kernel_rfl) rfl fC (λW hW=>by go_simp) hH2 ?_;refine vB 23 (by kernel_rfl) rfl λK hK=>?_
 go_simp;refine hK.out _ _ (⟨tQ (o:=3) (by decide) d0,tQ (o:=3) (by decide) d2⟩) (λhH2=>?_);clear hK K;try simp only[Act.put,fK,fP,fO]
 have M3:=aZ.out.YO p;have g4:=M3.f 4;have bR:=M3.c.2.2.2.2.1;have aL:=eZ M3;clear M3 d0 d2 d3 f3;refine gY 24 (.pointer (some ⟨b,0,none⟩)) rfl (by kernel_rfl) rfl fC (λW hW=>by go_simp) hH2 ?_;refine gY 25 (.pointer (some ⟨b,4,none⟩)) rfl (by kernel_rfl) rfl fC (λW hW=>by go_simp) hH2 ?_;refine vB 26 (by kernel_rfl) rfl λK hK=>?_
 go_simp;refine hK.out _ _ (⟨tQ (o:=4) (by decide) aL.out.c.1,tQ (o:=4) (by decide) aL.out.c.2.2.1⟩) (λhH2=>?_);clear hK K;try simp only[Act.put,fK,fP,fO]
 refine yM (by kernel_rfl) ?_ _;have hlow:Below b w w2:=((fI w.heap.size w).drew.trans (hb2.mono (fB _))).mono (nX bQ.out);have aG:=eZ (aL.out.YP E);have bf:=eZ (iw (iw (show Row w2 b v l from fQ HO.out ((fI w.heap.size w).drew.trans (hb2.mono (fB _)))) 3 (.int .i64 p)) 4 (.int .i64 E));have bg:=eZ (iy (iy hlow (fB b) 3 (.int .i64 p)) (fB b) 4 (.int .i64 E));clear hlow hb2 aZ aL HO HM hH hH2 c0 c2 g4 bR;generalize (w2.setCell ⟨b,3,none⟩ (.int .i64 p)).setCell ⟨b,4,none⟩ (.int .i64 E)=W4 at*;obtain⟨c0,c1,c2,c3,c4,c5,c6,c7,c8⟩:=aG.out.c;have f6:=aG.out.f 6;have f8:=aG.out.f 8;clear c0 c1 c2 c3 c4 c5 c7;go_wp2_with fail
 have aM:=eZ ((aG.out.VK (-1)).Nf true);have bn:=eZ (iw (iw bf.out 6 (.int .i64 (-1))) 8 (.bool true));have bq:=eZ (iy (iy bg.out (fB b) 6 (.int .i64 (-1))) (fB b) 8 (.bool true));clear aG bf bg c6 c8 f6 f8;generalize (W4.setCell ⟨b,6,none⟩ (.int .i64 (-1))).setCell ⟨b,8,none⟩ (.bool true)=W5 at*;obtain⟨tb,htb⟩:=fq (s.extract E s.size);have hnb:Sc.fw tb=(Sc.fw s).drop E:=by rw[<-htb,Sc.lz]
 obtain⟨B,hB⟩:=fq (Sc.qa ((Sc.fw s).drop E));have bz:=Sc.zb ((Sc.fw s).drop E);rw[Sc.tZ,hB]at bz;have bS:=eZ (λW=>by have:=Jh tb W;rw[hnb,hB]at this;exact this);have aN:=eZ hB;have j1:(E:Int)<=(s.size:Int):=by omega
 have j0:(0:Int)<=(E:Int):=by omega
 obtain⟨c0,c1,c2,c3,c4,c5,c6,c7,c8⟩:=aM.out.c;clear c1 c2 c3 c5 c6 c7 c8 hnb hB htx
 go_big_quiet (exact(bS.out _).mono λ_ _ h=>⟨h.1,_,h.2⟩)
 have hbq:=ji (fI W5.heap.size W5) nq;have ax:=eZ (aM.out.below hbq);have aO:=eZ (show Row (W5.drewN nq) b v l from fQ bn.out hbq);have aP:=eZ (bq.out.mE (fB b) (hbq.mono (nX aM.out.lt)));clear hbq aM bn bq c0 c4;generalize W5.drewN nq=W6 at*;have hrow:Sc.fw (s.extract p E)=Sc.jJ ((Sc.fw s).drop p):=by
  rw[Sc.wT,Sc.jJ,aK.out,<-HE.out,BB]
 have hIs:=Uq b s v p p E op (-1) least true W6 ax.out (by omega) (by have:=HE.out;omega) aY HG.out.least;rw[hrow]at hIs;have aC:=eZ hIs;clear hIs htb;cases hit:Sc.isText least (Sc.jJ ((Sc.fw s).drop p))with
 |true=>
  rw[hit]at aC;obtain⟨n,hn⟩:=fq (rn+B);have e2:(E:Int)-(p:Int)=(rn:Int):=by omega
  have e3:(rn:Int)+(B:Int)=(n:Int):=by omega
  have bY:IntKind.i64.wrap (n:Int)=(n:Int):=qL _ (by omega);have w3:IntKind.i64.wrap (rn:Int)=(rn:Int):=qL _ (by omega);have aQ:=eZ (HG.out.text (n:=n) (by rw[hln];exact hp) hit (by rw[aK.out,mQ,HE.out,aN.out,hn]));have hgl:=aQ.out.2.2;rw[hln]at hgl;go_wp2_with fail
  refine aC.out.mono ?_;rintro e w7 ⟨rfl,hc⟩;have ai:=eZ (ax.out.below hc);have aH:=eZ (show Row w7 b v l from fQ aO.out hc);have aI:=eZ (aP.out.mE (fB b) (hc.mono (nX ax.out.lt)));clear hc ax aO aP aC;obtain⟨c0,c1,c2,c3,c4,c5,c6,c7,c8⟩:=ai.out.c;clear c0 c1 c3 c5 c6 c7 c8 e1 w1;go_wp2_with fail
  refine iA 12 (by kernel_rfl) (by kernel_rfl) ?_;simp only[uA,vG,wh,lQ]
  repeat (go_big_quiet_step (fail))
  refine EX ?_;have bA:Mem w7.drew b s v p p E op (-1) least true:=ai.out;have bB:Row w7.drew b v l:=aH.out;have aj:=Nt 19 n (p+n) 0 p p op E (-1) least true b s v l w7.drew bA bB rfl (qI p) (by omega) (by have:=HG.out.len;omega) (by have:=HG.out.op;omega) (jq _) (by omega);have ak:=eZ aj;clear aj bA bB;go_wp2_with fail
  refine ak.out.mono ?_;rintro e w8 ⟨rfl,v2,bC,af,aA,ag,bD,bE,bF,ho,hle,-,-⟩;rw[show Sc.opens op 19=op from rfl]at ho;rw[eX (by decide)]at hle;subst ho hle;have HD:=eZ (show zz b s aB p w w8 from⟨v2,_,p+n,p,E,op,af,_,ag,bD,bE,aQ.out.1,by have:=aQ.out.2.1;omega,by omega,aI.out.trans ((fI b w7).drew.trans bF)⟩);clear bD bE bF aQ ai aH aI ak;go_wp2_with fail
  refine pW (results_none rfl _ _ _) rfl ?_;exact⟨rfl,HD.out⟩
 |false=>
  rw[hit]at aC;have bG:=eZ (HG.out.row hit);go_wp2_with fail
  refine aC.out.mono ?_;rintro e w7 ⟨rfl,hc⟩;have ai:=eZ (ax.out.below hc);have aH:=eZ (show Row w7 b v l from fQ aO.out hc);have aI:=eZ (aP.out.mE (fB b) (hc.mono (nX ax.out.lt)));clear hc ax aO aP aC;obtain⟨c0,c1,c2,c3,c4,c5,c6,c7,c8⟩:=ai.out.c;have f7:=ai.out.f 7;clear c0 c1 c2 c3 c4 c5 c6 c8 e1 w1;go_wp2_with fail
  have bH:=eZ (ai.out.Si (-1));have bI:=eZ (iw aH.out 7 (.int .i64 (-1)));have bJ:=eZ (iy aI.out (fB b) 7 (.int .i64 (-1)));clear ai aH aI c7 f7;generalize w7.setCell ⟨b,7,none⟩ (.int .i64 (-1))=W8 at*
  go_loopg [] E (λgf wr=>∃(v1:Value)(l1:List Tk)(st:Sc.St)(aa:Nat),Hid (Mem wr b s v1 aa p E st.op st.base st.least st.dash)/\Hid (Row wr b v1 l1)/\Hid (Sc.eu (Sc.fw s) aB l1 st aa)/\Hid (Below b w wr)/\p+st.fG=aa/\aa<=E/\E<=aa+gf)
  case atStart=>exact⟨v,l,Sc.fresh op (-1),p,bH,bI,bG,bJ,rfl,by have:=HE.out;omega,by omega⟩
  case round=>
   obtain⟨v1,l1,st,aa,ay,HOr,ae,aR,aT,hae,hgf⟩:=hrel;have bK:Sc.jI ((Sc.fw s).drop aa)=E-aa:=by
    have h:=Sc.yh ((Sc.fw s).drop p) (aa-p) (by rw[aK.out];have:=HE.out;omega);rw[mQ,show p+(aa-p)=aa from by omega,aK.out]at h;rw[h];have:=HE.out;omega
   have aD:=eZ bK;clear bK bH bI bJ bG;obtain⟨c0,c1,c2,c3,c4,c5,c6,c7,c8⟩:=ay.out.c;clear c0 c1 c3 c5 c6 c7 c8;by_cases hlt:aa<E
   ·obtain⟨g',rfl⟩:∃g',gk=g'+1:=⟨gk-1,by omega⟩
    have hI:(aa:Int)<(E:Int):=by omega
    have bT:decide ((aa:Int)<(E:Int))=true:=lI hI;go_wp2_with fail
    go_big_quiet (fail)
    have hbq:=ji (fI wr.heap.size wr) nq;have ah:=eZ (ay.out.below hbq);have av:=eZ (show Row (wr.drewN nq) b v1 l1 from fQ HOr.out hbq);have az:=eZ (aR.out.mE (fB b) (hbq.mono (nX ay.out.lt)));clear hbq ay HOr aR c2 c4;generalize wr.drewN nq=W9 at*;have hrw:Sc.fw (s.extract aa E)=Sc.jJ ((Sc.fw s).drop aa):=by
     rw[Sc.wT,Sc.jJ,aD.out]
    have hfc:decide (aa=p)=(st.fG==0):=by rw[nP];simp;omega
    have aS:=Yl b s v1 aa p E st.op st.base st.least st.dash st.blank (decide (aa=p)) l1 W9 ah.out av.out (HT.out.low az.out hg1 hg2) (by omega) (by have:=ae.out.len;omega) (by omega) hlt aY rfl (λhq=>ae.out.last (by have:=of_decide_eq_false hq;omega));rw[hrw,hfc]at aS;obtain⟨k,n,hkn⟩:∃k n,Sc.next st.op st.dash st.blank (st.fG==0) (Sc.jJ ((Sc.fw s).drop aa))=(k,n):=⟨_,_,rfl⟩
    rw[hkn,show pr (k,n)=.tuple #[.int .i64 k,.int .i64 n]from rfl]at aS;have aV:=eZ (ae.out.on (by rw[aD.out];omega) hkn);have hn1:=aV.out.2.1;have hn2:=aV.out.2.2;rw[aD.out]at hn2;have bL:=eZ aS;clear aS hrw hkn hfc;go_wp2_with fail
    refine bL.out.mono ?_;rintro e wa ⟨rfl,hc⟩;have bM:=ah.out.below hc;have bN:Row wa b v1 l1:=fQ av.out hc;have bO:=eZ (az.out.mE (fB b) (hc.mono (nX ah.out.lt)));have aj:=Nt k n (aa+n) st.fG aa p st.op E st.base st.least st.dash b s v1 l1 wa bM bN rfl aT (by omega) (by have:=ae.out.len;omega) (by have:=ae.out.op;omega) ae.out.base.1 (by have:=ae.out.base.2;omega);have ak:=eZ aj;clear aj bM bN hc ah av az bL;go_wp2_with fail
    refine ak.out.mono ?_;rintro e wb ⟨rfl,v2,bC,af,aA,ag,aJ,hOb,hBb,rfl,rfl,rfl,rfl⟩;obtain⟨bU,bV,bW⟩:=jF aJ hOb (bO.out.trans hBb);clear aJ hOb hBb ak bO ae;go_wp2_with fail
    go_roundg g'
    case measure=>omega
    case rel=>exact⟨v2,_,Sc.take st k n,aa+n,bU,bV,eZ aV.out.1,bW,by show p+(st.fG+n)=aa+n;omega,by omega,by omega⟩
   obtain rfl:aa=E:=by omega
   have bT:decide ((aa:Int)<(aa:Int))=false:=jE (by omega);rw[uC]at aD;clear hlt hgf hae;go_wp2_with fail
   go_big_quiet (fail)
   have hbq:=ji (fI wr.heap.size wr) nq;have ah:=eZ (ay.out.below hbq);have av:=eZ (show Row (wr.drewN nq) b v1 l1 from fQ HOr.out hbq);have az:=eZ (aR.out.mE (fB b) (hbq.mono (nX ay.out.lt)));clear hbq ay HOr aR c2 c4;generalize wr.drewN nq=W9 at*;by_cases hB0:0<B
   ·have hBI:(0:Int)<(B:Int):=by omega
    have hbr:=ae.out.brk aD.out (by rw[aN.out];exact hB0);rw[aN.out,hln]at hbr;have aj:=Nt 1 B (aa+B) st.fG aa p st.op aa st.base st.least st.dash b s v1 l1 W9 ah.out av.out rfl aT (by omega) (by have:=ae.out.len;omega) (by have:=ae.out.op;omega) ae.out.base.1 (by have:=ae.out.base.2;omega);obtain⟨ak,aW⟩:=fT aj hbr;have bX:=eZ (show p<aa+B by omega);clear aj hbr ah av;go_wp2_with fail
    refine ak.out.mono ?_;rintro e wb ⟨rfl,v2,bC,af,aA,ag,aJ,hOb,hBb,ho,hle,-,-⟩;rw[show Sc.opens st.op 1=st.op from rfl]at ho;rw[eX (by decide)]at hle;subst ho hle;have HD:=eZ (show zz b s aB p w wb from⟨v2,_,aa+B,p,aa,st.op,af,_,ag,aJ,hOb,aW.out.1,bX.out,aW.out.2,az.out.trans hBb⟩);clear aJ hOb hBb ak aW;go_wp2_with fail
    go_end0
    exact⟨rfl,HD.out⟩
   obtain rfl:B=0:=by omega
   have hst:=ae.out.stop aD.out (by rw[aN.out];decide);have hat:s.size<=aa:=by
    have:=congrArg List.length hst.1;rw[Sc.tZ]at this;simp at this;omega
   have HD:=eZ (show zz b s aB p w W9 from⟨v1,l1,aa,p,aa,st.op,st.base,st.least,st.dash,ah.out,av.out,hst.2,by omega,by omega,az.out⟩);clear hst hat ah av az;go_wp2_with fail
   go_end0
   exact⟨rfl,HD.out⟩
end
end Go.Proofs.YtmkkdjpebbdikaaGreatDoor

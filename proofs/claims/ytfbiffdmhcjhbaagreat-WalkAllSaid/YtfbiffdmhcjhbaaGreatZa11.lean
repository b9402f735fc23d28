import Derived.Test.YtfbiffdmhcjhbaaGreatZa06
import Derived.Test.YtfbiffdmhcjhbaaGreatZa07
import Derived.Laws.BitsLemmas
import Derived.Laws.RangeAny
import Derived.Lib.Strings
import Derived.StillTail
set_option linter.all false
set_option maxHeartbeats 16000000
set_option maxRecDepth 100000
set_option synthInstance.maxSize 4000
set_option synthInstance.maxHeartbeats 0
namespace Go.Proofs.YtfbiffdmhcjhbaaGreat
open Go.RowKit Tryz
def OV:=@run_equalIn_agg
namespace Es
open Go.Lib Go.RowKit
def Aw(c:Int):Option Int:=if 48<=c/\c<=57 then some (c-48)else if 97<=c/\c<=102 then some (c-97+10)else if 65<=c/\c<=70 then some (c-65+10)else none
theorem zO{c d:Int}(h:Aw c=some d):48<=c/\c<=102/\0<=d/\d<=15:=by
 unfold Aw at h
 (repeat' split at h)<;>simp at h<;>omega
def pK(c:Int):Option Int:=
 if c=48 then some 0 else if c=116 then some 9 else if c=110 then some 10 else if c=114 then some 13 else if c=101 then some 27
 else if c=34\/c=47\/c=92\/c=32 then some c else none
def jy(c:Int):Nat:=if c=85 then 8 else if c=117 then 4 else if c=120 then 2 else 0
theorem JF(c:Int):jy c=0\/jy c=2\/jy c=4\/jy c=8:=by
 unfold jy
 (repeat' split)<;>simp
def num:List UInt8->Int->Option Int
 |[],v=>some v
 |c::l,v=>match Aw c.toNat with
  |none=>none
  |some d=>num l (16*v+d)
def sign(l:List UInt8):Option Int:=match num l 0 with
 |none=>none
 |some v=>if Utf8.valid v then some v else none
def esc:List UInt8->Option (Int×Nat)
 |a::c::rest=>
  if a.toNat=92 then
   match pK c.toNat with
   |some v=>some (v,2)
   |none=>if jy c.toNat=0\/rest.length<jy c.toNat then none else match sign (rest.take (jy c.toNat))with
    |none=>none
    |some v=>some (v,2+jy c.toNat)
  else none
 |_=>none
def QO:Option (Int×Nat)->ByteArray
 |none=>⟨#[]⟩
 |some (v,_)=>Utf8.encode v
def lenOf:Option (Int×Nat)->Int
 |none=>0
 |some (_,n)=>n
theorem Ga{s:List UInt8}(h:s.length<2):esc s=none:=by
 match s,h with
 |[],_=>rfl
 |[_],_=>rfl
theorem yK{a c:UInt8}{r:List UInt8}(h:a.toNat≠92):esc (a::c::r)=none:=by rw[esc,eQ h]
theorem xF{a c:UInt8}{r:List UInt8}{v:Int}(h:a.toNat=92)(hs:pK c.toNat=some v):esc (a::c::r)=some (v,2):=by rw[esc,eT h,hs]
theorem oP{a c:UInt8}{r:List UInt8}(h:a.toNat=92)(hs:pK c.toNat=none)(hd:jy c.toNat=0\/r.length<jy c.toNat):esc (a::c::r)=none:=by rw[esc,eT h,hs];simp only;rw[eT hd]
theorem vH{a c:UInt8}{r:List UInt8}(h:a.toNat=92)(hs:pK c.toNat=none)(hd:jy c.toNat≠0)(hl:jy c.toNat<=r.length)(hn:sign (r.take (jy c.toNat))=none):esc (a::c::r)=none:=by
 rw[esc,eT h,hs];simp only;rw[eQ (by omega),hn]
theorem tL{a c:UInt8}{r:List UInt8}{v:Int}(h:a.toNat=92)(hs:pK c.toNat=none)(hd:jy c.toNat≠0)(hl:jy c.toNat<=r.length)(hn:sign (r.take (jy c.toNat))=some v):esc (a::c::r)=some (v,2+jy c.toNat):=by
 rw[esc,eT h,hs];simp only;rw[eQ (by omega),hn]
theorem get_at(s:ByteArray)(k:Nat)(h:k<s.size):s[k]=s.get! k:=by
 simp[ByteArray.get!,getElem!_pos,h];rfl
theorem JG(s:ByteArray)(h:2<=s.size):s.data.toList=s[0]'(by omega)::s[1]'(by omega)::s.data.toList.drop 2:=by
 have hl:s.data.toList.length=s.size:=(size_eq s).symm;generalize hL:s.data.toList=L at*
 match L,hl with
 |a::b::r,_=>
  have e0:s[0]'(by omega)=a:=by
   rw[get_at,<-getD_get!',hL];rfl
  have e1:s[1]'(by omega)=b:=by
   rw[get_at,<-getD_get!',hL];rfl
  rw[e0,e1];rfl
 |[],hl=>simp at hl;omega
 |[_],hl=>simp at hl;omega
theorem ext_list(s:ByteArray)(a b:Nat):(s.extract a b).data.toList=(s.data.toList.drop a).take (b-a):=by
 rw[extract_data]
end Es
namespace Qo
open Es
open Go.Lib Go.RowKit
def rP:List UInt8->List UInt8×Bool
 |[]=>([],false)
 |[c]=>if c=39 then([],true)else([c],false)
 |c::d::r=>if c=39 then(if d=39 then(39::(rP r).1,(rP r).2)else([],true))else(c::(rP (d::r)).1,(rP (d::r)).2)
theorem Po(c:UInt8)(r:List UInt8)(h:c≠39):rP (c::r)=(c::(rP r).1,(rP r).2):=by
 cases r with
 |nil=>simp[rP,h]
 |cons d t=>rw[rP,eQ h]
theorem My(r:List UInt8):rP (39::39::r)=(39::(rP r).1,(rP r).2):=by rw[rP,eT rfl,eT rfl]
theorem MB(d:UInt8)(r:List UInt8)(h:d≠39):rP (39::d::r)=([],true):=by rw[rP,eT rfl,eQ h]
def vO:Nat->Nat->List UInt8->List UInt8×List Nat×Bool
 |0,_,_=>([],[],false)
 |_+1,_,[]=>([],[],false)
 |f+1,p,c::r=>
  if c=34 then([],[],true)
  else if c=92 then(match esc (c::r)with
   |some (v,k)=>((Utf8.encode v).data.toList++(vO f (p+k) ((c::r).drop k)).1,(vO f (p+k) ((c::r).drop k)).2)
   |none=>(c::(vO f (p+1) r).1,p::(vO f (p+1) r).2.1,(vO f (p+1) r).2.2))
  else(c::(vO f (p+1) r).1,(vO f (p+1) r).2)
theorem vI{l:List UInt8}{v:Int}{k:Nat}(h:esc l=some (v,k)):2<=k/\k<=l.length:=by
 match l with
 |[]=>cases h
 |[_]=>cases h
 |a::c::rest=>
  by_cases ha:a.toNat=92
  ·cases hs:pK c.toNat with
   |some u=>
    rw[xF ha hs]at h;injection h with h;injection h with h1 h2;subst h2;simp
   |none=>
    by_cases hd:jy c.toNat=0\/rest.length<jy c.toNat
    ·rw[oP ha hs hd]at h;cases h
    cases hn:sign (rest.take (jy c.toNat))with
    |none=>rw[vH ha hs (by omega) (by omega) hn]at h;cases h
    |some u=>
     rw[tL ha hs (by omega) (by omega) hn]at h;injection h with h;injection h with h1 h2;subst h2;simp;omega
  rw[yK ha]at h;cases h
theorem wR:∀(f g p:Nat)(l:List UInt8),l.length<=f->l.length<=g->vO f p l=vO g p l
 |0,g,p,l,h,_=>by
  obtain rfl:l=[]:=oD (by omega);cases g<;>rfl
 |f+1,0,p,l,_,h=>by
  obtain rfl:l=[]:=oD (by omega);rfl
 |f+1,g+1,p,[],_,_=>rfl
 |f+1,g+1,p,c::r,hf,hg=>by
  have h1:=wR f g (p+1) r (by simp at hf;omega) (by simp at hg;omega);rw[vO,vO,h1];by_cases q:c=34
  ·rw[eT q,eT q]
  rw[eQ q,eQ q];by_cases q2:c=92
  ·rw[eT q2,eT q2];cases he:esc (c::r)with
   |none=>rfl
   |some x=>
    obtain⟨v,k⟩:=x;have:=vI he;have h2:=wR f g (p+k) ((c::r).drop k) (by rw[iq];omega) (by rw[iq];omega);simp only[h2]
  rw[eQ q2,eQ q2]
def qo(p:Nat)(l:List UInt8):List UInt8×List Nat×Bool:=vO l.length p l
theorem MC(p:Nat):qo p []=([],[],false):=rfl
theorem ME(p:Nat)(r:List UInt8):qo p (34::r)=([],[],true):=by
 unfold qo;rw[gy,vO,eT rfl]
theorem Pp(p:Nat)(c:UInt8)(r:List UInt8)(h1:c≠34)(h2:c≠92):qo p (c::r)=(c::(qo (p+1) r).1,(qo (p+1) r).2):=by
 unfold qo;rw[gy,vO,eQ h1,eQ h2]
theorem MF(p:Nat)(r:List UInt8)(v:Int)(k:Nat)(h:esc (92::r)=some (v,k)):qo p (92::r)=((Utf8.encode v).data.toList++(qo (p+k) ((92::r).drop k)).1,(qo (p+k) ((92::r).drop k)).2):=by
 have hl:=vI h;have e:=wR r.length ((92::r).drop k).length (p+k) ((92::r).drop k) (by rw[iq,gy];omega) (fC _);unfold qo;rw[gy,vO,eQ (by decide),eT rfl,h];simp only[e]
theorem MG(p:Nat)(r:List UInt8)(h:esc (92::r)=none):qo p (92::r)=(92::(qo (p+1) r).1,p::(qo (p+1) r).2.1,(qo (p+1) r).2.2):=by
 unfold qo;rw[gy,vO,eQ (by decide),eT rfl,h]
def kU(kind:Int)(l:List UInt8):List UInt8×List Nat×Bool:=
 if l=[]then([],[],false)
 else if kind=15 then(l,[],true)
 else if kind=16 then((rP (l.drop 1)).1,[],(rP (l.drop 1)).2)
 else if kind=17 then qo 1 (l.drop 1)
 else([],[],false)
theorem D7(c:UInt8)(n:Nat)(h:c.toNat=n):c=UInt8.ofNat n:=by
 subst h;exact UInt8.ofNat_toNat.symm
end Qo
namespace Sq
open Go.RowKit
section
variable {α:Type}{E:jV α}{w:World}
theorem gT{P:Program}{t e:TypeId}{bytes:Nat}(T:Ty P E t e bytes){ops:Array Oper}{o:Oper}{act:Act}{K:Act->World->Prop}{Q:Exit->Act->World->Prop}{G:Prop}(hgd:o.guard=none)(x y:Operand)
 (ho:o.op=.call {callee:=.builtin .append,args:=#[x,y],argTypes:=#[t,t]})
 (base:Nat) (v:Value) (l:List α) (hs:act.eval x=v) (hown:w.ownsRow base e E.k v l.length (E.all l)) (b m:Nat) (us:List α) (hm:us.length=m) (hy:act.eval y=.slice (some ⟨b,0,none⟩) m m)
 (hnew:∀j c,(E.all us)[j]?=some c->w.cell? ⟨b,j,none⟩=some c) (hmax:l.length+m<=maxLen) (hlen:(l.length+m)*bytes<=140737488355328) (hbase:base<=w.heap.size)
 (h:∀v' w',w'.ownsRow base e E.k v' (l++us).length (E.all (l++us))->w.grownBy w' v.ownBlock->(v'.ownBlock=v.ownBlock\/v'.ownBlock=some w.heap.size)->K (act.put o.dst v') w'):
 if Region.wanted o (yielded ops act.tmps)=true then Oper.wp P o act w K Q else G:=by
 obtain⟨i,z,hi,hz,hsz,hby,hzs⟩:=T.parts;have hw:Region.wanted o (yielded ops act.tmps)=true:=by simp[Region.wanted,hgd]
 rw[eT hw];obtain⟨v',w',hrun,q1,q2,_,q3⟩:=run_append_own_at (P:=P) (w:=w) base t o.type e i z E.k bytes T.ht hi hz hsz hby hzs E.pos v l.length (E.all l) hown ⟨b,0,none⟩ m m (E.all us) (by rw[iX,hm]) (λj c hj=>by rw[iy,j5];exact hnew j c hj) (pO E us) hmax hlen hbase;unfold Oper.wp execOp;simp only[ho,resolve,invoke,builtin,Sem.run_bind,Sem.run_pure,Result.andThen_ok,List.map_toArray,qi,xX,hs,hy,hrun];exact h v' w' (by rw[mK,ig,hm];exact q1) q2 q3
theorem il{w':World}{B e size n:Nat}{v:Value}{xs:List Value}(h:w.ownsRow B e size v n xs)(hk:∀g,v.ownBlock=some g->w'.heap[g]?=w.heap[g]?):w'.ownsRow B e size v n xs:=by
 obtain⟨h1,h2⟩:=h;refine⟨h1,?_⟩;rcases h2 with h2|⟨g,cap,cur,hv,hg,hh,hr⟩
 ·exact .inl h2
 exact .inr ⟨g,cap,cur,hv,hg,(hk g (by rw[hv];rfl)).trans hh,hr⟩
end
end Sq
section
open Go.RowKit
open Sq
open Ar
def qC(x:Fl.Dg):List Value:=[.int .i64 x.code,.int .i64 x.f,.int .i64 x.t]
def gD:jV Fl.Dg:=⟨qC,3,by decide,λ_=>rfl,λx u hu=>by
 cases hu with
 |head=>rfl
 |tail _ hu=>cases hu with
  |head=>rfl
  |tail _ hu=>cases hu with
   |head=>rfl
   |tail _ hu=>cases hu⟩
theorem Ll:Ty prog gD 32 89 24:=Ty.of (z:=.agg #[.int .i64 0,.int .i64 0,.int .i64 0]) underlying32 (by kernel_rfl) (by kernel_rfl) rfl (λw=>by kernel_rfl)
structure FP(w w':World)(rb:Nat)(R R':Nat->Prop):Prop where
 size:w.heap.size<=w'.heap.size
 block:∀k,k<w.heap.size->k≠rb->¬R k->w'.heap[k]?=w.heap[k]?
 rows:∀k,R' k->R k\/w.heap.size<=k
theorem FP.trans{a b c:World}{rb:Nat}{R R' aa:Nat->Prop}(h:FP a b rb R R')(g:FP b c rb R' aa):FP a c rb R aa :=
 ⟨jN h.size g.size,λk hk hr hn=>(g.block k (LV hk h.size) hr (λh2=>(h.rows k h2).elim hn (λh3=>absurd hk (Nat.not_lt.2 h3)))).trans (h.block k hk hr hn),
  λk hk=>(g.rows k hk).elim (λh2=>h.rows k h2) (λh2=>.inr (jN h.size h2))⟩
theorem FP.below{w w':World}{rb:Nat}{R:Nat->Prop}(h:Below w.heap.size w w'):FP w w' rb R R:=⟨h.size,λk hk _ _=>h.block k hk,λk hk=>.inl hk⟩
theorem FP.refl(w:World)(rb:Nat)(R:Nat->Prop):FP w w rb R R:=FP.below (fu _ _)
theorem fK{w:World}{B e s n rb:Nat}{v:Value}{xs:List Value}{C:Array Value}{T:TypeId}{fr:Nat×Nat}(h:w.ownsRow B e s v n xs)(hb:w.heap[rb]?=some (.cells C T fr))(hne:e≠T):v.ownBlock≠some rb:=λhg=>by
 rcases h.2 with⟨h1,_⟩|⟨b,cap,cur,hv,_,hh,_⟩
 ·rw[h1]at hg;cases hg
 rw[hv]at hg;obtain rfl:b=rb:=by simpa [Value.ownBlock]using hg
 rw[hh]at hb;injection hb with hb
 injection hb with _ h3
 exact hne h3
end
namespace Ft
open Ar
theorem Bd{l:List Nd}{n:Int}(h:Ck l n):∀x∈l,x.ks.length<=l.length:=by
 intro x hx;obtain⟨i,hi⟩:=rT hx;have hb:∀z∈x.ks,0<z/\z<(l.length:Int):=by
  intro z hz;obtain⟨j,y,rfl,h0,hy,_⟩:=h.kid i x hi z hz;have:=(fT.1 hy).1;omega
 have key:∀(ks:List Int)(m:Int),ks.Pairwise (D4 l)->(∀z∈ks,m<=z/\z<(l.length:Int))->0<=m->(ks.length:Int)<=max 0 ((l.length:Int)-m):=by
  intro ks
  induction ks with
  |nil=>intro m _ _ _;simp;omega
  |cons a r ih=>
   intro m hp hm h0;rw[vQ]at hp;have ha:=hm a (by simp);have:=ih (a+1) hp.2 (λz hz=>⟨by have:=(hp.1 z hz).1;omega,(hm z (by simp[hz])).2⟩) (by omega);rw[gy];omega
 have:=key x.ks 0 (h.ord i x hi) (λz hz=>by have:=hb z hz;omega) (by omega);omega
end Ft
namespace Fl
open Ar
structure mI where
 q:List Nd
 d:List Dg
def lV(q:List Nd)(up:Int)(k f:Nat):List Nd:=
 if up<0 then q++[(⟨k,f,0,up,[],false⟩:Nd)]else match q[up.toNat]? with
  |none=>q++[(⟨k,f,0,up,[],false⟩:Nd)]
  |some p=>(q++[(⟨k,f,0,up,[],false⟩:Nd)]).set up.toNat {p with ks:=p.ks++[(q.length:Int)]}
def vV(q:List Nd)(i t:Nat):List Nd:=match q[i]? with
 |none=>q
 |some x=>q.set i {x with t:=t}
def jX(q:List Nd)(up:Int)(k f t:Nat):List Nd:=vV (lV q up k f) q.length t
def Cz(l:List Tk)(s:mI)(up:Int)(f t code:Nat):mI:=⟨jX s.q up 11 f t,s.d++[⟨code,pF l f,too l (t-1)⟩]⟩
def D8(l:List Tk)(e:Nat)(fo:Option (Nat->Nat->mI->Nat×mI))(up:Int)(p:Nat)(s:mI):Nat×mI:=
 let o:=(lead l e (e-blanks l e p) none (blanks l e p)).1
 let i:=(lead l e (e-blanks l e p) none (blanks l e p)).2
 let fr:=gN o i
 let k:=kd l e i
 if k=13 then(i+1,⟨jX s.q up 8 fr (i+1),s.d⟩)
 else if gF k=true then(i+1,⟨jX s.q up 7 fr (i+1),s.d⟩)
 else if k=18 then(text l e i,⟨jX s.q up 7 fr (text l e i),s.d⟩)
 else if opens k=true then match fo with
  |none=>(balanced l e i,Cz l s up fr (balanced l e i) 10)
  |some fo=>fo s.q.length i ⟨lV s.q up (if k=9 then 10 else 9) fr,s.d⟩
 else match o with
  |some x=>(x.2+1,⟨jX s.q up 7 fr (x.2+1),s.d⟩)
  |none=>(p,s)
def yz(l:List Tk)(s:mI)(c:Nat)(j q:Nat):mI:=
 if q-j<2 then⟨lV s.q c 6 j,s.d⟩
 else⟨jX (keyed (lV s.q c 6 j) s.q.length) s.q.length (if(List.range (q-j)).any (λx=>raw l (j+x)==13)=true then 8 else 7) j (back l (q-1) (j+1)),s.d⟩
def D9(l:List Tk)(e:Nat)(val:Int->Nat->mI->Nat×mI)(aa:Bool)(c:Nat)(j:Nat)(s:mI):Nat×mI:=
 let q:=key l e j
 let n:=s.q.length
 if 0<q then
  let x:=fq l e q
  let r:=val n x (yz l s c j q)
  let ae:=if r.1=x then q else r.1
  (ae,⟨vV r.2.q n ae,r.2.d⟩)
 else if aa=true then
  let r:=val n j ⟨keyed (lV s.q c 6 j) n,s.d⟩
  (r.1,⟨vV r.2.q n r.1,r.2.d⟩)
 else val c j s
def rQ(l:List Tk)(e:Nat)(val:Int->Nat->mI->Nat×mI)(c:Nat)(op:Nat):Nat->Nat->Bool->mI->Nat×mI
 |0,p,_,s=>(p,s)
 |g+1,p,aa,s=>
  let j:=fq l e p
  let k:=kd l e j
  if k=0 then(back l p (op+1),⟨vV s.q c (back l p (op+1)),s.d++[⟨9,pF l op,too l op⟩]⟩)
  else if k=(if raw l op=9 then 11 else 10)then(j+1,⟨vV s.q c (j+1),s.d⟩)
  else if ends k=true then rQ l e val c op g (j+1) aa (Cz l s c j (j+1) 8)
  else if k=7 then
   if aa=true then rQ l e val c op g (j+1) false s
   else rQ l e val c op g (j+1) aa (Cz l s c j (j+1) 8)
  else if aa=true then rQ l e val c op g (jr l e j) aa (Cz l s c j (jr l e j) 8)
  else if 0<key l e j\/begins k=true then rQ l e val c op g (D9 l e val (raw l op==9) c j s).1 true (D9 l e val (raw l op==9) c j s).2
  else rQ l e val c op g (j+1) aa (Cz l s c j (j+1) 8)
def Ea(l:List Tk)(e:Nat):Nat->Int->Nat->mI->Nat×mI
 |0=>D8 l e none
 |d+1=>D8 l e (some (λc op s=>rQ l e (Ea l e d) c op (e-op) (op+1) false s))
theorem oL(q:List Nd)(up:Int)(k f:Nat):(lV q up k f).length=q.length+1:=by
 unfold lV;split
 ·simp
 split<;>simp
theorem oM(q:List Nd)(up:Int)(k f:Nat)(hu:up<q.length):(lV q up k f)[q.length]?=some ⟨k,f,0,up,[],false⟩:=by
 unfold lV;split
 ·simp
 split
 ·simp
 rw[uW (by omega)];simp
theorem Be(q:List Nd)(up:Int)(k f:Nat)(i:Nat)(x:Nd)(hx:q[i]?=some x):(lV q up k f)[i]?=some {x with ks:=if(i:Int)=up then x.ks++[(q.length:Int)]else x.ks}:=by
 have hi:=(fT.1 hx).1;unfold lV;split
 ·rw[qx hi,hx,eQ (by omega)]
 split
 ·rename_i h0 h1;rw[qx hi,hx,eQ (λe=>by rw[<-e,iE,hx]at h1;cases h1)]
 rename_i h0 p hp;by_cases e:(i:Int)=up
 ·subst e;rw[iE,hx]at hp;injection hp with hp;subst hp
  rw[eT rfl,iE,xW (by simp;omega)]
 rw[eQ e,uW (by omega),qx hi,hx]
theorem j3(q:List Nd)(i t:Nat):(vV q i t).length=q.length:=by
 unfold vV;split<;>simp
theorem nY(q:List Nd)(i t j:Nat)(x:Nd)(hx:q[j]?=some x):(vV q i t)[j]?=some {x with t:=if j=i then(t:Int)else x.t}:=by
 have hj:=(fT.1 hx).1;unfold vV;split
 ·rename_i h1;rw[hx,eQ (λe=>by rw[<-e,hx]at h1;cases h1)]
 rename_i y hy;by_cases e:j=i
 ·subst e;rw[hx]at hy;injection hy with hy;subst hy
  rw[xW hj,eT rfl]
 rw[uW (λh=>e h.symm),hx,eQ e]
theorem iB(q:List Nd)(i:Int):(keyed q i).length=q.length:=(lQ q i).1
theorem nH(q:List Nd)(i j:Nat)(x:Nd)(hx:q[j]?=some x):(keyed q i)[j]?=some {x with y:=if j=i then true else x.y}:=by
 have hj:=(fT.1 hx).1;unfold keyed;rw[iE];cases hy:q[i]? with
 |none=>
  dsimp only;rw[hx,eQ (λe=>by rw[<-e,hx]at hy;cases hy)]
 |some y=>
  dsimp only;by_cases e:j=i
  ·subst e;rw[hx]at hy;injection hy with hy;subst hy
   rw[xW hj,eT rfl]
  rw[uW (λh=>e h.symm),hx,eQ e]
theorem pU{l l':List Nd}(hl:l'.length=l.length){i:Nat}{x':Nd}(h:l'[i]?=some x'):∃x,l[i]?=some x:=by
 have:=(fT.1 h).1;exact⟨_,lU (by omega)⟩
theorem nZ{l l':List Nd}{c i:Nat}(hg:bu l)(hc:c<l.length)(h:∀(d:Nat)(x:Nd),l[d]?=some x->∃x',l'[d]?=some x'/\x'.u=x.u):On l' c i↔On l c i:=by
 refine⟨λho=>?_,On.mono h⟩
 induction ho with
 |self c=>exact .self c
 |out c p' i x hx hu h00 ho ih=>
  obtain⟨y,hy⟩:=iT l c hc;obtain⟨x',h1,h2⟩:=h c y hy;rw[hx]at h1;injection h1 with h1;subst h1
  have:=(hg.up c y hy).2;exact .out c p' i y hy (by omega) h00 (ih (by omega))
theorem I1{l:List Nd}{c i p:Nat}{x:Nd}(hx:l[c]?=some x)(hu:x.u=(p:Int))(h0:0<c)(hi:i≠c):On l c i↔On l p i:=by
 constructor
 ·intro ho;cases ho with
  |self=>exact absurd rfl hi
  |out _ p' _ y hy hp _ ho=>
   rw[hx]at hy;injection hy with hy;subst hy
   obtain rfl:p'=p:=by omega
   exact ho
 exact λho=>.out _ _ i x hx hu h0 ho
theorem I4{l:List Nd}{up k f t:Nat}(hg:bu l)(hm:iL l up k f t=true):
 ∃r,addN l up k f t=(r,(l.length:Int))/\r.length=l.length+1/\r[l.length]?=some ⟨k,f,t,up,[],false⟩/\
  ∀(i:Nat)(x:Nd),l[i]?=some x->∃z,r[i]?=some z/\z.k=x.k/\z.f=x.f/\z.u=x.u/\z.y=x.y/\z.ks=(if i=up then x.ks++[(l.length:Int)]else x.ks)/\((On l up i/\z.t=max x.t t)\/(¬On l up i/\z.t=x.t)):=by
 obtain⟨h0,h1,p,hp⟩:=II hm;have ae:=(IJ hm hp).1;have aa:=wH hg up k f t p h0 hp ae;rw[iE]at hp aa;obtain⟨m,hmd⟩:=eX ((l++[(⟨k,f,t,up,[],false⟩:Nd)]).set up {p with ks:=p.ks++[(l.length:Int)]});have hadd:addN l up k f t=(gP m up t,(l.length:Int)):=by
  unfold addN;rw[eT hm,iE,hp];dsimp only;rw[hmd]
 rw[hmd]at aa;have af:m.length=l.length+1:=by rw[<-hmd];simp
 have mn:m[l.length]?=some ⟨k,f,t,up,[],false⟩:=by
  rw[<-hmd,uW (by omega),uU (fC _)];simp
 have mo:∀(i:Nat)(x:Nd),l[i]?=some x->m[i]?=some {x with ks:=if i=up then x.ks++[(l.length:Int)]else x.ks}:=by
  intro i x hx;have hi:=(fT.1 hx).1;by_cases e:i=up
  ·subst e;rw[hp]at hx;injection hx with hx;subst hx
   rw[<-hmd,xW (by simp;omega),eT rfl]
  rw[<-hmd,uW (λh=>e h.symm),qx hi,hx,eQ e]
 have hon:∀i,i<l.length->(On m up i↔On l up i):=by
  intro i hi;exact nZ hg (by omega) (λd x hd=>⟨_,mo d x hd,rfl⟩)
 have H:=qG up m t aa (by omega);refine⟨gP m up t,hadd,by rw[pZ _ _ aa,af],?_,λi x hx=>?_⟩
 ·obtain⟨z,h2,h3⟩:=H l.length _ mn;rcases h3 with⟨h3,_⟩|⟨_,rfl⟩
  ·have:=h3.low aa;omega
  exact h2
 have hi:=(fT.1 hx).1;obtain⟨z,h2,h3⟩:=H i _ (mo i x hx);rcases h3 with⟨h3,rfl⟩|⟨h3,rfl⟩
 ·exact⟨_,h2,rfl,rfl,rfl,rfl,rfl,.inl ⟨(hon i hi).1 h3,rfl⟩⟩
 exact⟨_,h2,rfl,rfl,rfl,rfl,rfl,.inr ⟨λh=>h3 ((hon i hi).2 h),rfl⟩⟩
def cT(B up0:Nat)(c:Int):Nat:=if c<0 then up0 else B+c.toNat
structure Rel(B up0:Nat)(T0 q t:List Nd)(c:Int)(p:Nat):Prop where
 len:t.length=B+q.length
 lo:B=T0.length/\up0<B
 cur:-1<=c/\c<q.length
 nd:∀(i:Nat)(x:Nd),q[i]?=some x->∃z,t[B+i]?=some z/\z.k=x.k/\z.f=x.f/\z.u=(cT B up0 x.u:Int)/\z.ks=x.ks.map (·+(B:Int))/\z.y=x.y/\
  ((On t (cT B up0 c) (B+i)/\z.t=p)\/(¬On t (cT B up0 c) (B+i)/\z.t=x.t))
 AF:∀(i:Nat)(x:Nd),q[i]?=some x->-1<=x.u/\(0<i->0<=x.u)
 old:∀(i:Nat)(x:Nd),T0[i]?=some x->∃z,t[i]?=some z/\z.k=x.k/\z.f=x.f/\z.u=x.u/\z.y=x.y/\z.ks=(if i=up0/\0<q.length then x.ks++[(B:Int)]else x.ks)/\
  ((On t up0 i/\0<q.length/\z.t=max x.t p)\/((¬On t up0 i\/q.length=0)/\z.t=x.t))
section
variable {B up0:Nat}{T0 q t:List Nd}{c:Int}{p:Nat}
theorem mF(B up0 c:Nat):cT B up0 (c:Int)=B+c:=by unfold cT;rw[eQ (by omega),iE]
theorem pV(B up0:Nat){c:Int}(h:c<0):cT B up0 c=up0:=by unfold cT;rw[eT h]
theorem Rel.lt(h:Rel B up0 T0 q t c p):cT B up0 c<t.length:=by
 have:=h.len;have:=h.lo;have:=h.cur;unfold cT;split<;>omega
theorem Rel.NW(h:Rel B up0 T0 q t c p){a:Nat}{x:Nd}(hx:q[a]?=some x)(i:Nat)(hi:i≠B+a):On t (B+a) i↔On t (cT B up0 x.u) i:=by
 obtain⟨z,hz,_,_,hu,_⟩:=h.nd a x hx;have:=h.lo;exact I1 hz hu (by omega) hi
theorem Rel.Pq(h:Rel B up0 T0 q t c p)(hg:bu t):∀a:Nat,a<q.length->∀i,i<B->(On t (B+a) i↔On t up0 i):=by
 intro a
 induction a using Nat.strongRecOn with
 |ind a ih=>
  intro ha i hi;obtain⟨x,hx⟩:=iT q a ha;rw[h.NW hx i (by omega)];obtain⟨z,hz,_,_,hu,_⟩:=h.nd a x hx;have h1:=(hg.up _ z hz).2;by_cases hc:x.u<0
  ·rw[pV B up0 hc]
  obtain⟨u,hu2⟩:∃u:Nat,x.u=(u:Int):=⟨x.u.toNat,by omega⟩
  rw[hu2,mF]at hu⊢;exact ih u (by omega) (by omega) i hi
theorem Rel.I5(h:Rel B up0 T0 q t c p)(hg:bu t){i:Nat}(hi:i<B):On t (cT B up0 c) i↔On t up0 i:=by
 have aa:=h.cur;by_cases hc:c<0
 ·rw[pV B up0 hc]
 obtain⟨u,rfl⟩:∃u:Nat,c=(u:Int):=⟨c.toNat,by omega⟩
 rw[mF];exact h.Pq hg u (by omega) i hi
theorem Rel.put(h:Rel B up0 T0 q t c p)(hg:bu t){k f aa:Nat}(hm:iL t (cT B up0 c) k f aa=true)(hq:c<0->q.length=0/\p<=aa):
 ∃r,addN t (cT B up0 c) k f aa=(r,(t.length:Int))/\
  Rel B up0 T0 (jX q c k f aa) r c (max p aa)/\
  (p<=aa->Rel B up0 T0 (lV q c k f) r q.length aa):=by
 obtain⟨r,h1,h2,h3,h4⟩:=I4 hg hm;have hlen:=h.len;have hlo:=h.lo;have af:=h.cur;have hlt:=h.lt;have hon:∀i,On r (cT B up0 c) i↔On t (cT B up0 c) i:=λi=>nZ hg hlt (λd x hd=>by obtain⟨z,a,_,_,b,_⟩:=h4 d x hd;exact⟨z,a,b⟩)
 have ag:∀i,On r up0 i↔On t up0 i:=λi=>nZ hg (by omega) (λd x hd=>by obtain⟨z,a,_,_,b,_⟩:=h4 d x hd;exact⟨z,a,b⟩)
 have elder:∀(i:Nat)(x:Nd),q[i]?=some x->∃z,r[B+i]?=some z/\z.k=x.k/\z.f=x.f/\z.u=(cT B up0 x.u:Int)/\z.ks=(if(i:Int)=c then x.ks++[(q.length:Int)]else x.ks).map (·+(B:Int))/\z.y=x.y/\
  ((On r (cT B up0 c) (B+i)/\z.t=(max p aa:Nat))\/(¬On r (cT B up0 c) (B+i)/\z.t=x.t)):=by
  intro i x hx;have hi:=(fT.1 hx).1;obtain⟨z,a1,a2,a3,a4,a5,a6,a7⟩:=h.nd i x hx;obtain⟨z',b1,b2,b3,b4,b5,b6,b7⟩:=h4 (B+i) z a1;refine⟨z',b1,by omega,by omega,by omega,?_,by rw[b5,a6],?_⟩
  ·rw[b6,a5,hlen];by_cases e:(i:Int)=c
   ·subst e;rw[mF,eT rfl,eT rfl,Cu];simp;omega
   rw[eQ e,eQ];unfold cT;split<;>omega
  rw[hon];rcases b7 with⟨b7,b8⟩|⟨b7,b8⟩
  ·rcases a7 with⟨_,a8⟩|⟨a7,_⟩
   ·exact .inl ⟨b7,by omega⟩
   exact absurd b7 a7
  rcases a7 with⟨a7,_⟩|⟨_,a8⟩
  ·exact absurd a7 b7
  exact .inr ⟨b7,by omega⟩
 have older:∀(i:Nat)(x:Nd),T0[i]?=some x->∃z,r[i]?=some z/\z.k=x.k/\z.f=x.f/\z.u=x.u/\z.y=x.y/\z.ks=(if i=up0/\0<q.length+1 then x.ks++[(B:Int)]else x.ks)/\
  ((On r up0 i/\0<q.length+1/\z.t=max x.t (max p aa:Nat))\/((¬On r up0 i\/q.length+1=0)/\z.t=x.t)):=by
  intro i x hx;have hi:=(fT.1 hx).1;obtain⟨z,a1,a2,a3,a4,a5,a6,a7⟩:=h.old i x hx;obtain⟨z',b1,b2,b3,b4,b5,b6,b7⟩:=h4 i z a1;rw[h.I5 hg (by omega)]at b7;refine⟨z',b1,by omega,by omega,by omega,by rw[b5,a5],?_,?_⟩
  ·rw[b6,a6];by_cases hc:c<0
   ·have:=(hq hc).1;rw[pV B up0 hc];by_cases e:i=up0
    ·rw[eT e,eQ (by omega),eT (by omega),hlen,this,sO]
    rw[eQ e,eQ (by omega),eQ (by omega)]
   rw[eQ (by unfold cT;rw[eQ hc];omega)];by_cases e:i=up0
   ·rw[eT (by omega),eT (by omega)]
   rw[eQ (by omega),eQ (by omega)]
  rw[ag];rcases b7 with⟨b7,b8⟩|⟨b7,b8⟩
  ·refine .inl ⟨b7,by omega,?_⟩;rcases a7 with⟨_,_,a8⟩|⟨a7,a8⟩
   ·omega
   have hq0:q.length=0:=a7.resolve_left (λh=>h b7);have:=(hq (by omega)).2;omega
  refine .inr ⟨.inl b7,?_⟩;rcases a7 with⟨a7,_⟩|⟨_,a8⟩
  ·exact absurd a7 b7
  omega
 have hnew:=oM q c k f af.2;have ae:=oL q c k f;have new:∀(i:Nat)(x:Nd),(lV q c k f)[i]?=some x->(i=q.length/\x=⟨k,f,0,c,[],false⟩)\/(i<q.length/\∃y,q[i]?=some y/\x={y with ks:=if(i:Int)=c then y.ks++[(q.length:Int)]else y.ks}):=by
  intro i x hx;have hi:=(fT.1 hx).1;by_cases e:i=q.length
  ·subst e;rw[hnew]at hx;injection hx with hx;exact .inl ⟨rfl,hx.symm⟩
  obtain⟨y,hy⟩:=iT q i (by omega);rw[Be q c k f i y hy]at hx;injection hx with hx
  exact .inr ⟨by omega,y,hy,hx.symm⟩
 have hrn:r[B+q.length]?=some ⟨k,f,aa,cT B up0 c,[],false⟩:=by rw[<-hlen];exact h3
 have hnot:¬On r (cT B up0 c) (B+q.length):=λho=>by have:=((hon _).1 ho).low hg;omega
 refine⟨r,h1,⟨by rw[h2,jX,j3,ae];omega,hlo,by rw[jX,j3,ae];omega,λi x hx=>?_,λi x hx=>?_,by rw[jX,j3,ae];exact older⟩,λhp=>⟨by rw[h2,ae];omega,hlo,by rw[ae];omega,λi x hx=>?_,λi x hx=>?_,?_⟩⟩
 ·obtain⟨y,hy⟩:=pU (j3 _ _ _) hx;have hx2:=nY (lV q c k f) q.length aa i y hy;rw[jX,hx2]at hx;injection hx with hx
  rcases new i y hy with⟨rfl,rfl⟩|⟨hi,y',hy',rfl⟩
  ·subst hx;refine⟨_,hrn,rfl,rfl,rfl,rfl,rfl,.inr ⟨hnot,?_⟩⟩;rw[eT rfl]
  subst hx;obtain⟨z,e1,e2,e3,e4,e5,e6,e7⟩:=elder i y' hy';refine⟨z,e1,e2,e3,e4,e5,e6,?_⟩;rw[eQ (show¬i=q.length by omega)];exact e7
 ·obtain⟨y,hy⟩:=pU (j3 _ _ _) hx;have hx2:=nY (lV q c k f) q.length aa i y hy;rw[jX,hx2]at hx;injection hx with hx
  subst hx;rcases new i y hy with⟨rfl,rfl⟩|⟨hi,y',hy',rfl⟩
  ·exact⟨af.1,λh0=>by
   by_cases hc:c<0
   ·have:=(hq hc).1;omega
   show 0<=c;omega⟩
  exact h.AF i y' hy'
 ·rw[mF];rcases new i x hx with⟨rfl,rfl⟩|⟨hi,y',hy',rfl⟩
  ·exact⟨_,hrn,rfl,rfl,rfl,rfl,rfl,.inl ⟨.self _,rfl⟩⟩
  obtain⟨z,e1,e2,e3,e4,e5,e6,e7⟩:=elder i y' hy';refine⟨z,e1,e2,e3,e4,e5,e6,?_⟩;have hup:On r (B+q.length) (B+i)↔On r (cT B up0 c) (B+i):=I1 hrn rfl (by omega) (by omega);rw[hup];rcases e7 with⟨e7,e8⟩|e7
  ·exact .inl ⟨e7,by omega⟩
  exact .inr e7
 ·rcases new i x hx with⟨rfl,rfl⟩|⟨hi,y',hy',rfl⟩
  ·exact⟨af.1,λh0=>by
   by_cases hc:c<0
   ·have:=(hq hc).1;omega
   show 0<=c;omega⟩
  exact h.AF i y' hy'
 rw[ae];intro i x hx;obtain⟨z,e1,e2,e3,e4,e5,e6,e7⟩:=older i x hx;refine⟨z,e1,e2,e3,e4,e5,e6,?_⟩;rw[show max p aa=aa by omega]at e7;exact e7
theorem Rel.close{a:Nat}{x:Nd}(h:Rel B up0 T0 q t (a:Int) p)(hg:bu t)(hx:q[a]?=some x):Rel B up0 T0 (vV q a p) t x.u p:=by
 have hlo:=h.lo;have ha:=(fT.1 hx).1;have hlen:=h.len;obtain⟨z0,hz0,_,_,hu0,_⟩:=h.nd a x hx;have aa:=(hg.up _ z0 hz0).2;have hxu:=(h.AF a x hx).1;have hcl:cT B up0 x.u<B+a:=by omega
 refine⟨by rw[j3];exact h.len,hlo,⟨hxu,?_⟩,λi y hy=>?_,λi y hy=>?_,by rw[j3];exact h.old⟩
 ·rw[j3];unfold cT at hcl;split at hcl<;>omega
 ·obtain⟨y',hy'⟩:=pU (j3 _ _ _) hy;rw[nY q a p i y' hy']at hy;injection hy with hy
  subst hy;obtain⟨z,e1,e2,e3,e4,e5,e6,e7⟩:=h.nd i y' hy';refine⟨z,e1,e2,e3,e4,e5,e6,?_⟩;rw[mF]at e7;by_cases e:i=a
  ·subst e;rw[eT rfl];refine .inr ⟨λho=>by have:=ho.low hg;omega,?_⟩;rcases e7 with⟨_,e7⟩|⟨e7,_⟩
   ·exact e7
   exact absurd (.self _) e7
  rw[eQ e,<-h.NW hx (B+i) (by omega)];exact e7
 obtain⟨y',hy'⟩:=pU (j3 _ _ _) hy;rw[nY q a p i y' hy']at hy;injection hy with hy
 subst hy;exact h.AF i y' hy'
theorem Rel.grow(h:Rel B up0 T0 q t c p)(hg:bu t)(hc:0<=c)(aa:Nat):Rel B up0 T0 q (gP t (cT B up0 c) aa) c (max p aa):=by
 have H:=qG (cT B up0 c) t aa hg h.lt;have hl:=pZ (l:=t) (cT B up0 c) (aa:Int) hg;obtain⟨r,hr⟩:=eX (gP t (cT B up0 c) aa);rw[hr]at H hl⊢;have hlo:=h.lo;have ae:=h.cur;have hU:∀(d:Nat)(x:Nd),t[d]?=some x->∃x',r[d]?=some x'/\x'.u=x.u:=λd x hd=>by
  obtain⟨z,a1,a2⟩:=H d x hd;rcases a2 with⟨_,rfl⟩|⟨_,rfl⟩<;>exact⟨_,a1,rfl⟩
 have hon:∀i,On r (cT B up0 c) i↔On t (cT B up0 c) i:=λi=>nZ hg h.lt hU
 have af:∀i,On r up0 i↔On t up0 i:=λi=>nZ hg (by have:=h.len;omega) hU
 refine⟨by rw[hl];exact h.len,hlo,ae,λi x hx=>?_,h.AF,λi x hx=>?_⟩
 ·obtain⟨z,e1,e2,e3,e4,e5,e6,e7⟩:=h.nd i x hx;obtain⟨z',a1,a2⟩:=H _ z e1;rw[hon];rcases a2 with⟨a2,rfl⟩|⟨a2,rfl⟩
  ·refine⟨_,a1,e2,e3,e4,e5,e6,.inl ⟨a2,?_⟩⟩;rcases e7 with⟨_,e7⟩|⟨e7,_⟩
   ·show max z.t (aa:Int)=_;omega
   exact absurd a2 e7
  refine⟨_,a1,e2,e3,e4,e5,e6,.inr ⟨a2,?_⟩⟩;rcases e7 with⟨e7,_⟩|⟨_,e7⟩
  ·exact absurd e7 a2
  exact e7
 have hi:=(fT.1 hx).1;obtain⟨z,e1,e2,e3,e4,e5,e6,e7⟩:=h.old i x hx;obtain⟨z',a1,a2⟩:=H _ z e1;rw[af];rw[h.I5 hg (by omega)]at a2;rcases a2 with⟨a2,rfl⟩|⟨a2,rfl⟩
 ·refine⟨_,a1,e2,e3,e4,e5,e6,.inl ⟨a2,by omega,?_⟩⟩;rcases e7 with⟨_,_,e7⟩|⟨e7,_⟩
  ·show max z.t (aa:Int)=_;omega
  rcases e7 with e7|e7
  ·exact absurd a2 e7
  omega
 refine⟨_,a1,e2,e3,e4,e5,e6,.inr ⟨.inl a2,?_⟩⟩;rcases e7 with⟨e7,_⟩|⟨_,e7⟩
 ·exact absurd e7 a2
 exact e7
theorem Rel.key(h:Rel B up0 T0 q t c p)(hg:bu t)(a:Nat)(ha:a<q.length):Rel B up0 T0 (keyed q a) (keyed t ((B+a:Nat):Int)) c p:=by
 have hlo:=h.lo;have hlen:=h.len;have K:∀(d:Nat)(x:Nd),t[d]?=some x->(keyed t ((B+a:Nat):Int))[d]?=some {x with y:=if d=B+a then true else x.y}:=λd x hd=>nH t (B+a) d x hd
 have hU:∀(d:Nat)(x:Nd),t[d]?=some x->∃x',(keyed t ((B+a:Nat):Int))[d]?=some x'/\x'.u=x.u:=λd x hd=>⟨_,K d x hd,rfl⟩
 have hon:∀i,On (keyed t ((B+a:Nat):Int)) (cT B up0 c) i↔On t (cT B up0 c) i:=λi=>nZ hg h.lt hU
 have aa:∀i,On (keyed t ((B+a:Nat):Int)) up0 i↔On t up0 i:=λi=>nZ hg (by omega) hU
 refine⟨by rw[iB,iB];exact hlen,hlo,by rw[iB];exact h.cur,λi x hx=>?_,λi x hx=>?_,λi x hx=>?_⟩
 ·obtain⟨y,hy⟩:=pU (iB _ _) hx;rw[nH q a i y hy]at hx;injection hx with hx;subst hx
  obtain⟨z,e1,e2,e3,e4,e5,e6,e7⟩:=h.nd i y hy;refine⟨_,K _ z e1,e2,e3,e4,e5,?_,by rw[hon];exact e7⟩;by_cases e:i=a
  ·rw[eT e,eT (by omega)]
  rw[eQ e,eQ (by omega)];exact e6
 ·obtain⟨y,hy⟩:=pU (iB _ _) hx;rw[nH q a i y hy]at hx;injection hx with hx;subst hx
  exact h.AF i y hy
 have hi:=(fT.1 hx).1;obtain⟨z,e1,e2,e3,e4,e5,e6,e7⟩:=h.old i x hx;refine⟨_,K _ z e1,e2,e3,e4,?_,by rw[iB];exact e6,by rw[aa,iB];exact e7⟩;rw[eQ (by omega)];exact e5
end
end Fl
end Go.Proofs.YtfbiffdmhcjhbaaGreat
namespace Go
open Go.Proofs.YtfbiffdmhcjhbaaGreat
theorem uR{P:Program}{o:Oper}{a:Act}{w:World}{v:Value}{K:Act->Prop}(h:o.quietAt P a (λW=>W=w) w v)(hk:K (a.put o.dst v)):o.still P a w K:=by
 unfold Oper.quietAt at h;unfold Oper.still
 revert h
 generalize (execOp a.eval o).run P w=r;intro h;cases r with
 |halt x w'=>exact h.elim
 |ok n w' =>
  cases n with
  |value u=>obtain⟨rfl,rfl⟩:=h;exact⟨rfl,hk⟩
  |skip=>obtain⟨rfl,rfl⟩:=h;exact⟨rfl,hk⟩
  |enter f args=>obtain⟨rfl,hc⟩:=h;exact⟨rfl,v,hc,hk⟩
  |_=>exact h.elim
theorem lY{P:Program}{ops:Array Oper}{w:World}{Q:Act->Prop}:∀(l:List Oper)(a:Act),wpQuiet P ops (λW=>W=w) Q l a->wpStill P ops w Q l a
 |[],_,h=>h
 |o::rest,a,h=>by
  unfold wpQuiet at h;unfold wpStill;by_cases hw:Region.wanted o (yielded ops a.tmps)=true
  ·rw[eT hw]at h⊢;obtain⟨v,h1,h2⟩:=h;exact uR (h1 w rfl) (lY rest _ h2)
  rw[eQ hw]at h⊢;exact lY rest _ h
theorem mE{P:Program}{id:Nat}{Q:Exit->Act->World->Prop}{a:Act}{w:World}{l:List Oper}(n:Nat)(hm:P.follows .mixedOrders=true)(hB:Region.lexTailB .any l.toArray n=true)
 (h:wpQuiet P l.toArray (λW=>W=w.drew) (λa'=>wpList P l.toArray Q (l.drop n) a' w.drew) (l.take n) a):(Code.region id l.toArray true).wp P Q a w:=
 wp_region_still_tail n hm hB (lY _ _ h)
end Go
namespace Go.Proofs.YtfbiffdmhcjhbaaGreat
open RowKit Tryz
section
open Go.RowKit
open Sg
open Sq
open Ar
theorem JH(a b c:Int)(w:World):(binOp .eql 89 (.agg #[.int .i64 a,.int .i64 b,.int .i64 c]) (.agg #[.int .i64 a,.int .i64 b,.int .i64 c])).run prog w=.ok (.bool true) w:=by
 have u3:=underlying3;have hS:prog.underlying 89=some (.struct (prog.fieldsOf 89)):=by kernel_rfl
 have hp:prog.stoodInHeld 89=false:=by kernel_rfl
 rw[run_eql_struct,show(10000:Nat)=9999+1 from rfl,OV w 9999 89 _ _ hS hp];simp only[Program.fieldsOf,underlying89];go_simp
theorem lX{w:World}{a:Option Addr}{cap:Nat}{D:List Fl.Dg}(h:Reads gD w (.slice a D.length cap) D)(j:Nat)(x:Fl.Dg)(hx:D[j]?=some x):
 ∃b off,a=some ⟨b,off,none⟩/\w.cell? ⟨b,off+j*3,none⟩=some (.int .i64 (x.code:Int))/\w.cell? ⟨b,off+j*3+1,none⟩=some (.int .i64 (x.f:Int))/\w.cell? ⟨b,off+j*3+2,none⟩=some (.int .i64 (x.t:Int)):=by
 obtain⟨b,off,rfl,hat⟩:=h.at_ j x hx;exact⟨b,off,rfl,hat 0 _ rfl,hat 1 _ rfl,hat 2 _ rfl⟩
end
end Go.Proofs.YtfbiffdmhcjhbaaGreat

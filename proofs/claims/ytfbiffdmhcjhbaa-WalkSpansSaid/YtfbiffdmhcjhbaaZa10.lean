import Derived.Test.YtfbiffdmhcjhbaaZa07
import Derived.Test.YtfbiffdmhcjhbaaZa08
import Derived.Deep.QuietTactic
import Derived.Lib.AppendStr
import Derived.Lib.OwnKind
import Derived.Lib.SlBytesConst
import Derived.OpenShut
import Derived.ProofKit
set_option linter.all false
set_option maxHeartbeats 16000000
set_option maxRecDepth 100000
namespace Go.Proofs.Ytfbiffdmhcjhbaa
open Go.RowKit Try
def wo:=@wp_loop_rounds
def qC:=@rounds_succ
section
open Go.RowKit
open Sg
theorem uG.shape{w:World}{v:Value}{s:ByteArray}(h:uG w v s):∃a cap,v=.slice a s.size cap:=by
 rcases h with⟨h1,h2⟩|⟨b,off,cap,h1,_⟩
 ·exact⟨none,0,by rw[h1,h2]⟩
 exact⟨_,_,h1⟩
end
section
open Go.RowKit
open Sg
theorem Kg{w:World}{a:Option Addr}{s:ByteArray}{cap lo hi:Nat}(h:uG w (.slice a s.size cap) s)(h1:lo<=hi)(h2:hi<=s.size):
 uG w (.slice (if cap=lo then a else a.map λx=>x.add lo) (hi-lo) (cap-lo)) (s.extract lo hi):=by
 have hz:=ext_size s lo hi h2;rcases h with⟨hv,h0⟩|⟨b,off,cap',hv,g2,g3,g4⟩
 ·obtain⟨rfl,-,rfl⟩:=sK hv;obtain rfl:lo=0:=by omega
  obtain rfl:hi=0:=by omega
  exact .inl ⟨rfl,hz⟩
 obtain⟨rfl,-,rfl⟩:=sK hv;by_cases hc:cap=lo
 ·rw[gu hc];refine .inr ⟨b,off,cap-lo,by rw[hz],by omega,by omega,λj hj=>?_⟩;rw[hz]at hj;omega
 rw[fu hc];refine .inr ⟨b,off+lo,cap-lo,?_,by omega,by omega,λj hj=>?_⟩
 ·rw[hz,Lp,addr_add]
 rw[hz]at hj;rw[ext_get s lo hi j (by omega),DJ];exact g4 (lo+j) (by omega)
theorem zF{w:World}{v:Value}{s:ByteArray}(h:uG w v s):(convert 23 9 v).run prog w=.ok (.string s) w:=by
 rcases h with⟨rfl,h⟩|⟨b,off,cap,rfl,h2,h3,h4⟩
 ·rw[OZ];have:s=⟨#[]⟩:=by
   cases s with
   |mk d=>simp[ByteArray.size]at h;rw[h]
  rw[this]
 exact C8 b off cap s w h4
theorem uG.B6{w:World}{a:Option Addr}{s:ByteArray}{cap:Nat}(h:uG w (.slice a s.size cap) s):s.size<=cap/\cap<=maxLen:=by
 rcases h with⟨hv,h0⟩|⟨b,off,cap',hv,g2,g3,g4⟩
 ·obtain⟨rfl,-,rfl⟩:=sK hv;exact⟨by omega,nO _⟩
 obtain⟨rfl,-,rfl⟩:=sK hv;exact⟨g2,g3⟩
theorem yV:prog.underlying 23=some (.slice (prog.elem 23)):=by kernel_rfl
theorem size_bytes(w:World):(sizeOf (prog.elem 23)).run prog w=.ok 1 w:=by kernel_rfl
theorem Sm{w:World}{a:Option Addr}{s:ByteArray}{cap lo hi:Nat}(h:uG w (.slice a s.size cap) s)(h1:lo<=hi)(h2:hi<=s.size):
 ∃v,(∀W:World,(Instr.slice 23 (.slice a s.size cap) (some (.int .i64 (lo:Int))) (some (.int .i64 (hi:Int))) none).run prog W=.ok v W)/\uG w v (s.extract lo hi):=by
 have hb:=Kg h h1 h2;have hc:=h.B6;refine⟨_,λW=>?_,hb⟩;rw[run_slice_lh W _ a s.size cap yV .i64 .i64 lo hi (by omega) (by omega) (by omega),size_bytes];simp[Result.andThen,sliced]
end
section
open Go.RowKit
theorem LY{a w w':World}{B:Nat}{row:Option Nat}(h:Below B a w)(hg:w.grownBy w' row)(hr:∀k,row=some k->B<=k)(hB:B<=w.heap.size):Below B a w':=h.grown hg hB hr
end
section
open Go.RowKit
open Sg
theorem Ea(x:Int)(h0:0<=x)(h1:x<2147483648):bits .and .i32 x 63=x%64:=bits_mask .i32 31 (by decide) wraps_i32 6 (by decide) x h0 h1
theorem WE(y:Int)(h0:0<=y)(h1:y<32):bits .or .i32 224 y=224+y:=bits_join .i32 31 (by decide) wraps_i32 5 224 y (by decide) (by decide) (by decide) h0 h1 (by omega)
theorem WG(y:Int)(h0:0<=y)(h1:y<16):bits .or .i32 240 y=240+y:=bits_join .i32 31 (by decide) wraps_i32 4 240 y (by decide) (by decide) (by decide) h0 h1 (by omega)
theorem U6(r:Int)(w:World)(h0:0<=r)(h1:r<128):
 Calls prog 96 #[.int .i32 r] w λe w'=>e=.returned (.slice (some ⟨w.heap.size,0,none⟩) 1 1)/\w'=w.alloc (.cells #[.int .u8 r] 5):=by
 go_enter func96,ntmps96
 go_wp2;go_ret;refine⟨rfl,?_⟩;rfl
theorem U7(r:Int)(w:World)(h0:128<=r)(h1:r<2048):
 Calls prog 96 #[.int .i32 r] w λe w'=>e=.returned (.slice (some ⟨w.heap.size,0,none⟩) 2 2)/\w'=w.alloc (.cells #[.int .u8 (192+r/64),.int .u8 (128+r%64)] 5):=by
 have m0:=Ea (r) (by omega) (by omega)
 go_enter func96,ntmps96
 go_wp2;go_ret;refine⟨rfl,?_⟩;rfl
theorem U8(r:Int)(w:World)(h0:2048<=r)(h1:r<65536):
 Calls prog 96 #[.int .i32 r] w λe w'=>e=.returned (.slice (some ⟨w.heap.size,0,none⟩) 3 3)/\w'=w.alloc (.cells #[.int .u8 (224+r/4096),.int .u8 (128+r/64%64),.int .u8 (128+r%64)] 5):=by
 have m0:=Ea (r) (by omega) (by omega);have m1:=Ea (r/64) (by omega) (by omega);have mo:=WE (r/4096) (by omega) (by omega)
 go_enter func96,ntmps96
 go_wp2;go_ret;refine⟨rfl,?_⟩;rfl
theorem U9(r:Int)(w:World)(h0:65536<=r)(h1:r<1114112):
 Calls prog 96 #[.int .i32 r] w λe w'=>e=.returned (.slice (some ⟨w.heap.size,0,none⟩) 4 4)/\w'=w.alloc (.cells #[.int .u8 (240+r/262144),.int .u8 (128+r/4096%64),.int .u8 (128+r/64%64),.int .u8 (128+r%64)] 5):=by
 have m0:=Ea (r) (by omega) (by omega);have m1:=Ea (r/64) (by omega) (by omega);have m2:=Ea (r/4096) (by omega) (by omega);have mo:=WG (r/262144) (by omega) (by omega)
 go_enter func96,ntmps96
 go_wp2;go_ret;refine⟨rfl,?_⟩;rfl
theorem ym(n:Nat)(l:List UInt8)(C:Array Value)(w:World)(hl:l.length=n)(hn:n<=4)(hC:C=(l.map fun(x:UInt8)=>Value.int .u8 (x.toNat:Int)).toArray):
 uG (w.alloc (.cells C 5)) (.slice (some ⟨w.heap.size,0,none⟩) n n) ⟨l.toArray⟩:=by
 subst hC;refine .inr ⟨w.heap.size,0,n,by rw[size_at,hl],by rw[size_at,hl];exact mJ _,by simp only[maxLen];omega,λj hj=>?_⟩;rw[size_at]at hj;rw[wh,Sg.get_at,Lh,r9,qz,qQ hj,pO,qQ hj];rfl
theorem Cz(r:Int)(w:World)(h:Utf8.valid r=true):
 Calls prog 96 #[.int .i32 r] w λe w'=>e=.returned (.slice (some ⟨w.heap.size,0,none⟩) (Utf8.encode r).size (Utf8.encode r).size)/\uG w' (.slice (some ⟨w.heap.size,0,none⟩) (Utf8.encode r).size (Utf8.encode r).size) (Utf8.encode r)/\Below w.heap.size w w':=by
 have hv:=LC h;have hb:=UW r;rw[encode_eq,size_at];generalize Dp r=c at hv hb;subst hv;have hB:∀C,Below w.heap.size w (w.alloc (.cells C 5)):=λC=>(mF _ w).alloc (mJ _) _
 by_cases c1:c<128
 ·rw[show yH c=enc1 c from by unfold yH;rw[gu c1]];refine(U6 c w (by omega) (by omega)).mono λe w' ⟨he,hw⟩=>⟨he,?_,by rw[hw];exact hB _⟩
  rw[hw];exact ym 1 (enc1 c) _ w rfl (by omega) (by simp only[enc1,wU,DD,byte_of c (by omega)])
 by_cases c2:c<2048
 ·rw[show yH c=enc2 c from by unfold yH;rw[fu c1,gu c2]];refine(U7 c w (by omega) (by omega)).mono λe w' ⟨he,hw⟩=>⟨he,?_,by rw[hw];exact hB _⟩
  rw[hw];exact ym 2 (enc2 c) _ w rfl (by omega) (by simp only[enc2,wU,DD,byte_of (192+c/64) (by omega),byte_of (128+c%64) (by omega)];simp)
 by_cases c3:c<65536
 ·rw[show yH c=enc3 c from by unfold yH;rw[fu c1,fu c2,gu c3]];refine(U8 c w (by omega) (by omega)).mono λe w' ⟨he,hw⟩=>⟨he,?_,by rw[hw];exact hB _⟩
  rw[hw];exact ym 3 (enc3 c) _ w rfl (by omega) (by simp only[enc3,wU,DD,byte_of (224+c/4096) (by omega),byte_of (128+c/64%64) (by omega),byte_of (128+c%64) (by omega)];simp)
 rw[show yH c=enc4 c from by unfold yH;rw[fu c1,fu c2,fu c3]];refine(U9 c w (by omega) (by omega)).mono λe w' ⟨he,hw⟩=>⟨he,?_,by rw[hw];exact hB _⟩
 rw[hw];exact ym 4 (enc4 c) _ w rfl (by omega) (by simp only[enc4,wU,DD,byte_of (240+c/262144) (by omega),byte_of (128+c/4096%64) (by omega),byte_of (128+c/64%64) (by omega),byte_of (128+c%64) (by omega)];simp)
end
namespace Ft
open Ar
theorem Gy{l:List Nd}{n:Int}(h:Ck l n):∀x∈l,x.ks.length<=l.length:=by
 intro x hx;obtain⟨i,hi⟩:=yG hx;have hb:∀z∈x.ks,0<z/\z<(l.length:Int):=by
  intro z hz;obtain⟨j,y,rfl,h0,hy,_⟩:=h.kid i x hi z hz;have:=(nC.1 hy).1;omega
 have key:∀(ks:List Int)(m:Int),ks.Pairwise (Gc l)->(∀z∈ks,m<=z/\z<(l.length:Int))->0<=m->(ks.length:Int)<=max 0 ((l.length:Int)-m):=by
  intro ks
  induction ks with
  |nil=>intro m _ _ _;simp;omega
  |cons a r ih=>
   intro m hp hm h0;rw[AQ]at hp;have ha:=hm a (by simp);have:=ih (a+1) hp.2 (λz hz=>⟨by have:=(hp.1 z hz).1;omega,(hm z (by simp[hz])).2⟩) (by omega);rw[nI];omega
 have:=key x.ks 0 (h.ord i x hi) (λz hz=>by have:=hb z hz;omega) (by omega);omega
end Ft
namespace Fl
open Ar
structure tY where
 q:List Nd
 d:List Dg
def sU(q:List Nd)(up:Int)(k f:Nat):List Nd:=
 if up<0 then q++[(⟨k,f,0,up,[],false⟩:Nd)]else match q[up.toNat]? with
  |none=>q++[(⟨k,f,0,up,[],false⟩:Nd)]
  |some p=>(q++[(⟨k,f,0,up,[],false⟩:Nd)]).set up.toNat {p with ks:=p.ks++[(q.length:Int)]}
def BQ(q:List Nd)(i t:Nat):List Nd:=match q[i]? with
 |none=>q
 |some x=>q.set i {x with t:=t}
def qT(q:List Nd)(up:Int)(k f t:Nat):List Nd:=BQ (sU q up k f) q.length t
def Iy(l:List Tk)(s:tY)(up:Int)(f t code:Nat):tY:=⟨qT s.q up 11 f t,s.d++[⟨code,wu l f,too l (t-1)⟩]⟩
def JI(l:List Tk)(e:Nat)(mE:Option (Nat->Nat->tY->Nat×tY))(up:Int)(p:Nat)(s:tY):Nat×tY:=
 let o:=(lead l e (e-blanks l e p) none (blanks l e p)).1
 let i:=(lead l e (e-blanks l e p) none (blanks l e p)).2
 let fr:=nS o i
 let k:=kd l e i
 if k=13 then(i+1,⟨qT s.q up 8 fr (i+1),s.d⟩)
 else if nL k=true then(i+1,⟨qT s.q up 7 fr (i+1),s.d⟩)
 else if k=18 then(text l e i,⟨qT s.q up 7 fr (text l e i),s.d⟩)
 else if opens k=true then match mE with
  |none=>(balanced l e i,Iy l s up fr (balanced l e i) 10)
  |some mE=>mE s.q.length i ⟨sU s.q up (if k=9 then 10 else 9) fr,s.d⟩
 else match o with
  |some x=>(x.2+1,⟨qT s.q up 7 fr (x.2+1),s.d⟩)
  |none=>(p,s)
def Eb(l:List Tk)(s:tY)(c:Nat)(j q:Nat):tY:=
 if q-j<2 then⟨sU s.q c 6 j,s.d⟩
 else⟨qT (keyed (sU s.q c 6 j) s.q.length) s.q.length (if(List.range (q-j)).any (λx=>raw l (j+x)==13)=true then 8 else 7) j (back l (q-1) (j+1)),s.d⟩
def JJ(l:List Tk)(e:Nat)(val:Int->Nat->tY->Nat×tY)(aa:Bool)(c:Nat)(j:Nat)(s:tY):Nat×tY:=
 let q:=key l e j
 let n:=s.q.length
 if 0<q then
  let x:=mG l e q
  let r:=val n x (Eb l s c j q)
  let ae:=if r.1=x then q else r.1
  (ae,⟨BQ r.2.q n ae,r.2.d⟩)
 else if aa=true then
  let r:=val n j ⟨keyed (sU s.q c 6 j) n,s.d⟩
  (r.1,⟨BQ r.2.q n r.1,r.2.d⟩)
 else val c j s
def yz(l:List Tk)(e:Nat)(val:Int->Nat->tY->Nat×tY)(c:Nat)(op:Nat):Nat->Nat->Bool->tY->Nat×tY
 |0,p,_,s=>(p,s)
 |g+1,p,aa,s=>
  let j:=mG l e p
  let k:=kd l e j
  if k=0 then(back l p (op+1),⟨BQ s.q c (back l p (op+1)),s.d++[⟨9,wu l op,too l op⟩]⟩)
  else if k=(if raw l op=9 then 11 else 10)then(j+1,⟨BQ s.q c (j+1),s.d⟩)
  else if ends k=true then yz l e val c op g (j+1) aa (Iy l s c j (j+1) 8)
  else if k=7 then
   if aa=true then yz l e val c op g (j+1) false s
   else yz l e val c op g (j+1) aa (Iy l s c j (j+1) 8)
  else if aa=true then yz l e val c op g (qi l e j) aa (Iy l s c j (qi l e j) 8)
  else if 0<key l e j\/begins k=true then yz l e val c op g (JJ l e val (raw l op==9) c j s).1 true (JJ l e val (raw l op==9) c j s).2
  else yz l e val c op g (j+1) aa (Iy l s c j (j+1) 8)
def JK(l:List Tk)(e:Nat):Nat->Int->Nat->tY->Nat×tY
 |0=>JI l e none
 |d+1=>JI l e (some (λc op s=>yz l e (JK l e d) c op (e-op) (op+1) false s))
theorem vN(q:List Nd)(up:Int)(k f:Nat):(sU q up k f).length=q.length+1:=by
 unfold sU;split
 ·simp
 split<;>simp
theorem vO(q:List Nd)(up:Int)(k f:Nat)(hu:up<q.length):(sU q up k f)[q.length]?=some ⟨k,f,0,up,[],false⟩:=by
 unfold sU;split
 ·simp
 split
 ·simp
 rw[AM (by omega)];simp
theorem Gz(q:List Nd)(up:Int)(k f:Nat)(i:Nat)(x:Nd)(hx:q[i]?=some x):(sU q up k f)[i]?=some {x with ks:=if(i:Int)=up then x.ks++[(q.length:Int)]else x.ks}:=by
 have hi:=(nC.1 hx).1;unfold sU;split
 ·rw[vC hi,hx,fu (by omega)]
 split
 ·rename_i h0 h1;rw[vC hi,hx,fu (λe=>by rw[<-e,oN,hx]at h1;cases h1)]
 rename_i h0 p hp;by_cases e:(i:Int)=up
 ·subst e;rw[oN,hx]at hp;injection hp with hp;subst hp
  rw[gu rfl,oN,DC (by simp;omega)]
 rw[fu e,AM (by omega),vC hi,hx]
theorem qX(q:List Nd)(i t:Nat):(BQ q i t).length=q.length:=by
 unfold BQ;split<;>simp
theorem u7(q:List Nd)(i t j:Nat)(x:Nd)(hx:q[j]?=some x):(BQ q i t)[j]?=some {x with t:=if j=i then(t:Int)else x.t}:=by
 have hj:=(nC.1 hx).1;unfold BQ;split
 ·rename_i h1;rw[hx,fu (λe=>by rw[<-e,hx]at h1;cases h1)]
 rename_i y hy;by_cases e:j=i
 ·subst e;rw[hx]at hy;injection hy with hy;subst hy
  rw[DC hj,gu rfl]
 rw[AM (λh=>e h.symm),hx,fu e]
theorem oK(q:List Nd)(i:Int):(keyed q i).length=q.length:=(sQ q i).1
theorem uN(q:List Nd)(i j:Nat)(x:Nd)(hx:q[j]?=some x):(keyed q i)[j]?=some {x with y:=if j=i then true else x.y}:=by
 have hj:=(nC.1 hx).1;unfold keyed;rw[oN];cases hy:q[i]? with
 |none=>
  dsimp only;rw[hx,fu (λe=>by rw[<-e,hx]at hy;cases hy)]
 |some y=>
  dsimp only;by_cases e:j=i
  ·subst e;rw[hx]at hy;injection hy with hy;subst hy
   rw[DC hj,gu rfl]
  rw[AM (λh=>e h.symm),hx,fu e]
theorem wI{l l':List Nd}(hl:l'.length=l.length){i:Nat}{x':Nd}(h:l'[i]?=some x'):∃x,l[i]?=some x:=by
 have:=(nC.1 h).1;exact⟨_,qQ (by omega)⟩
theorem vg{l l':List Nd}{c i:Nat}(hg:bu l)(hc:c<l.length)(h:∀(d:Nat)(x:Nd),l[d]?=some x->∃x',l'[d]?=some x'/\x'.u=x.u):On l' c i↔On l c i:=by
 refine⟨λho=>?_,On.mono h⟩
 induction ho with
 |self c=>exact .self c
 |out c p' i x hx hu h00 ho ih=>
  obtain⟨y,hy⟩:=pG l c hc;obtain⟨x',h1,h2⟩:=h c y hy;rw[hx]at h1;injection h1 with h1;subst h1
  have:=(hg.up c y hy).2;exact .out c p' i y hy (by omega) h00 (ih (by omega))
theorem Ot{l:List Nd}{c i p:Nat}{x:Nd}(hx:l[c]?=some x)(hu:x.u=(p:Int))(h0:0<c)(hi:i≠c):On l c i↔On l p i:=by
 constructor
 ·intro ho;cases ho with
  |self=>exact absurd rfl hi
  |out _ p' _ y hy hp _ ho=>
   rw[hx]at hy;injection hy with hy;subst hy
   obtain rfl:p'=p:=by omega
   exact ho
 exact λho=>.out _ _ i x hx hu h0 ho
theorem Ou{l:List Nd}{up k f t:Nat}(hg:bu l)(hm:oV l up k f t=true):
 ∃r,addN l up k f t=(r,(l.length:Int))/\r.length=l.length+1/\r[l.length]?=some ⟨k,f,t,up,[],false⟩/\
  ∀(i:Nat)(x:Nd),l[i]?=some x->∃z,r[i]?=some z/\z.k=x.k/\z.f=x.f/\z.u=x.u/\z.y=x.y/\z.ks=(if i=up then x.ks++[(l.length:Int)]else x.ks)/\((On l up i/\z.t=max x.t t)\/(¬On l up i/\z.t=x.t)):=by
 obtain⟨h0,h1,p,hp⟩:=N7 hm;have ae:=(N8 hm hp).1;have aa:=Ci hg up k f t p h0 hp ae;rw[oN]at hp aa;obtain⟨m,hmd⟩:=my ((l++[(⟨k,f,t,up,[],false⟩:Nd)]).set up {p with ks:=p.ks++[(l.length:Int)]});have hadd:addN l up k f t=(nT m up t,(l.length:Int)):=by
  unfold addN;rw[gu hm,oN,hp];dsimp only;rw[hmd]
 rw[hmd]at aa;have af:m.length=l.length+1:=by rw[<-hmd];simp
 have mn:m[l.length]?=some ⟨k,f,t,up,[],false⟩:=by
  rw[<-hmd,AM (by omega),yF (mJ _)];simp
 have mo:∀(i:Nat)(x:Nd),l[i]?=some x->m[i]?=some {x with ks:=if i=up then x.ks++[(l.length:Int)]else x.ks}:=by
  intro i x hx;have hi:=(nC.1 hx).1;by_cases e:i=up
  ·subst e;rw[hp]at hx;injection hx with hx;subst hx
   rw[<-hmd,DC (by simp;omega),gu rfl]
  rw[<-hmd,AM (λh=>e h.symm),vC hi,hx,fu e]
 have hon:∀i,i<l.length->(On m up i↔On l up i):=by
  intro i hi;exact vg hg (by omega) (λd x hd=>⟨_,mo d x hd,rfl⟩)
 have H:=xD up m t aa (by omega);refine⟨nT m up t,hadd,by rw[wN _ _ aa,af],?_,λi x hx=>?_⟩
 ·obtain⟨z,h2,h3⟩:=H l.length _ mn;rcases h3 with⟨h3,_⟩|⟨_,rfl⟩
  ·have:=h3.low aa;omega
  exact h2
 have hi:=(nC.1 hx).1;obtain⟨z,h2,h3⟩:=H i _ (mo i x hx);rcases h3 with⟨h3,rfl⟩|⟨h3,rfl⟩
 ·exact⟨_,h2,rfl,rfl,rfl,rfl,rfl,.inl ⟨(hon i hi).1 h3,rfl⟩⟩
 exact⟨_,h2,rfl,rfl,rfl,rfl,rfl,.inr ⟨λh=>h3 ((hon i hi).2 h),rfl⟩⟩
def cT(B up0:Nat)(c:Int):Nat:=if c<0 then up0 else B+c.toNat
structure Rel(B up0:Nat)(T0 q t:List Nd)(c:Int)(p:Nat):Prop where
 len:t.length=B+q.length
 lo:B=T0.length/\up0<B
 cur:-1<=c/\c<q.length
 nd:∀(i:Nat)(x:Nd),q[i]?=some x->∃z,t[B+i]?=some z/\z.k=x.k/\z.f=x.f/\z.u=(cT B up0 x.u:Int)/\z.ks=x.ks.map (·+(B:Int))/\z.y=x.y/\
  ((On t (cT B up0 c) (B+i)/\z.t=p)\/(¬On t (cT B up0 c) (B+i)/\z.t=x.t))
 F3:∀(i:Nat)(x:Nd),q[i]?=some x->-1<=x.u/\(0<i->0<=x.u)
 old:∀(i:Nat)(x:Nd),T0[i]?=some x->∃z,t[i]?=some z/\z.k=x.k/\z.f=x.f/\z.u=x.u/\z.y=x.y/\z.ks=(if i=up0/\0<q.length then x.ks++[(B:Int)]else x.ks)/\
  ((On t up0 i/\0<q.length/\z.t=max x.t p)\/((¬On t up0 i\/q.length=0)/\z.t=x.t))
section
variable {B up0:Nat}{T0 q t:List Nd}{c:Int}{p:Nat}
theorem tO(B up0 c:Nat):cT B up0 (c:Int)=B+c:=by unfold cT;rw[fu (by omega),oN]
theorem wJ(B up0:Nat){c:Int}(h:c<0):cT B up0 c=up0:=by unfold cT;rw[gu h]
theorem Rel.lt(h:Rel B up0 T0 q t c p):cT B up0 c<t.length:=by
 have:=h.len;have:=h.lo;have:=h.cur;unfold cT;split<;>omega
theorem Rel.Ub(h:Rel B up0 T0 q t c p){a:Nat}{x:Nd}(hx:q[a]?=some x)(i:Nat)(hi:i≠B+a):On t (B+a) i↔On t (cT B up0 x.u) i:=by
 obtain⟨z,hz,_,_,hu,_⟩:=h.nd a x hx;have:=h.lo;exact Ot hz hu (by omega) hi
theorem Rel.Va(h:Rel B up0 T0 q t c p)(hg:bu t):∀a:Nat,a<q.length->∀i,i<B->(On t (B+a) i↔On t up0 i):=by
 intro a
 induction a using Nat.strongRecOn with
 |ind a ih=>
  intro ha i hi;obtain⟨x,hx⟩:=pG q a ha;rw[h.Ub hx i (by omega)];obtain⟨z,hz,_,_,hu,_⟩:=h.nd a x hx;have h1:=(hg.up _ z hz).2;by_cases hc:x.u<0
  ·rw[wJ B up0 hc]
  obtain⟨u,hu2⟩:∃u:Nat,x.u=(u:Int):=⟨x.u.toNat,by omega⟩
  rw[hu2,tO]at hu⊢;exact ih u (by omega) (by omega) i hi
theorem Rel.Ov(h:Rel B up0 T0 q t c p)(hg:bu t){i:Nat}(hi:i<B):On t (cT B up0 c) i↔On t up0 i:=by
 have aa:=h.cur;by_cases hc:c<0
 ·rw[wJ B up0 hc]
 obtain⟨u,rfl⟩:∃u:Nat,c=(u:Int):=⟨c.toNat,by omega⟩
 rw[tO];exact h.Va hg u (by omega) i hi
theorem Rel.put(h:Rel B up0 T0 q t c p)(hg:bu t){k f aa:Nat}(hm:oV t (cT B up0 c) k f aa=true)(hq:c<0->q.length=0/\p<=aa):
 ∃r,addN t (cT B up0 c) k f aa=(r,(t.length:Int))/\
  Rel B up0 T0 (qT q c k f aa) r c (max p aa)/\
  (p<=aa->Rel B up0 T0 (sU q c k f) r q.length aa):=by
 obtain⟨r,h1,h2,h3,h4⟩:=Ou hg hm;have hlen:=h.len;have hlo:=h.lo;have af:=h.cur;have hlt:=h.lt;have hon:∀i,On r (cT B up0 c) i↔On t (cT B up0 c) i:=λi=>vg hg hlt (λd x hd=>by obtain⟨z,a,_,_,b,_⟩:=h4 d x hd;exact⟨z,a,b⟩)
 have ag:∀i,On r up0 i↔On t up0 i:=λi=>vg hg (by omega) (λd x hd=>by obtain⟨z,a,_,_,b,_⟩:=h4 d x hd;exact⟨z,a,b⟩)
 have elder:∀(i:Nat)(x:Nd),q[i]?=some x->∃z,r[B+i]?=some z/\z.k=x.k/\z.f=x.f/\z.u=(cT B up0 x.u:Int)/\z.ks=(if(i:Int)=c then x.ks++[(q.length:Int)]else x.ks).map (·+(B:Int))/\z.y=x.y/\
  ((On r (cT B up0 c) (B+i)/\z.t=(max p aa:Nat))\/(¬On r (cT B up0 c) (B+i)/\z.t=x.t)):=by
  intro i x hx;have hi:=(nC.1 hx).1;obtain⟨z,a1,a2,a3,a4,a5,a6,a7⟩:=h.nd i x hx;obtain⟨z',b1,b2,b3,b4,b5,b6,b7⟩:=h4 (B+i) z a1;refine⟨z',b1,by omega,by omega,by omega,?_,by rw[b5,a6],?_⟩
  ·rw[b6,a5,hlen];by_cases e:(i:Int)=c
   ·subst e;rw[tO,gu rfl,gu rfl,Ip];simp;omega
   rw[fu e,fu];unfold cT;split<;>omega
  rw[hon];rcases b7 with⟨b7,b8⟩|⟨b7,b8⟩
  ·rcases a7 with⟨_,a8⟩|⟨a7,_⟩
   ·exact .inl ⟨b7,by omega⟩
   exact absurd b7 a7
  rcases a7 with⟨a7,_⟩|⟨_,a8⟩
  ·exact absurd a7 b7
  exact .inr ⟨b7,by omega⟩
 have older:∀(i:Nat)(x:Nd),T0[i]?=some x->∃z,r[i]?=some z/\z.k=x.k/\z.f=x.f/\z.u=x.u/\z.y=x.y/\z.ks=(if i=up0/\0<q.length+1 then x.ks++[(B:Int)]else x.ks)/\
  ((On r up0 i/\0<q.length+1/\z.t=max x.t (max p aa:Nat))\/((¬On r up0 i\/q.length+1=0)/\z.t=x.t)):=by
  intro i x hx;have hi:=(nC.1 hx).1;obtain⟨z,a1,a2,a3,a4,a5,a6,a7⟩:=h.old i x hx;obtain⟨z',b1,b2,b3,b4,b5,b6,b7⟩:=h4 i z a1;rw[h.Ov hg (by omega)]at b7;refine⟨z',b1,by omega,by omega,by omega,by rw[b5,a5],?_,?_⟩
  ·rw[b6,a6];by_cases hc:c<0
   ·have:=(hq hc).1;rw[wJ B up0 hc];by_cases e:i=up0
    ·rw[gu e,fu (by omega),gu (by omega),hlen,this,xh]
    rw[fu e,fu (by omega),fu (by omega)]
   rw[fu (by unfold cT;rw[fu hc];omega)];by_cases e:i=up0
   ·rw[gu (by omega),gu (by omega)]
   rw[fu (by omega),fu (by omega)]
  rw[ag];rcases b7 with⟨b7,b8⟩|⟨b7,b8⟩
  ·refine .inl ⟨b7,by omega,?_⟩;rcases a7 with⟨_,_,a8⟩|⟨a7,a8⟩
   ·omega
   have hq0:q.length=0:=a7.resolve_left (λh=>h b7);have:=(hq (by omega)).2;omega
  refine .inr ⟨.inl b7,?_⟩;rcases a7 with⟨a7,_⟩|⟨_,a8⟩
  ·exact absurd a7 b7
  omega
 have hnew:=vO q c k f af.2;have ae:=vN q c k f;have new:∀(i:Nat)(x:Nd),(sU q c k f)[i]?=some x->(i=q.length/\x=⟨k,f,0,c,[],false⟩)\/(i<q.length/\∃y,q[i]?=some y/\x={y with ks:=if(i:Int)=c then y.ks++[(q.length:Int)]else y.ks}):=by
  intro i x hx;have hi:=(nC.1 hx).1;by_cases e:i=q.length
  ·subst e;rw[hnew]at hx;injection hx with hx;exact .inl ⟨rfl,hx.symm⟩
  obtain⟨y,hy⟩:=pG q i (by omega);rw[Gz q c k f i y hy]at hx;injection hx with hx
  exact .inr ⟨by omega,y,hy,hx.symm⟩
 have hrn:r[B+q.length]?=some ⟨k,f,aa,cT B up0 c,[],false⟩:=by rw[<-hlen];exact h3
 have hnot:¬On r (cT B up0 c) (B+q.length):=λho=>by have:=((hon _).1 ho).low hg;omega
 refine⟨r,h1,⟨by rw[h2,qT,qX,ae];omega,hlo,by rw[qT,qX,ae];omega,λi x hx=>?_,λi x hx=>?_,by rw[qT,qX,ae];exact older⟩,λhp=>⟨by rw[h2,ae];omega,hlo,by rw[ae];omega,λi x hx=>?_,λi x hx=>?_,?_⟩⟩
 ·obtain⟨y,hy⟩:=wI (qX _ _ _) hx;have hx2:=u7 (sU q c k f) q.length aa i y hy;rw[qT,hx2]at hx;injection hx with hx
  rcases new i y hy with⟨rfl,rfl⟩|⟨hi,y',hy',rfl⟩
  ·subst hx;refine⟨_,hrn,rfl,rfl,rfl,rfl,rfl,.inr ⟨hnot,?_⟩⟩;rw[gu rfl]
  subst hx;obtain⟨z,e1,e2,e3,e4,e5,e6,e7⟩:=elder i y' hy';refine⟨z,e1,e2,e3,e4,e5,e6,?_⟩;rw[fu (show¬i=q.length by omega)];exact e7
 ·obtain⟨y,hy⟩:=wI (qX _ _ _) hx;have hx2:=u7 (sU q c k f) q.length aa i y hy;rw[qT,hx2]at hx;injection hx with hx
  subst hx;rcases new i y hy with⟨rfl,rfl⟩|⟨hi,y',hy',rfl⟩
  ·exact⟨af.1,λh0=>by
   by_cases hc:c<0
   ·have:=(hq hc).1;omega
   show 0<=c;omega⟩
  exact h.F3 i y' hy'
 ·rw[tO];rcases new i x hx with⟨rfl,rfl⟩|⟨hi,y',hy',rfl⟩
  ·exact⟨_,hrn,rfl,rfl,rfl,rfl,rfl,.inl ⟨.self _,rfl⟩⟩
  obtain⟨z,e1,e2,e3,e4,e5,e6,e7⟩:=elder i y' hy';refine⟨z,e1,e2,e3,e4,e5,e6,?_⟩;have hup:On r (B+q.length) (B+i)↔On r (cT B up0 c) (B+i):=Ot hrn rfl (by omega) (by omega);rw[hup];rcases e7 with⟨e7,e8⟩|e7
  ·exact .inl ⟨e7,by omega⟩
  exact .inr e7
 ·rcases new i x hx with⟨rfl,rfl⟩|⟨hi,y',hy',rfl⟩
  ·exact⟨af.1,λh0=>by
   by_cases hc:c<0
   ·have:=(hq hc).1;omega
   show 0<=c;omega⟩
  exact h.F3 i y' hy'
 rw[ae];intro i x hx;obtain⟨z,e1,e2,e3,e4,e5,e6,e7⟩:=older i x hx;refine⟨z,e1,e2,e3,e4,e5,e6,?_⟩;rw[show max p aa=aa by omega]at e7;exact e7
theorem Rel.close{a:Nat}{x:Nd}(h:Rel B up0 T0 q t (a:Int) p)(hg:bu t)(hx:q[a]?=some x):Rel B up0 T0 (BQ q a p) t x.u p:=by
 have hlo:=h.lo;have ha:=(nC.1 hx).1;have hlen:=h.len;obtain⟨z0,hz0,_,_,hu0,_⟩:=h.nd a x hx;have aa:=(hg.up _ z0 hz0).2;have hxu:=(h.F3 a x hx).1;have hcl:cT B up0 x.u<B+a:=by omega
 refine⟨by rw[qX];exact h.len,hlo,⟨hxu,?_⟩,λi y hy=>?_,λi y hy=>?_,by rw[qX];exact h.old⟩
 ·rw[qX];unfold cT at hcl;split at hcl<;>omega
 ·obtain⟨y',hy'⟩:=wI (qX _ _ _) hy;rw[u7 q a p i y' hy']at hy;injection hy with hy
  subst hy;obtain⟨z,e1,e2,e3,e4,e5,e6,e7⟩:=h.nd i y' hy';refine⟨z,e1,e2,e3,e4,e5,e6,?_⟩;rw[tO]at e7;by_cases e:i=a
  ·subst e;rw[gu rfl];refine .inr ⟨λho=>by have:=ho.low hg;omega,?_⟩;rcases e7 with⟨_,e7⟩|⟨e7,_⟩
   ·exact e7
   exact absurd (.self _) e7
  rw[fu e,<-h.Ub hx (B+i) (by omega)];exact e7
 obtain⟨y',hy'⟩:=wI (qX _ _ _) hy;rw[u7 q a p i y' hy']at hy;injection hy with hy
 subst hy;exact h.F3 i y' hy'
theorem Rel.grow(h:Rel B up0 T0 q t c p)(hg:bu t)(hc:0<=c)(aa:Nat):Rel B up0 T0 q (nT t (cT B up0 c) aa) c (max p aa):=by
 have H:=xD (cT B up0 c) t aa hg h.lt;have hl:=wN (l:=t) (cT B up0 c) (aa:Int) hg;obtain⟨r,hr⟩:=my (nT t (cT B up0 c) aa);rw[hr]at H hl⊢;have hlo:=h.lo;have ae:=h.cur;have hU:∀(d:Nat)(x:Nd),t[d]?=some x->∃x',r[d]?=some x'/\x'.u=x.u:=λd x hd=>by
  obtain⟨z,a1,a2⟩:=H d x hd;rcases a2 with⟨_,rfl⟩|⟨_,rfl⟩<;>exact⟨_,a1,rfl⟩
 have hon:∀i,On r (cT B up0 c) i↔On t (cT B up0 c) i:=λi=>vg hg h.lt hU
 have af:∀i,On r up0 i↔On t up0 i:=λi=>vg hg (by have:=h.len;omega) hU
 refine⟨by rw[hl];exact h.len,hlo,ae,λi x hx=>?_,h.F3,λi x hx=>?_⟩
 ·obtain⟨z,e1,e2,e3,e4,e5,e6,e7⟩:=h.nd i x hx;obtain⟨z',a1,a2⟩:=H _ z e1;rw[hon];rcases a2 with⟨a2,rfl⟩|⟨a2,rfl⟩
  ·refine⟨_,a1,e2,e3,e4,e5,e6,.inl ⟨a2,?_⟩⟩;rcases e7 with⟨_,e7⟩|⟨e7,_⟩
   ·show max z.t (aa:Int)=_;omega
   exact absurd a2 e7
  refine⟨_,a1,e2,e3,e4,e5,e6,.inr ⟨a2,?_⟩⟩;rcases e7 with⟨e7,_⟩|⟨_,e7⟩
  ·exact absurd e7 a2
  exact e7
 have hi:=(nC.1 hx).1;obtain⟨z,e1,e2,e3,e4,e5,e6,e7⟩:=h.old i x hx;obtain⟨z',a1,a2⟩:=H _ z e1;rw[af];rw[h.Ov hg (by omega)]at a2;rcases a2 with⟨a2,rfl⟩|⟨a2,rfl⟩
 ·refine⟨_,a1,e2,e3,e4,e5,e6,.inl ⟨a2,by omega,?_⟩⟩;rcases e7 with⟨_,_,e7⟩|⟨e7,_⟩
  ·show max z.t (aa:Int)=_;omega
  rcases e7 with e7|e7
  ·exact absurd a2 e7
  omega
 refine⟨_,a1,e2,e3,e4,e5,e6,.inr ⟨.inl a2,?_⟩⟩;rcases e7 with⟨e7,_⟩|⟨_,e7⟩
 ·exact absurd e7 a2
 exact e7
theorem Rel.key(h:Rel B up0 T0 q t c p)(hg:bu t)(a:Nat)(ha:a<q.length):Rel B up0 T0 (keyed q a) (keyed t ((B+a:Nat):Int)) c p:=by
 have hlo:=h.lo;have hlen:=h.len;have K:∀(d:Nat)(x:Nd),t[d]?=some x->(keyed t ((B+a:Nat):Int))[d]?=some {x with y:=if d=B+a then true else x.y}:=λd x hd=>uN t (B+a) d x hd
 have hU:∀(d:Nat)(x:Nd),t[d]?=some x->∃x',(keyed t ((B+a:Nat):Int))[d]?=some x'/\x'.u=x.u:=λd x hd=>⟨_,K d x hd,rfl⟩
 have hon:∀i,On (keyed t ((B+a:Nat):Int)) (cT B up0 c) i↔On t (cT B up0 c) i:=λi=>vg hg h.lt hU
 have aa:∀i,On (keyed t ((B+a:Nat):Int)) up0 i↔On t up0 i:=λi=>vg hg (by omega) hU
 refine⟨by rw[oK,oK];exact hlen,hlo,by rw[oK];exact h.cur,λi x hx=>?_,λi x hx=>?_,λi x hx=>?_⟩
 ·obtain⟨y,hy⟩:=wI (oK _ _) hx;rw[uN q a i y hy]at hx;injection hx with hx;subst hx
  obtain⟨z,e1,e2,e3,e4,e5,e6,e7⟩:=h.nd i y hy;refine⟨_,K _ z e1,e2,e3,e4,e5,?_,by rw[hon];exact e7⟩;by_cases e:i=a
  ·rw[gu e,gu (by omega)]
  rw[fu e,fu (by omega)];exact e6
 ·obtain⟨y,hy⟩:=wI (oK _ _) hx;rw[uN q a i y hy]at hx;injection hx with hx;subst hx
  exact h.F3 i y hy
 have hi:=(nC.1 hx).1;obtain⟨z,e1,e2,e3,e4,e5,e6,e7⟩:=h.old i x hx;refine⟨_,K _ z e1,e2,e3,e4,?_,by rw[oK];exact e6,by rw[aa,oK];exact e7⟩;rw[fu (by omega)];exact e5
end
end Fl
section
open Go.RowKit
open Sg
theorem wS{p:Int×Nat}{x k:Int}(h:p.1=x/\(p.2:Int)=k):Ending.returned (.tuple #[.int .i32 x,.int .i64 k])=.returned (.tuple #[.int .i32 p.1,.int .i64 p.2]):=by rw[h.1,h.2]
theorem Vb(b off len cap:Nat)(v0:Int)(b1:Nat)(w:World)(hl:len<=9223372036854775807)(h0:0<=v0)(h1:v0<32)(l1:b1<256)
 (hc1:1<len->w.cell? ⟨b,off+1,none⟩=some (.int .u8 b1)):
 Calls prog 73 #[.slice (some ⟨b,off,none⟩) len cap,.int .i64 2,.int .i32 v0,.int .i32 128] w λe w'=>e=.returned (.tuple #[.int .i32 (D8 len v0.toNat b1).1,.int .i64 (D8 len v0.toNat b1).2])/\w=w':=by
 obtain⟨v,rfl⟩:=K9 h0;rw[oN];by_cases hn:len<2
 ·go_enter func73,ntmps73
  go_wp2;go_ret2;refine⟨?_,rfl⟩;exact wS (by unfold D8;(repeat' split);all_goals first|exact⟨rfl,rfl⟩|(exfalso;omega))
 have g1:=hc1 (by omega);clear hc1;have hlt:(1:Int)<(len:Int):=by omega
 by_cases k1:b1<128\/191<b1
 ·go_enter func73,ntmps73
  go_wp2;refine wo 2 ?_;rw[qC];go_wp2;all_goals
   go_ret2;refine⟨?_,rfl⟩;exact wS (by unfold D8;(repeat' split);all_goals first|exact⟨rfl,rfl⟩|(exfalso;omega))
 obtain⟨aa,ae⟩:128<=b1/\b1<=191:=by omega
 clear k1
 go_enter func73,ntmps73
 go_wp2;refine wo 2 ?_;rw[qC];go_wp2;rw[qC];go_wp2;all_goals
  go_ret2;refine⟨?_,rfl⟩;exact wS (by unfold D8;(repeat' split);all_goals first|exact⟨rfl,rfl⟩|(exfalso;omega)|(refine⟨?_,rfl⟩;dsimp only;omega))
theorem Vd(b off len cap:Nat)(v0:Int)(b1 b2:Nat)(w:World)(hl:len<=9223372036854775807)(h0:0<=v0)(h1:v0<16)(l1:b1<256)(l2:b2<256)
 (hc1:1<len->w.cell? ⟨b,off+1,none⟩=some (.int .u8 b1))
 (hc2:2<len->w.cell? ⟨b,off+2,none⟩=some (.int .u8 b2)):
 Calls prog 73 #[.slice (some ⟨b,off,none⟩) len cap,.int .i64 3,.int .i32 v0,.int .i32 2048] w λe w'=>e=.returned (.tuple #[.int .i32 (Dn len v0.toNat b1 b2).1,.int .i64 (Dn len v0.toNat b1 b2).2])/\w=w':=by
 obtain⟨v,rfl⟩:=K9 h0;rw[oN];by_cases hn:len<3
 ·go_enter func73,ntmps73
  go_wp2;go_ret2;refine⟨?_,rfl⟩;exact wS (by unfold Dn;(repeat' split);all_goals first|exact⟨rfl,rfl⟩|(exfalso;omega))
 have g1:=hc1 (by omega);have g2:=hc2 (by omega);clear hc1 hc2;have hlt:(2:Int)<(len:Int):=by omega
 by_cases k1:b1<128\/191<b1
 ·go_enter func73,ntmps73
  go_wp2;refine wo 3 ?_;rw[qC];go_wp2;all_goals
   go_ret2;refine⟨?_,rfl⟩;exact wS (by unfold Dn;(repeat' split);all_goals first|exact⟨rfl,rfl⟩|(exfalso;omega))
 obtain⟨aa,ae⟩:128<=b1/\b1<=191:=by omega
 clear k1;by_cases k2:b2<128\/191<b2
 ·go_enter func73,ntmps73
  go_wp2;refine wo 3 ?_;rw[qC];go_wp2;rw[qC];go_wp2;all_goals
   go_ret2;refine⟨?_,rfl⟩;exact wS (by unfold Dn;(repeat' split);all_goals first|exact⟨rfl,rfl⟩|(exfalso;omega))
 obtain⟨af,ag⟩:128<=b2/\b2<=191:=by omega
 clear k2
 go_enter func73,ntmps73
 go_wp2;refine wo 3 ?_;rw[qC];go_wp2;rw[qC];go_wp2;rw[qC];go_wp2;all_goals
  go_ret2;refine⟨?_,rfl⟩;exact wS (by unfold Dn;(repeat' split);all_goals first|exact⟨rfl,rfl⟩|(exfalso;omega)|(refine⟨?_,rfl⟩;dsimp only;omega))
theorem Ve(b off len cap:Nat)(v0:Int)(b1 b2 b3:Nat)(w:World)(hl:len<=9223372036854775807)(h0:0<=v0)(h1:v0<8)(l1:b1<256)(l2:b2<256)(l3:b3<256)
 (hc1:1<len->w.cell? ⟨b,off+1,none⟩=some (.int .u8 b1))
 (hc2:2<len->w.cell? ⟨b,off+2,none⟩=some (.int .u8 b2))
 (hc3:3<len->w.cell? ⟨b,off+3,none⟩=some (.int .u8 b3)):
 Calls prog 73 #[.slice (some ⟨b,off,none⟩) len cap,.int .i64 4,.int .i32 v0,.int .i32 65536] w λe w'=>e=.returned (.tuple #[.int .i32 (Bj len v0.toNat b1 b2 b3).1,.int .i64 (Bj len v0.toNat b1 b2 b3).2])/\w=w':=by
 obtain⟨v,rfl⟩:=K9 h0;rw[oN];by_cases hn:len<4
 ·go_enter func73,ntmps73
  go_wp2;go_ret2;refine⟨?_,rfl⟩;exact wS (by unfold Bj;(repeat' split);all_goals first|exact⟨rfl,rfl⟩|(exfalso;omega))
 have g1:=hc1 (by omega);have g2:=hc2 (by omega);have g3:=hc3 (by omega);clear hc1 hc2 hc3;have hlt:(3:Int)<(len:Int):=by omega
 by_cases k1:b1<128\/191<b1
 ·go_enter func73,ntmps73
  go_wp2;refine wo 4 ?_;rw[qC];go_wp2;all_goals
   go_ret2;refine⟨?_,rfl⟩;exact wS (by unfold Bj;(repeat' split);all_goals first|exact⟨rfl,rfl⟩|(exfalso;omega))
 obtain⟨aa,ae⟩:128<=b1/\b1<=191:=by omega
 clear k1;by_cases k2:b2<128\/191<b2
 ·go_enter func73,ntmps73
  go_wp2;refine wo 4 ?_;rw[qC];go_wp2;rw[qC];go_wp2;all_goals
   go_ret2;refine⟨?_,rfl⟩;exact wS (by unfold Bj;(repeat' split);all_goals first|exact⟨rfl,rfl⟩|(exfalso;omega))
 obtain⟨af,ag⟩:128<=b2/\b2<=191:=by omega
 clear k2;by_cases k3:b3<128\/191<b3
 ·go_enter func73,ntmps73
  go_wp2;refine wo 4 ?_;rw[qC];go_wp2;rw[qC];go_wp2;rw[qC];go_wp2;all_goals
   go_ret2;refine⟨?_,rfl⟩;exact wS (by unfold Bj;(repeat' split);all_goals first|exact⟨rfl,rfl⟩|(exfalso;omega))
 obtain⟨ah,ai⟩:128<=b3/\b3<=191:=by omega
 clear k3
 go_enter func73,ntmps73
 go_wp2;refine wo 4 ?_;rw[qC];go_wp2;rw[qC];go_wp2;rw[qC];go_wp2;rw[qC];go_wp2;all_goals
  go_ret2;refine⟨?_,rfl⟩;exact wS (by unfold Bj;(repeat' split);all_goals first|exact⟨rfl,rfl⟩|(exfalso;omega)|(refine⟨?_,rfl⟩;dsimp only;omega))
end
section
open Go.RowKit
open Sg
theorem FX(n b off cap x0 x1 x2 x3:Nat)(w:World)(hm:n<=9223372036854775807)(l0:x0<256)(l1:x1<256)(l2:x2<256)(l3:x3<256)
 (h0:0<n->w.cell? ⟨b,off,none⟩=some (.int .u8 x0)) (h1:1<n->w.cell? ⟨b,off+1,none⟩=some (.int .u8 x1)) (h2:2<n->w.cell? ⟨b,off+2,none⟩=some (.int .u8 x2)) (h3:3<n->w.cell? ⟨b,off+3,none⟩=some (.int .u8 x3)):
 Calls prog 58 #[.slice (some ⟨b,off,none⟩) n cap] w λe w'=>e=.returned (.tuple #[.int .i32 (xm n x0 x1 x2 x3).1,.int .i64 (xm n x0 x1 x2 x3).2])/\w=w':=by
 by_cases hz:n=0
 ·subst hz;clear h0 h1 h2 h3;rw[JR]
  go_enter func58,ntmps58
  go_wp2;go_ret2;exact⟨rfl,rfl⟩
 have hlt:(0:Int)<(n:Int):=by omega
 have hne:((n:Int)==0)=false:=by simp;omega
 have g0:=h0 (by omega);clear h0;have t2:=zZ n x0 x1 x2 x3 (by omega);have t3:=vM n x0 x1 x2 x3 (by omega);have t4:=xW n x0 x1 x2 x3 (by omega);by_cases c1:x0<128
 ·rw[xE n x0 x1 x2 x3 (by omega) c1];clear h1 h2 h3 t2 t3 t4
  go_enter func58,ntmps58
  go_wp2;go_ret2;exact⟨rfl,rfl⟩
 by_cases c2:x0<192
 ·rw[vv n x0 x1 x2 x3 (by omega) (by omega) (by omega)];clear h1 h2 h3 t2 t3 t4
  go_enter func58,ntmps58
  go_wp2;go_ret2;exact⟨rfl,rfl⟩
 by_cases c3:x0<224
 ·rw[t2 (by omega) c3 l1];clear t2 t3 t4
  go_enter func58,ntmps58
  go_wp2_with fail
  refine(Vb b off n cap ((x0:Int)%32) x1 w hm (by omega) (by omega) l1 h1).mono ?_;rintro e w' ⟨rfl,rfl⟩;go_wp2;go_ret2;rw[show((x0:Int)%32).toNat=x0%32 from by omega];exact⟨rfl,rfl⟩
 by_cases c4:x0<240
 ·rw[t3 (by omega) c4 l1 l2];clear t2 t3 t4
  go_enter func58,ntmps58
  go_wp2_with fail
  refine(Vd b off n cap ((x0:Int)%16) x1 x2 w hm (by omega) (by omega) l1 l2 h1 h2).mono ?_;rintro e w' ⟨rfl,rfl⟩;go_wp2;go_ret2;rw[show((x0:Int)%16).toNat=x0%16 from by omega];exact⟨rfl,rfl⟩
 by_cases c5:x0<248
 ·rw[t4 (by omega) c5 l1 l2 l3];clear t2 t3 t4
  go_enter func58,ntmps58
  go_wp2_with fail
  refine(Ve b off n cap ((x0:Int)%8) x1 x2 x3 w hm (by omega) (by omega) l1 l2 l3 h1 h2 h3).mono ?_;rintro e w' ⟨rfl,rfl⟩;go_wp2;go_ret2;rw[show((x0:Int)%8).toNat=x0%8 from by omega];exact⟨rfl,rfl⟩
 rw[vv n x0 x1 x2 x3 (by omega) (by omega) (by omega)];clear h1 h2 h3 t2 t3 t4
 go_enter func58,ntmps58
 go_wp2;go_ret2;exact⟨rfl,rfl⟩
end
section
open Go.RowKit
open Sg
variable {w:World}{a b off cap n:Nat}{L:List Nat}
theorem CB(i:Nat)(hi:i<n)(hc:n<=cap)(hcm:cap<=maxLen)(hm:n<=16384)(W:World):
 (Instr.slice 23 (.slice (some ⟨b,off,none⟩) n cap) (some (.int .i64 (i:Int))) none none).run prog W=.ok (.slice (some ⟨b,off+i,none⟩) (n-i) (cap-i)) W:=by
 rw[run_slice_l W _ _ n cap yV .i64 i (by omega) (by omega),size_bytes];simp only[Result.andThen,sliced];have hne:¬cap=i:=by omega
 simp[hne,addr_add]
theorem NS(i c:Nat)(t:List Nat)(M cp:Nat)(h1:L.drop i=c::t)(hn:L.length=n)(hm:n<=16384)(hL:∀x∈L,x<256)(hM:n-i=M)(hT:yO w b off L):
 Calls prog 58 #[.slice (some ⟨b,off+i,none⟩) M cp] w λe w'=>e=.returned (.tuple #[.int .i32 (Sc.qV (c::t)).1,.int .i64 (Sc.qV (c::t)).2])/\w=w':=by
 have h2:=Sc.rM h1;have hlen:(c::t).length=M:=by rw[<-h1,oz,hn,hM]
 have hlt:∀j,(c::t).getD j 0<256:=by
  intro j;rw[pO];cases hj:(c::t)[j]? with
  |none=>simp
  |some x=>
   have hx:x∈c::t:=sI hj;rw[<-h1]at hx;simp only[UF];exact hL x (List.mem_of_mem_drop hx)
 have hcell:∀j,j<M->w.cell? ⟨b,off+i+j,none⟩=some (.int .u8 ((c::t).getD j 0:Nat)):=by
  intro j hj;have e:L[i+j]?=some ((c::t).getD j 0):=by
   rw[<-xP,h1,pO,qQ (by rw[hlen];exact hj)];rfl
  have:=hT (i+j) _ e;rw[<-DJ]at this;exact this
 have:=FX M b (off+i) cp ((c::t).getD 0 0) ((c::t).getD 1 0) ((c::t).getD 2 0) ((c::t).getD 3 0) w (by omega) (hlt 0) (hlt 1) (hlt 2) (hlt 3) (λh=>hcell 0 h) (λh=>hcell 1 h) (λh=>hcell 2 h) (λh=>hcell 3 h);unfold Sc.qV;rw[hlen];exact this
theorem Kh(l:List Nat):-1<=(Sc.qV l).1/\(Sc.qV l).1<=1114111:=by
 unfold Sc.qV xm Lib.decodeN;generalize l.getD 0 0=b0,l.getD 1 0=b1,l.getD 2 0=b2,l.getD 3 0=b3;constructor
 ·(repeat' split)<;>(dsimp only;omega)
 (repeat' split)<;>(dsimp only at*;omega)
theorem Vf(p op c:Nat)(t:List Nat)(h1:L.drop p=c::t)(hbk:Sc.brk c=false)(hbl:Sc.blk c=false)(hn:L.length=n)(hm:n<=16384)(hc:n<=cap)(hcm:cap<=maxLen)(hL:∀x∈L,x<256)
 (c0:w.cell? ⟨a,0,none⟩=some (.slice (some ⟨b,off,none⟩) n cap)) (c1:w.cell? ⟨a,1,none⟩=some (.int .i64 p)) (c3:w.cell? ⟨a,3,none⟩=some (.int .i64 op)) (hT:yO w b off L) (T:Nat) (az:p+Sc.wC (decide (0<op)) (Sc.ni (c::t))=T):
 Calls prog 64 #[.pointer (some ⟨a,0,none⟩)] w λe w'=>e=.returned (.int .i64 T)/\Below w.heap.size w w':=by
 have h2:=Sc.rM h1;have hrow:Sc.nP (c::t)≠0:=by rw[(Sc.qd c t hbk).2];omega
 have hin:=Sc.Ao (c::t) hrow;have hrl:=Sc.ru (c::t);obtain⟨N,hN⟩:=my ((Sc.qV (c::t)).2+Sc.sw (decide (0<op)) ((c::t).getD ((Sc.qV (c::t)).2-1) 0) (Sc.ni ((c::t).drop (Sc.qV (c::t)).2)));obtain⟨hpl,aF,hN1⟩:=Sc.LP (decide (0<op)) (c::t) hrow N hN;rw[hpl]at az;obtain⟨E,hE⟩:=my (p+N);have hnx:=λW (hb:Below w.heap.size w W)=>NS (w:=W) p c t (n-p) (cap-p) h1 hn hm hL rfl (hT.below hb)
 obtain⟨r0,hr0⟩:=my ((Sc.qV (c::t)).1);obtain⟨K0,aA⟩:=my ((Sc.qV (c::t)).2);rw[hr0,aA]at hnx;rw[aA]at hin hN;obtain⟨q0,hq0⟩:∃q0,p+K0=q0+1:=⟨p+K0-1,by omega⟩
 have aG:n=p+(c::t).length:=by simp;omega
 have hst:q0+1+Sc.sw (decide (0<op)) (L.getD q0 0) (Sc.ni (L.drop (q0+1)))=E:=by
  have e1:(c::t).getD (K0-1) 0=L.getD q0 0:=by
   rw[<-h1,pO,pO,xP,show p+(K0-1)=q0 by omega]
  have e2:(c::t).drop K0=L.drop (q0+1):=by rw[<-h1,sG,hq0]
  rw[e1,e2]at hN;omega
 have ah:=eu hnx;have hsl0:=CB (b:=b) (off:=off) p (by omega) hc hcm hm;obtain⟨M0,hM0⟩:=my (n-p);obtain⟨C0,hC0⟩:=my (cap-p);rw[hM0,hC0]at hsl0 ah;have e0:(p:Int)+(K0:Int)=(q0:Int)+1:=by omega
 have w0:IntKind.i64.wrap ((q0:Int)+1)=(q0:Int)+1:=UL _ (by omega);have i0:(p:Int)<=(n:Int):=by omega
 have ax:p<=q0/\q0+1<=n:=by omega
 have aZ:p+1<=E/\E<=n:=by simp at hrl aG;omega
 obtain⟨aH,aR,aS,HE,H1,HN⟩:=qW hst az aF hE h1 hn;obtain⟨HL,aI,HC,HCM⟩:=qg hL hT hc hcm;have HB:=eu (λk=>UK (mF w.heap.size w) k);obtain⟨aT,bf⟩:=mR hbl hrl;clear hnx hst az aF hE h1 hn hL hT hc hcm hN hpl hin hrl hr0 aA hq0 hM0 hC0 hbk hbl hrow h2 aG hN1
 go_enter func64,ntmps64
 go_wp2_with fail
 go_big_quiet (exact(ah.out _ (HB.out _)).mono λ_ _ h=>⟨h.1,_,h.2.symm⟩)
 have hb:=HB.out nq;have c0:=ku hb c0;have c1:=ku hb c1;have c3:=ku hb c3;generalize w.drewN nq=W at*;obtain⟨ai,aJ⟩:=mR (aI.out.below hb) hb;clear hb HB ah aI hsl0
 go_upto_block 0 with fail
 go_cut [5] (λq wx=>q=.int .i64 E/\W=wx)
 case first=>
  go_wp2_with fail
  go_loopw [5] (λis wr=>∃q:Nat,is=.int .i64 ((q:Int)+1)/\p<=q/\q+1<=n/\Hid (q+1+Sc.sw (decide (0<op)) (L.getD q 0) (Sc.ni (L.drop (q+1)))=E)/\W=wr) (λis _=>n+1-(intOf is).toNat)
  case atStart=>exact⟨q0,rfl,ax.1,ax.2,aH,rfl⟩
  case round=>
   obtain⟨q,rfl,hq1,hq2,HQ,rfl⟩:=hrel;clear e0 w0;rcases oh L (q+1)with⟨h1,h2⟩|⟨x,u,h1,h2,h3⟩
   ·have i2:¬((q:Int)+1<(n:Int)):=by have:=HN.out;omega
    have HEq:=eu (show E=q+1 by have:=HQ.out;rw[h1,show Sc.ni []=[]from rfl,show Sc.sw (decide (0<op)) (L.getD q 0) []=0 from rfl]at this;omega);clear h1 h2 HQ;go_wp2_with fail
    go_meet
    exact⟨by rw[HEq.out];rfl,rfl⟩
   have aU:q+1<n:=by have:=HN.out;omega
   have i2:(q:Int)+1<(n:Int):=by omega
   obtain⟨y,hy⟩:=pG L q (by have:=HN.out;omega);have aK:L.getD q 0=y:=by rw[pO,hy];rfl
   have dx:W.cell? ⟨b,off+(q+1),none⟩=some (.int .u8 x):=ai.out.at_ h1;have dy:=ai.out q y hy;obtain⟨M,hM⟩:=my (n-(q+1));obtain⟨C,hC⟩:=my (cap-(q+1));have hsl:=CB (b:=b) (off:=off) (q+1) aU HC.out HCM.out hm;have hnx:=NS (w:=W) (q+1) x u M C h1 HN.out hm HL.out hM ai.out;have hB:=x8 (cap:=cap) (q+1) x u HN.out (by omega) ai.out h1;have ag:=Oi (a:=a) (cap:=cap) (q+1) op x u h1 HN.out hm c0 c3 ai.out;rw[hM,hC,show((q+1:Nat):Int)=(q:Int)+1 from by omega]at hsl;rw[show((q+1:Nat):Int)=(q:Int)+1 from by omega]at hB ag;have hz:=vR x u;have aa:=Kh (x::u);have hstp:=Sc.D6 (decide (0<op)) y (x::u);have hgo:=Sc.Hz (decide (0<op)) y (x::u);rw[show Sc.BV (decide (0<op)) (Sc.blk y) (x::u)=(decide ((Sc.qV (x::u)).1<0)||Sc.brk x||Sc.Fb (decide (0<op)) (x::u)||(x==35&&Sc.blk y)||(decide (0<op)&&Sc.QQ x))from rfl]at hstp hgo;have hrow:=Sc.ru (x::u);have hQ:=HQ.out;rw[aK,h1]at hQ;obtain⟨r,hr⟩:=my ((Sc.qV (x::u)).1);obtain⟨K,hK⟩:=my ((Sc.qV (x::u)).2);obtain⟨Z,hZ⟩:=my (Sc.rz (x::u));obtain⟨Co,aL⟩:=my (Sc.Fb (decide (0<op)) (x::u));obtain⟨By,aM⟩:=my (Sc.blk y);obtain⟨Fx,aN⟩:=my (Sc.QQ x);obtain⟨Kx,hKx⟩:=my (Sc.brk x);have hbl:=uM y W;have hfl:=Ka x W;rw[hr,hK]at hnx hgo;rw[hr]at aa hstp;rw[aL]at ag hstp hgo;rw[hKx]at hstp hgo hz;rw[aM]at hstp hgo hbl;rw[aN]at hstp hgo hfl;rw[hZ]at hB hz;obtain⟨S,hS⟩:=my ((decide (r<0)||Kx||Co||(x==35&&By)||(decide (0<op)&&Fx)));rw[hS]at hstp hgo;have ae:=eu hS;have ay:=eu (λh:S=true=>show E=q+1 by rw[hstp h]at hQ;omega)
   have aO:=eu (λh:S=false=>show 1<=K/\q+1+K<=n/\q+K+1+Sc.sw (decide (0<op)) (L.getD (q+K) 0) (Sc.ni (L.drop (q+K+1)))=E by
    obtain⟨g1,g2,g3⟩:=hgo h;have hl:n=q+1+(x::u).length:=by have:=HN.out;simp;omega
    have e1:(x::u).getD (K-1) 0=L.getD (q+K) 0:=by
     rw[<-h1,pO,pO,xP,show q+1+(K-1)=q+K by omega]
    have e2:(x::u).drop K=L.drop (q+K+1):=by rw[<-h1,sG,show q+1+K=q+K+1 by omega]
    rw[g1,e1,e2]at hQ
    exact⟨g2,by omega,by omega⟩)
   obtain⟨aV,ah,af,aj,ak,aP⟩:=qW hsl hnx hB ag hbl hfl;have gZ:decide (0<Z)=Kx:=by
    cases hb:Kx with
    |true=>exact oP (by have:=mt hz.1 (by rw[hb];simp);omega)
    |false=>exact nK (by have:=hz.2 hb;omega)
   have HZ:=eu gZ;clear h1 h2 h3 hy aK hM hC hnx hB ag hz hstp hgo hrow hQ HQ hr hK hZ aL aM aN hKx hbl hfl hS gZ hsl;have hsl:=aV.out;go_wp2_with fail
   refine ah.out.mono ?_;rintro e w1 ⟨rfl,rfl⟩;clear hsl ah;go_upto_region 5 with fail
   go_cut [97] (λs wx=>s=.bool S/\W=wx)
   case first=>
    by_cases q1:r<0
    ·have HE2:=eu (show S=true by rw[<-ae.out,oP q1];simp);clear aa;go_wp2_with fail
     go_meet
     exact⟨by rw[HE2.out],rfl⟩
    have g1:¬(r<0):=q1;cases Kx with
    |true=>
     have gz:(0:Int)<(Z:Int):=by have:=xS HZ.out;omega
     have HE2:=eu (show S=true by rw[<-ae.out];simp);clear aa q1;go_wp2_with fail
     refine af.out.mono ?_;rintro e w1 ⟨rfl,rfl⟩;go_wp2_with fail
     go_meet
     exact⟨by rw[HE2.out],rfl⟩
    |false=>
     obtain rfl:Z=0:=by have:=UG HZ.out;omega
     cases Co with
     |true=>
      have HE2:=eu (show S=true by rw[<-ae.out];simp);clear aa q1;go_wp2_with fail
      refine af.out.mono ?_;rintro e w1 ⟨rfl,rfl⟩;go_wp2_with fail
      refine aj.out.mono ?_;rintro e w1 ⟨rfl,rfl⟩;go_wp2_with fail
      go_meet
      exact⟨by rw[HE2.out],rfl⟩
     |false=>
      by_cases q2:x=35
      ·have g2:((x:Int)==35)=true:=by simp;omega
       cases By with
       |true=>
        have HE2:=eu (show S=true by rw[<-ae.out,q2];simp);clear aa q1 q2;go_wp2_with fail
        refine af.out.mono ?_;rintro e w1 ⟨rfl,rfl⟩;go_wp2_with fail
        refine aj.out.mono ?_;rintro e w1 ⟨rfl,rfl⟩;go_wp2_with fail
        refine ak.out.mono ?_;rintro e w1 ⟨rfl,rfl⟩;go_wp2_with fail
        go_meet
        exact⟨by rw[HE2.out],rfl⟩
       |false=>
        by_cases q3:0<op
        ·have g3:(0:Int)<(op:Int):=by omega
         have HE2:=eu (show S=Fx by rw[<-ae.out,oP q3,nK q1];simp);clear aa q1 q2 q3;go_wp2_with fail
         refine af.out.mono ?_;rintro e w1 ⟨rfl,rfl⟩;go_wp2_with fail
         refine aj.out.mono ?_;rintro e w1 ⟨rfl,rfl⟩;go_wp2_with fail
         refine ak.out.mono ?_;rintro e w1 ⟨rfl,rfl⟩;go_wp2_with fail
         refine aP.out.mono ?_;rintro e w1 ⟨rfl,rfl⟩;go_wp2_with fail
         go_meet
         exact⟨by rw[HE2.out],rfl⟩
        obtain rfl:op=0:=by omega
        have HE2:=eu (show S=false by rw[<-ae.out,nK q1];simp);clear aa q1 q2 q3;go_wp2_with fail
        refine af.out.mono ?_;rintro e w1 ⟨rfl,rfl⟩;go_wp2_with fail
        refine aj.out.mono ?_;rintro e w1 ⟨rfl,rfl⟩;go_wp2_with fail
        refine ak.out.mono ?_;rintro e w1 ⟨rfl,rfl⟩;go_wp2_with fail
        go_meet
        exact⟨by rw[HE2.out],rfl⟩
      have g2:((x:Int)==35)=false:=by simp;omega
      have g2':(x==35)=false:=by simp;omega
      by_cases q3:0<op
      ·have g3:(0:Int)<(op:Int):=by omega
       have HE2:=eu (show S=Fx by rw[<-ae.out,oP q3,nK q1,g2'];simp);clear aa q1 q2 q3 g2';go_wp2_with fail
       refine af.out.mono ?_;rintro e w1 ⟨rfl,rfl⟩;go_wp2_with fail
       refine aj.out.mono ?_;rintro e w1 ⟨rfl,rfl⟩;go_wp2_with fail
       refine aP.out.mono ?_;rintro e w1 ⟨rfl,rfl⟩;go_wp2_with fail
       go_meet
       exact⟨by rw[HE2.out],rfl⟩
      obtain rfl:op=0:=by omega
      have HE2:=eu (show S=false by rw[<-ae.out,nK q1,g2'];simp);clear aa q1 q2 q3 g2';go_wp2_with fail
      refine af.out.mono ?_;rintro e w1 ⟨rfl,rfl⟩;go_wp2_with fail
      refine aj.out.mono ?_;rintro e w1 ⟨rfl,rfl⟩;go_wp2_with fail
      go_meet
      exact⟨by rw[HE2.out],rfl⟩
   case rest=>
    obtain⟨rfl,rfl⟩:=hcut;cases S with
    |true=>
     have HEq:=eu (ay.out rfl);go_wp2_with fail
     go_meet
     exact⟨by rw[HEq.out];rfl,rfl⟩
    |false=>
     obtain⟨g1,g2,g3⟩:=aO.out rfl;have HR:=eu g3;obtain⟨Q,hQ⟩:=my (q+K);rw[hQ]at HR;have e1:(q:Int)+1+(K:Int)=(Q:Int)+1:=by omega
     have w1:IntKind.i64.wrap ((Q:Int)+1)=(Q:Int)+1:=UL _ (by omega);have j1:p<=Q/\Q+1<=n/\q<Q:=by omega
     clear g1 g2 g3 hQ aO ay aa dx dy;go_wp2_with fail
     go_roundw
     case rel=>exact⟨Q,by go_num,j1.1,j1.2.1,HR,trivial⟩
     case measure=>simp[intOf];omega
 case rest=>
  obtain⟨rfl,rfl⟩:=hcut;obtain⟨Q0,rfl⟩:∃Q0,E=Q0+1:=⟨E-1,by omega⟩
  have htr:p+Sc.trim ((Sc.ni (c::t)).take (Q0+1-p))=T:=by rw[show Q0+1-p=N by have:=HE.out;omega];exact aR.out
  have aW:=eu htr;have aX:p<=Q0/\Q0+1<=n:=by omega
  have aY:=eu (show Q0+1-p<=Sc.nP (c::t)by have:=HE.out;have:=aS.out;omega);clear htr e0 w0 c3 aH;go_wp2_with fail
  go_loopw [5] (λis wr=>∃q:Nat,is=.int .i64 ((q:Int)+1)/\p<=q/\q<=Q0/\Hid (p+Sc.trim ((Sc.ni (c::t)).take (q+1-p))=T)/\W=wr) (λis _=>(intOf is).toNat)
  case atStart=>exact⟨Q0,rfl,aX.1,mJ _,aW,rfl⟩
  case round=>
   obtain⟨q,rfl,hq1,hq2,HQ,rfl⟩:=hrel;have hrl:(Sc.ni (c::t)).length=Sc.nP (c::t):=Sc.pN _;have aB:=aY.out;by_cases aC:p<q
   ·obtain⟨m,rfl⟩:∃m,q=m+1:=⟨q-1,by omega⟩
    obtain⟨z,hz⟩:=pG L (m+1) (by have:=HN.out;omega);have dz:=ai.out (m+1) z hz;have hgd:(Sc.ni (c::t)).getD (m+1-p) 0=z:=by
     rw[Sc.zC _ _ (by omega),<-H1.out,pO,xP,show p+(m+1-p)=m+1 by omega,hz];rfl
    have av:=Sc.Em (Sc.ni (c::t)) (m+1-p) (by omega);rw[hgd,show m+1-p+1=m+1+1-p by omega]at av;have hQ:=HQ.out;rw[av]at hQ;have hbz:=uM z W;have i2:(p:Int)<(m:Int)+1:=by omega
    have i3:(m:Int)+1<(n:Int):=by omega
    obtain⟨Bz,aD⟩:=my (Sc.blk z);rw[aD]at hbz hQ;have aQ:=eu hbz;cases Bz with
    |true=>
     have HR:=eu (show p+Sc.trim ((Sc.ni (c::t)).take (m+1-p))=T by rw[gu rfl]at hQ;exact hQ);have j1:p<=m:=by omega
     clear hrl aB hz hgd av hQ hbz aD HQ aC;go_wp2_with fail
     refine aQ.out.mono ?_;rintro e w1 ⟨rfl,rfl⟩;go_wp2_with fail
     go_roundw
     case rel=>exact⟨m,by go_num,j1,by omega,HR,trivial⟩
     case measure=>simp[intOf];omega
    |false=>
     have HR:=eu (show T=m+1+1 by rw[fu (by simp)]at hQ;omega);clear hrl aB hz hgd av hQ hbz aD HQ aC;go_wp2_with fail
     refine aQ.out.mono ?_;rintro e w1 ⟨rfl,rfl⟩;go_wp2_with fail
     go_ret;exact⟨by rw[HR.out];rfl,aJ.out⟩
   obtain rfl:q=p:=by omega
   have HR:=eu (show T=q+1 by
    have h:=HQ.out
    rw[show q+1-q=1 by omega,Sc.O3 _ (by omega) (by
     rw[Sc.zC _ _ (by omega)];exact aT.out)]at h
    exact h.symm)
   clear hrl aB HQ aC;go_wp2_with fail
   go_ret;exact⟨by rw[HR.out];rfl,aJ.out⟩
end
section
open Go.RowKit
open Sg
open Sq
def zb(x n:Int):Int:=if x.tmod n<0 then x.tmod n+n else x.tmod n
theorem Ki(x n:Int)(h:0<n):0<=zb x n/\zb x n<n:=by
 have h1:=La x h;have h2:-n<x.tmod n:=by
  have:=La (-x) h;rw[Un]at this;omega
 unfold zb;split<;>omega
theorem Ph(w:World)(l:List UInt8)(C:Array Value)(n:Nat)(fr:Nat×Nat)(hn:l.length=n)(hl:n<=1000)(hC:C=(l.map fun(x:UInt8)=>Value.int .u8 (x.toNat:Int)).toArray):uG (w.alloc (.cells C 5 fr)) (.slice (some ⟨w.heap.size,0,none⟩) n n) ⟨l.toArray⟩:=by
 subst hC;refine .inr ⟨w.heap.size,0,n,by rw[size_at,hn],by rw[size_at,hn];exact mJ _,by simp only[maxLen];omega,λj hj=>?_⟩;rw[size_at]at hj;rw[wh,Sg.get_at,Lh,r9,qz,qQ hj,pO,qQ hj];rfl
end
section
open Go.ChangeShapes Go.WideShapes Go.ChangeAt Go.RowKit
theorem own:ownKnob prog.godebug=none:=by kernel_rfl
end
end Go.Proofs.Ytfbiffdmhcjhbaa

import Derived.Test.YtfbiffdmhcjhbaaZa00
import Derived.Below
import Derived.Deep.RegionHeld3
import Derived.Deep.RegionLawGrows
import Derived.Laws.AppendOwn
import Derived.Laws.AppendOwnNone
import Derived.Laws.Slices
import Derived.Lib.DecodeN
import Derived.Lib.RuneCount
import Derived.Lib.RuneCountTail
import Derived.Lib.SlTrimSet
import Derived.OwnWalk
import Derived.WalkKit
set_option linter.all false
set_option maxHeartbeats 16000000
set_option maxRecDepth 100000
namespace Go.Proofs.Ytfbiffdmhcjhbaa
open Go.RowKit
def vZ:=@Lib.size_eq
def BP:=@Lib.getD_get!'
def sK:=@Value.slice.inj
def Fa:=@info_parts
def Rm:=@wpList_append_own
def Rn:=@World.cell?_alloc_new
def Iw:=@World.ownsRow_nil
def mF:=@Below.refl
def UH:=@World.cell?_setCell_other
def wh:=@World.cell?_alloc_mark
namespace Sg
open Go.Lib
def xm(n b0 b1 b2 b3:Nat):Int×Nat:=
 if n=0 then(-1,0)else if(decodeN n b0 b1 b2 b3).1=65533/\(decodeN n b0 b1 b2 b3).2<2 then(-1,(decodeN n b0 b1 b2 b3).2)else(((decodeN n b0 b1 b2 b3).1:Int),(decodeN n b0 b1 b2 b3).2)
def D8(n v0 b1:Nat):Int×Nat:=
 if n<2 then(-1,1)else if b1<128\/b1>191 then(-1,1)
 else if v0*64+b1%64<128\/v0*64+b1%64>1114111\/(v0*64+b1%64>=55296/\v0*64+b1%64<=57343)then(-1,1)else(((v0*64+b1%64:Nat):Int),2)
def Dn(n v0 b1 b2:Nat):Int×Nat:=
 if n<3 then(-1,1)else if b1<128\/b1>191 then(-1,1)else if b2<128\/b2>191 then(-1,1)
 else if(v0*64+b1%64)*64+b2%64<2048\/(v0*64+b1%64)*64+b2%64>1114111\/((v0*64+b1%64)*64+b2%64>=55296/\(v0*64+b1%64)*64+b2%64<=57343)then(-1,1)
 else((((v0*64+b1%64)*64+b2%64:Nat):Int),3)
def Bj(n v0 b1 b2 b3:Nat):Int×Nat:=
 if n<4 then(-1,1)else if b1<128\/b1>191 then(-1,1)else if b2<128\/b2>191 then(-1,1)else if b3<128\/b3>191 then(-1,1)
 else if((v0*64+b1%64)*64+b2%64)*64+b3%64<65536\/((v0*64+b1%64)*64+b2%64)*64+b3%64>1114111\/(((v0*64+b1%64)*64+b2%64)*64+b3%64>=55296/\((v0*64+b1%64)*64+b2%64)*64+b3%64<=57343)then(-1,1)
 else(((((v0*64+b1%64)*64+b2%64)*64+b3%64:Nat):Int),4)
theorem wH(n b0 b1 b2 b3:Nat)(hn:n≠0)(e:decodeN n b0 b1 b2 b3=(65533,1)):xm n b0 b1 b2 b3=(-1,1):=by
 rw[xm,fu hn,e,gu (by simp)]
theorem Cn(n b0 b1 b2 b3 v k:Nat)(hn:n≠0)(hk:2<=k)(e:decodeN n b0 b1 b2 b3=(v,k)):xm n b0 b1 b2 b3=((v:Int),k):=by
 rw[xm,fu hn,e,fu (by simp;omega)]
theorem xE(n b0 b1 b2 b3:Nat)(hn:0<n)(h:b0<128):xm n b0 b1 b2 b3=((b0:Int),1):=by
 have e:decodeN n b0 b1 b2 b3=(b0,1):=by simp[decodeN,h]
 rw[xm,fu (by omega),e,fu (by simp;omega)]
theorem JR(b0 b1 b2 b3:Nat):xm 0 b0 b1 b2 b3=(-1,0):=by simp[xm]
theorem vv(n b0 b1 b2 b3:Nat)(hn:0<n)(h:128<=b0)(h':b0<192\/248<=b0):xm n b0 b1 b2 b3=(-1,1):=by
 refine wH _ _ _ _ _ (by omega) ?_;simp only[decodeN];rw[fu (by omega),fu (by omega),fu (by omega),fu (by omega)]
theorem zZ(n b0 b1 b2 b3:Nat)(hn:0<n)(h:192<=b0)(h':b0<224)(l1:b1<256):xm n b0 b1 b2 b3=D8 n (b0%32) b1:=by
 unfold D8;generalize hv:b0%32*64+b1%64=v;by_cases hc:1<n/\b1/64=2
 ·rw[fu (by omega),fu (by omega)];by_cases hg:v>=128
  ·rw[fu (by omega)];refine Cn _ _ _ _ _ _ _ (by omega) (by omega) ?_;simp only[decodeN];rw[fu (by omega),gu (by omega),hv,gu hg]
  rw[gu (by omega)];refine wH _ _ _ _ _ (by omega) ?_;simp only[decodeN];rw[fu (by omega),gu (by omega),hv,fu hg]
 have e:xm n b0 b1 b2 b3=(-1,1):=by
  refine wH _ _ _ _ _ (by omega) ?_;simp only[decodeN];rw[fu (by omega),fu (by omega),fu (by omega),fu (by omega)]
 rw[e];split
 ·rfl
 rw[gu (by omega)]
theorem vM(n b0 b1 b2 b3:Nat)(hn:0<n)(h:224<=b0)(h':b0<240)(l1:b1<256)(l2:b2<256):xm n b0 b1 b2 b3=Dn n (b0%16) b1 b2:=by
 have ea:b0%16*4096+b1%64*64+b2%64=(b0%16*64+b1%64)*64+b2%64:=by omega
 unfold Dn;generalize hv:(b0%16*64+b1%64)*64+b2%64=v at ea⊢;by_cases hc:(1<n/\b1/64=2)/\(2<n/\b2/64=2)
 ·rw[fu (by omega),fu (by omega),fu (by omega)];by_cases hg:v>=2048/\(v<55296\/(57344<=v/\v<=1114111))
  ·rw[fu (by omega)];refine Cn _ _ _ _ _ _ _ (by omega) (by omega) ?_;simp only[decodeN];rw[fu (by omega),fu (by omega),gu (by omega),ea,gu hg]
  rw[gu (by omega)];refine wH _ _ _ _ _ (by omega) ?_;simp only[decodeN];rw[fu (by omega),fu (by omega),gu (by omega),ea,fu hg]
 have e:xm n b0 b1 b2 b3=(-1,1):=by
  refine wH _ _ _ _ _ (by omega) ?_;simp only[decodeN];rw[fu (by omega),fu (by omega),fu (by omega),fu (by omega)]
 rw[e];split
 ·rfl
 split
 ·rfl
 rw[gu (by omega)]
theorem xW(n b0 b1 b2 b3:Nat)(hn:0<n)(h:240<=b0)(h':b0<248)(l1:b1<256)(l2:b2<256)(l3:b3<256):xm n b0 b1 b2 b3=Bj n (b0%8) b1 b2 b3:=by
 have ea:b0%8*262144+b1%64*4096+b2%64*64+b3%64=((b0%8*64+b1%64)*64+b2%64)*64+b3%64:=by omega
 unfold Bj;generalize hv:((b0%8*64+b1%64)*64+b2%64)*64+b3%64=v at ea⊢;by_cases hc:(1<n/\b1/64=2)/\(2<n/\b2/64=2)/\(3<n/\b3/64=2)
 ·rw[fu (by omega),fu (by omega),fu (by omega),fu (by omega)];by_cases hg:v>=65536/\(v<55296\/(57344<=v/\v<=1114111))
  ·rw[fu (by omega)];refine Cn _ _ _ _ _ _ _ (by omega) (by omega) ?_;simp only[decodeN];rw[fu (by omega),fu (by omega),fu (by omega),gu (by omega),ea,gu hg]
  rw[gu (by omega)];refine wH _ _ _ _ _ (by omega) ?_;simp only[decodeN];rw[fu (by omega),fu (by omega),fu (by omega),gu (by omega),ea,fu hg]
 have e:xm n b0 b1 b2 b3=(-1,1):=by
  refine wH _ _ _ _ _ (by omega) ?_;simp only[decodeN];rw[fu (by omega),fu (by omega),fu (by omega),fu (by omega)]
 rw[e];split
 ·rfl
 split
 ·rfl
 split
 ·rfl
 rw[gu (by omega)]
def nx(s:ByteArray)(i:Nat):Int×Nat:=xm (s.size-i) (s.get! i).toNat (s.get! (i+1)).toNat (s.get! (i+2)).toNat (s.get! (i+3)).toNat
end Sg
namespace Sg
open Go.Lib
def tX(s:ByteArray):Nat->Nat->List Nat
 |0,_=>[]
 |f+1,p=>if p<s.size then(if(nx s p).1<0 then p::tX s f (p+(nx s p).2)else tX s f (p+(nx s p).2))else[]
def bad(s:ByteArray):List Nat:=tX s s.size 0
theorem Gp(s:ByteArray)(f p:Nat)(h:¬p<s.size):tX s f p=[]:=by
 cases f<;>simp[tX,h]
theorem IB(s:ByteArray)(p:Nat)(h:p<s.size):nx s p=if(Utf8.decode s p).1=65533/\(Utf8.decode s p).2<2 then(-1,(Utf8.decode s p).2)else(((Utf8.decode s p).1:Int),(Utf8.decode s p).2):=by
 unfold nx xm;rw[fu (by omega),<-decode_at]
theorem Gq(s:ByteArray)(p:Nat)(h:p<s.size):(nx s p).2=(Utf8.decode s p).2:=by
 rw[IB s p h];split<;>rfl
theorem WA(s:ByteArray)(p:Nat):-1<=(nx s p).1:=by
 unfold nx xm
 (repeat' split)<;>(dsimp only;omega)
theorem IC(s:ByteArray)(p:Nat)(h:p<s.size):1<=(nx s p).2:=by
 rw[Gq s p h];exact decode_width_pos s p h
theorem Oa(n b0 b1 b2 b3:Nat)(hn:1<=n):(decodeN n b0 b1 b2 b3).2<=n:=by
 unfold decodeN
 (repeat' split)<;>(dsimp only;omega)
theorem T7(s:ByteArray)(p:Nat)(h:p<s.size):p+(nx s p).2<=s.size:=by
 rw[Gq s p h];have:=Oa (s.size-p) (s.get! p).toNat (s.get! (p+1)).toNat (s.get! (p+2)).toNat (s.get! (p+3)).toNat (by omega);rw[<-decode_at]at this;omega
theorem LA(s:ByteArray)(f p:Nat)(h:p<s.size):tX s (f+1) p=(if(nx s p).1<0 then[p]else[])++tX s f (p+(nx s p).2):=by
 rw[tX,gu h];split<;>rfl
theorem Gr(s:ByteArray):∀f p,(tX s f p).length<=f
 |0,_=>mJ _
 |f+1,p=>by
  have:=Gr s f (p+(nx s p).2);unfold tX;(repeat' split)<;>simp<;>omega
theorem JS(s:ByteArray):(bad s).length<=s.size:=Gr s _ _
end Sg
namespace Sc
open Sg
def blk(c:Nat):Bool:=c==32||c==9
def brk(c:Nat):Bool:=c==10||c==13
def Ae(c:Nat):Bool:=(Nat.ble 97 c&&Nat.ble c 122)||(Nat.ble 65 c&&Nat.ble c 90)||(Nat.ble 48 c&&Nat.ble c 57)||c==95||c==45
def QQ(c:Nat):Bool:=c==44||c==91||c==93||c==123||c==125
def wZ(c:Nat):Bool:=c==32
def Nf(c:Nat):Bool:=c==33||Ae c
def run(p:Nat->Bool):List Nat->Nat
 |[]=>0
 |c::r=>if p c=true then run p r+1 else 0
def nP(l:List Nat):Nat:=run (λc=>!brk c) l
def ni(l:List Nat):List Nat:=l.take (nP l)
def rz:List Nat->Nat
 |[]=>0
 |[c]=>if c=13 then 1 else if c=10 then 1 else 0
 |c::d::_=>if c=13 then(if d=10 then 2 else 1)else if c=10 then 1 else 0
def part:List Nat->Bool
 |[]=>true
 |c::_=>blk c
def mark(r:List Nat):Nat:=
 if r.take 3=[45,45,45]then(if part (r.drop 3)=true then 20 else 0)else if r.take 3=[46,46,46]then(if part (r.drop 3)=true then 21 else 0)else 0
def named:List Nat->Nat×Nat
 |[]=>(0,0)
 |c::r=>
  if c=38 then(if run Ae r=0 then(0,0)else(12,run Ae r+1))
  else if c=42 then(if run Ae r=0 then(0,0)else(13,run Ae r+1))
  else if c=33 then(14,run Nf r+1)else(0,0)
def vD:List Nat->Nat
 |[]=>0
 |[_]=>1
 |c::d::r=>if c=39 then(if d=39 then vD r+2 else 1)else vD (d::r)+1
def uo:List Nat->Nat
 |[]=>0
 |[_]=>1
 |c::d::r=>if c=34 then 1 else if c=92 then uo r+2 else uo (d::r)+1
def uU:List Nat->Nat
 |[]=>1
 |c::_=>if c=43 then 2 else if c=45 then 2 else 1
def hsh:List Nat->Bool
 |[]=>true
 |c::_=>c==35
def ID(rest:List Nat):Bool:=(rest.drop (run blk rest)==[])||(part rest&&hsh (rest.drop (run blk rest)))
def vG:List Nat->Nat
 |[]=>0
 |c::r=>if c=124\/c=62 then(if ID ((c::r).drop (uU r))=true then uU r else 0)else 0
def qV(l:List Nat):Int×Nat:=xm l.length (l.getD 0 0) (l.getD 1 0) (l.getD 2 0) (l.getD 3 0)
def bad(l:List Nat):Bool:=decide ((qV l).1<0)
def key(op:Bool):List Nat->Bool
 |[]=>true
 |c::_=>blk c||(op&&QQ c)
def stop(op pb:Bool):List Nat->Bool
 |[]=>true
 |c::r=>bad (c::r)||(c==58&&key op r)||(c==35&&pb)||(op&&QQ c)
def goes(op:Bool):Nat->Nat->List Nat->Nat
 |0,_,_=>0
 |f+1,p,l=>if stop op (blk p) l=true then 0 else(qV l).2+goes op f (l.getD ((qV l).2-1) 0) (l.drop (qV l).2)
def trim:List Nat->Nat
 |[]=>0
 |c::r=>if trim r=0 then(if blk c=true then 0 else 1)else trim r+1
def wC(op:Bool)(r:List Nat):Nat:=trim (r.take ((qV r).2+goes op r.length (r.getD ((qV r).2-1) 0) (r.drop (qV r).2)))
def sign(op:Nat)(dash:Bool):List Nat->Nat
 |[]=>0
 |c::r=>
  if c=91 then 8 else if c=123 then 9 else if c=93 then 10 else if c=125 then 11
  else if c=44 then(if 0<op then 7 else 0)
  else if c=45 then(if op=0 then(if dash=true then(if part r=true then 5 else 0)else 0)else 0)
  else if c=58 then(if key (decide (0<op)) r=true then 6 else 0)else 0
def quoted:List Nat->Nat×Nat
 |[]=>(0,0)
 |c::r=>if c=39 then(16,vD r+1)else if c=34 then(17,uo r+1)else(0,0)
def word(op:Nat)(dash:Bool)(r:List Nat):Nat×Nat:=
 if 0<sign op dash r then(sign op dash r,1)
 else if 0<(named r).1 then named r
 else if 0<(quoted r).1 then quoted r
 else if op=0/\0<vG r then(18,vG r)
 else if bad r=true then(22,1)
 else(15,wC (decide (0<op)) r)
def next(op:Nat)(dash blank first:Bool)(r:List Nat):Nat×Nat:=
 if first=true/\0<mark r then(mark r,3)
 else if first=true/\0<run wZ r then(2,run wZ r)
 else if 0<run blk r then(3,run blk r)
 else if hsh r=true/\(first=true\/blank=true)then(4,r.length)
 else word op dash r
structure St where
 op:Nat
 base:Int
 least:Int
 dash:Bool
 mE:Nat
 blank:Bool
def fresh(op:Nat)(least:Int):St:=⟨op,-1,least,true,0,false⟩
def counts(k:Nat):Bool:=!(k==1||k==2||k==3||k==4)
def leaves(k:Nat):Bool:=k==20||k==2||k==3||k==5
def opens(op k:Nat):Nat:=if k=8\/k=9 then op+1 else if k=10\/k=11 then op-1 else if k=20\/k=21 then 0 else op
def take(s:St)(k n:Nat):St where
 op:=opens s.op k
 least:=if k=18 then(if s.base=-1 then(s.mE:Int)else s.base+1)else s.least
 base:=if s.base=-1/\counts k=true then(s.mE:Int)else s.base
 dash:=s.dash&&leaves k
 mE:=s.mE+n
 blank:=k==2||k==3
def isText(least:Int)(r:List Nat):Bool:=decide (least≠-1/\mark r=0/\(run blk r=r.length\/least<=run wZ r))
def mid(s:St)(l:List Nat):Nat×Nat×St:=
 if nP l=0 then(1,rz l,fresh s.op s.least)
 else((next s.op s.dash s.blank (s.mE==0) (ni l)).1,(next s.op s.dash s.blank (s.mE==0) (ni l)).2,take s (next s.op s.dash s.blank (s.mE==0) (ni l)).1 (next s.op s.dash s.blank (s.mE==0) (ni l)).2)
def step(s:St)(l:List Nat):Nat×Nat×St:=
 if s.mE=0 then(if isText s.least (ni l)=true then(19,nP l+rz (l.drop (nP l)),fresh s.op s.least)else mid {s with least:=-1} l)else mid s l
def toks:Nat->St->Nat->List Nat->List (Nat×Nat×Nat)
 |0,_,_,_=>[]
 |f+1,s,at',l=>if l=[]then[]else((step s l).1,at',at'+(step s l).2.1)::toks f (step s l).2.2 (at'+(step s l).2.1) (l.drop (step s l).2.1)
def tokens(l:List Nat):List (Nat×Nat×Nat):=if 16384<l.length then[]else toks l.length (fresh 0 (-1)) 0 l
def ng(s:ByteArray):List Nat:=s.data.toList.map UInt8.toNat
end Sc
namespace Sg
open Go.Lib
theorem pZ(a b:ByteArray):(a++b).size=a.size+b.size:=ByteArray.size_append
theorem Cq(a b:ByteArray):(a++b).data.toList=a.data.toList++b.data.toList:=by simp
theorem get_at(l:List UInt8)(i:Nat):(⟨l.toArray⟩:ByteArray).get! i=l.getD i 0:=by rw[<-getD_get!']
theorem size_at(l:List UInt8):(⟨l.toArray⟩:ByteArray).size=l.length:=by simp[ByteArray.size]
def Dp(r:Int):Nat:=if Utf8.valid r then r.toNat else 65533
theorem UW(r:Int):Dp r<55296\/(57344<=Dp r/\Dp r<=1114111):=by
 unfold Dp;split
 ·rename_i h;simp[Utf8.valid]at h;omega
 omega
theorem LC{r:Int}(h:Utf8.valid r=true):(Dp r:Int)=r:=by
 unfold Dp;rw[gu h];simp[Utf8.valid]at h;omega
def enc1(c:Nat):List UInt8:=[UInt8.ofNat c]
def enc2(c:Nat):List UInt8:=[UInt8.ofNat (192+c/64),UInt8.ofNat (128+c%64)]
def enc3(c:Nat):List UInt8:=[UInt8.ofNat (224+c/4096),UInt8.ofNat (128+c/64%64),UInt8.ofNat (128+c%64)]
def enc4(c:Nat):List UInt8:=[UInt8.ofNat (240+c/262144),UInt8.ofNat (128+c/4096%64),UInt8.ofNat (128+c/64%64),UInt8.ofNat (128+c%64)]
def yH(c:Nat):List UInt8:=if c<128 then enc1 c else if c<2048 then enc2 c else if c<65536 then enc3 c else enc4 c
theorem encode_eq(r:Int):Utf8.encode r=⟨(yH (Dp r)).toArray⟩:=by
 have h:Utf8.encode r=(if Dp r<128 then⟨(enc1 (Dp r)).toArray⟩else if Dp r<2048 then⟨(enc2 (Dp r)).toArray⟩else if Dp r<65536 then⟨(enc3 (Dp r)).toArray⟩else⟨(enc4 (Dp r)).toArray⟩):=rfl;rw[h];unfold yH;by_cases c1:Dp r<128
 ·rw[gu c1,gu c1]
 by_cases c2:Dp r<2048
 ·rw[fu c1,gu c2,fu c1,gu c2]
 by_cases c3:Dp r<65536
 ·rw[fu c1,fu c2,gu c3,fu c1,fu c2,gu c3]
 rw[fu c1,fu c2,fu c3,fu c1,fu c2,fu c3]
theorem byte_of(n:Nat)(h:n<256):(UInt8.ofNat n).toNat=n:=by simp;omega
theorem OO(c:Nat):1<=(yH c).length/\(yH c).length<=4:=by
 unfold yH
 (repeat' split)<;>simp[enc1,enc2,enc3,enc4]
theorem Hw(r:Int):(Utf8.encode r).size=(yH (Dp r)).length:=by rw[encode_eq,size_at]
end Sg
namespace Sg
open Go.Lib
theorem ext_size(s:ByteArray)(a i:Nat)(h:i<=s.size):(s.extract a i).size=i-a:=by
 rw[K8];omega
theorem ext_get(s:ByteArray)(a i j:Nat)(h:a+j<i):(s.extract a i).get! j=s.get! (a+j):=by
 rw[<-getD_get!',<-getD_get!',extract_data,pO,pO,Nn,gu (by omega),xP]
end Sg
namespace Sc
open Sg
theorem rF(s:ByteArray):(ng s).length=s.size:=by
 unfold ng;rw[tV,vZ]
theorem Ah(s:ByteArray)(i:Nat):(ng s).getD i 0=(s.get! i).toNat:=by
 unfold ng;rw[pO,r9,<-BP,pO];cases s.data.toList[i]?<;>rfl
theorem xF(s:ByteArray)(i:Nat):((ng s).drop i).length=s.size-i:=by rw[oz,rF]
theorem yh(s:ByteArray)(i j:Nat):((ng s).drop i).getD j 0=(s.get! (i+j)).toNat:=by
 rw[pO,xP,<-pO,Ah]
theorem drop_cons(s:ByteArray)(i:Nat)(h:i<s.size):(ng s).drop i=(s.get! i).toNat::(ng s).drop (i+1):=by
 rw[yE (by rw[rF];exact h)];congr 1;have h2:=Ah s i;rw[pO,qQ (by rw[rF];exact h)]at h2;exact h2
theorem IE(s:ByteArray)(i:Nat)(h:i<s.size):(s[i]'h)=s.get! i:=by
 have e:=BP s i;rw[<-e,pO,qQ (by rw[<-vZ];exact h)];rfl
theorem RI(s:ByteArray):∀c∈ng s,c<256:=by
 intro c hc;unfold ng at hc;rw[AO]at hc;obtain⟨x,_,rfl⟩:=hc;exact Nu x
theorem JU(s:ByteArray)(i:Nat):nx s i=qV ((ng s).drop i):=by
 unfold nx qV;rw[xF,yh,yh,yh,yh];rfl
theorem vw(p:Nat->Bool)(l:List Nat):run p l<=l.length:=by
 induction l with
 |nil=>exact mJ _
 |cons c r ih=>rw[run];split<;>simp<;>omega
end Sc
namespace Sc
open Sg
theorem Bq(c:Nat)(r:List Nat):1<=(qV (c::r)).2:=by
 unfold qV xm;rw[fu (by simp)];have h:1<=(Lib.decodeN (c::r).length ((c::r).getD 0 0) ((c::r).getD 1 0) ((c::r).getD 2 0) ((c::r).getD 3 0)).2:=by
  unfold Lib.decodeN
  (repeat' split)<;>(dsimp only;omega)
 split<;>exact h
theorem Ob(c:Nat)(r:List Nat):(qV (c::r)).2<=(c::r).length:=by
 unfold qV xm;rw[fu (by simp)];have h:=Oa (c::r).length ((c::r).getD 0 0) ((c::r).getD 1 0) ((c::r).getD 2 0) ((c::r).getD 3 0) (by simp);split<;>exact h
theorem Ai(op:Bool):∀(f g p:Nat)(l:List Nat),l.length<=f->l.length<=g->goes op f p l=goes op g p l
 |0,g,p,l,h,_=>by
  obtain rfl:l=[]:=uV (by omega);cases g<;>rfl
 |f+1,0,p,l,_,h=>by
  obtain rfl:l=[]:=uV (by omega);rfl
 |f+1,g+1,p,l,hf,hg=>by
  rw[goes,goes];by_cases hs:stop op (blk p) l=true
  ·rw[gu hs,gu hs]
  rw[fu hs,fu hs];cases l with
  |nil=>exact absurd rfl hs
  |cons c r=>
   have h1:=Bq c r;rw[Ai op f g _ _ (by rw[oz];omega) (by rw[oz];omega)]
def sw(op:Bool)(p:Nat)(l:List Nat):Nat:=goes op l.length p l
theorem I5(op:Bool)(p:Nat)(l:List Nat)(h:stop op (blk p) l=true):sw op p l=0:=by
 unfold sw;cases hl:l.length with
 |zero=>rfl
 |succ n=>rw[goes,gu h]
theorem OQ(op:Bool)(p:Nat)(l:List Nat)(h:stop op (blk p) l=false):sw op p l=(qV l).2+sw op (l.getD ((qV l).2-1) 0) (l.drop (qV l).2):=by
 cases l with
 |nil=>cases h
 |cons c r=>
  have h1:=Bq c r;unfold sw;rw[nI,goes,fu (by rw[h];simp)];rw[Ai op r.length _ _ _ (by rw[oz,nI];omega) (mJ _)]
theorem Aj(op:Bool)(r:List Nat):wC op r=trim (r.take ((qV r).2+sw op (r.getD ((qV r).2-1) 0) (r.drop (qV r).2))):=by
 unfold wC sw;rw[Ai op r.length _ _ _ (by rw[oz];omega) (mJ _)]
theorem RJ(l:List Nat):trim l<=l.length:=by
 induction l with
 |nil=>exact mJ _
 |cons c r ih=>rw[trim,nI];(repeat' split)<;>omega
theorem UX(s:ByteArray)(p:Nat):bad ((ng s).drop p)=decide ((nx s p).1<0):=by rw[bad,<-JU]
end Sc
namespace Sc
open Sg
theorem JV(l:List Nat):vD l<=l.length:=by
 fun_induction vD l<;>simp_all<;>omega
theorem JW(l:List Nat):uo l<=l.length:=by
 fun_induction uo l<;>simp_all<;>omega
theorem OU(l:List Nat)(h:0<(named l).1):0<(named l).2/\(named l).2<=l.length:=by
 cases l with
 |nil=>exact absurd h (by decide)
 |cons c r=>
  have h1:=vw Ae r;have h2:=vw Nf r;unfold named at h⊢
  (repeat' split at h)<;>(repeat' split)<;>simp_all<;>omega
theorem LF(l:List Nat)(h:0<(quoted l).1):0<(quoted l).2/\(quoted l).2<=l.length:=by
 cases l with
 |nil=>exact absurd h (by decide)
 |cons c r=>
  have h1:=JV r;have h2:=JW r;unfold quoted at h⊢
  (repeat' split at h)<;>(repeat' split)<;>simp_all<;>omega
theorem Cr(r:List Nat):uU r<=r.length+1:=by
 cases r with
 |nil=>decide
 |cons c t=>rw[uU];(repeat' split)<;>simp
theorem Gs(l:List Nat):vG l<=l.length:=by
 cases l with
 |nil=>decide
 |cons c r=>
  have:=Cr r;rw[vG];split
  ·split
   ·simpa using this
   exact nO _
  exact nO _
theorem OV(c:Nat)(r:List Nat)(h:blk c=false):0<trim (c::r):=by
 rw[trim];by_cases h1:trim r=0
 ·rw[gu h1,h];decide
 rw[fu h1];omega
theorem I6(op:Bool)(c:Nat)(r:List Nat)(h:blk c=false):0<wC op (c::r):=by
 rw[Aj];obtain⟨k,hk⟩:∃k,(qV (c::r)).2+sw op ((c::r).getD ((qV (c::r)).2-1) 0) ((c::r).drop (qV (c::r)).2)=k+1:=⟨_,(Nat.succ_pred_eq_of_pos (by have:=Bq c r;omega)).symm⟩
 rw[hk,AR];exact OV c _ h
theorem LG(op:Bool)(r:List Nat):wC op r<=r.length:=by
 rw[Aj];refine qy (RJ _) ?_;rw[qx];exact Nat.min_le_right _ _
theorem RN(op:Nat)(dash:Bool)(c:Nat)(r:List Nat)(h:blk c=false):0<(word op dash (c::r)).2/\(word op dash (c::r)).2<=(c::r).length:=by
 have h1:=OU (c::r);have h2:=LF (c::r);have h3:=Gs (c::r);have h4:=I6 (decide (0<op)) c r h;have h5:=LG (decide (0<op)) (c::r);unfold word
 (repeat' split)<;>simp_all
theorem Cs(r:List Nat)(h:0<mark r):3<=r.length:=by
 unfold mark at h;have key:∀l:List Nat,l.length=3->r.take 3=l->3<=r.length:=by
  intro l hl e;have:(r.take 3).length=3:=by rw[e,hl]
  rw[qx]at this;omega
 split at h
 ·rename_i e;exact key _ rfl e
 split at h
 ·rename_i e;exact key _ rfl e
 exact absurd h (by decide)
theorem OW(p:Nat->Bool)(c:Nat)(r:List Nat)(h:¬0<run p (c::r)):p c=false:=by
 cases hp:p c with
 |false=>rfl
 |true=>rw[run,gu hp]at h;omega
theorem JX(op:Nat)(dash blank first:Bool)(c:Nat)(r:List Nat):0<(next op dash blank first (c::r)).2/\(next op dash blank first (c::r)).2<=(c::r).length:=by
 have h1:=Cs (c::r);have h2:=vw wZ (c::r);have h3:=vw blk (c::r);unfold next;split
 ·rename_i h;exact⟨(by decide:(0:Nat)<3),h1 h.2⟩
 split
 ·rename_i h;exact⟨h.2,h2⟩
 split
 ·rename_i h;exact⟨h,h3⟩
 split
 ·exact⟨by simp,mJ _⟩
 rename_i h _;exact RN op dash c r (OW blk c r h)
theorem ru(l:List Nat):nP l<=l.length:=vw _ _
theorem pN(l:List Nat):(ni l).length=nP l:=by
 rw[ni,qx];have:=ru l;omega
theorem Ej(l:List Nat)(j:Nat)(h:j<=nP l):nP (l.drop j)=nP l-j:=by
 induction l generalizing j with
 |nil=>
  have:j=0:=by have:=ru ([]:List Nat);simp at this;omega
  subst this;rfl
 |cons c r ih=>
  cases j with
  |zero=>rfl
  |succ j=>
   have hc:(!brk c)=true:=by
    unfold nP at h;rw[run]at h;split at h
    ·assumption
    omega
   have e:nP (c::r)=nP r+1:=by unfold nP;rw[run,gu hc]
   rw[Ld,e,ih j (by omega)];omega
theorem Gt(l:List Nat)(h:l≠[])(h0:nP l=0):0<rz l:=by
 cases l with
 |nil=>exact absurd rfl h
 |cons c r=>
  have hc:brk c=true:=by
   cases hb:brk c with
   |true=>rfl
   |false=>
    unfold nP at h0;rw[run,gu (by rw[hb];rfl)]at h0;omega
  have:c=10\/c=13:=by simpa [brk]using hc
  cases r with
  |nil=>rcases this with rfl|rfl<;>decide
  |cons d t=>rcases this with rfl|rfl<;>simp[rz]<;>split<;>omega
theorem Fw(l:List Nat):rz l<=l.length:=by
 cases l with
 |nil=>decide
 |cons c r=>
  cases r with
  |nil=>rw[rz];(repeat' split)<;>simp
  |cons d t=>rw[rz];(repeat' split)<;>simp
theorem JY(s:St)(l:List Nat)(h:l≠[]):0<(mid s l).2.1/\(mid s l).2.1<=l.length:=by
 unfold mid;split
 ·rename_i h0;exact⟨Gt l h h0,Fw l⟩
 rename_i h0;have hl:=pN l;have hle:=ru l;cases hr:ni l with
 |nil=>rw[hr]at hl;exact absurd hl.symm h0
 |cons c r=>
  have:=JX s.op s.dash s.blank (s.mE==0) c r;rw[<-hr]at this⊢;exact⟨this.1,by rw[hl]at this;exact qy this.2 hle⟩
theorem step_pos(s:St)(l:List Nat)(h:l≠[]):0<(step s l).2.1/\(step s l).2.1<=l.length:=by
 unfold step;split
 ·split
  ·have h1:=ru l;have h2:=Fw (l.drop (nP l));rw[oz]at h2;refine⟨?_,by simp only;omega⟩;by_cases h0:nP l=0
   ·have:=Gt l h h0;simp only[h0,Dz];omega
   simp only;omega
  exact JY _ l h
 exact JY _ l h
theorem El:∀(f g:Nat)(s:St)(at':Nat)(l:List Nat),l.length<=f->l.length<=g->toks f s at' l=toks g s at' l
 |0,g,s,at',l,h,_=>by
  obtain rfl:l=[]:=uV (by omega);cases g<;>rfl
 |f+1,0,s,at',l,_,h=>by
  obtain rfl:l=[]:=uV (by omega);rfl
 |f+1,g+1,s,at',l,hf,hg=>by
  rw[toks,toks];by_cases hl:l=[]
  ·rw[gu hl,gu hl]
  rw[fu hl,fu hl];have:=step_pos s l hl;rw[El f g _ _ _ (by rw[oz];omega) (by rw[oz];omega)]
def xn(s:St)(at':Nat)(l:List Nat):List (Nat×Nat×Nat):=toks l.length s at' l
theorem Ak(s:St)(at':Nat):xn s at' []=[]:=rfl
theorem sV(s:St)(at':Nat)(l:List Nat)(h:l≠[]):xn s at' l=((step s l).1,at',at'+(step s l).2.1)::xn (step s l).2.2 (at'+(step s l).2.1) (l.drop (step s l).2.1):=by
 unfold xn;cases hl:l.length with
 |zero=>exact absurd (uV hl) h
 |succ n=>
  have:=step_pos s l h;rw[toks,fu h,El n (l.drop (step s l).2.1).length _ _ _ (by rw[oz];omega) (mJ _)]
theorem Al(l:List Nat):tokens l=if 16384<l.length then[]else xn (fresh 0 (-1)) 0 l:=rfl
end Sc
section
open Go.RowKit
def uG(w:World)(v:Value)(s:ByteArray):Prop:=
 (v=.slice none 0 0/\s.size=0)\/∃b off cap,v=.slice (some ⟨b,off,none⟩) s.size cap/\s.size<=cap/\cap<=maxLen/\∀j,j<s.size->w.cell? ⟨b,off+j,none⟩=some (.int .u8 (s.get! j).toNat)
theorem lt_of_cell{w:World}{a:Addr}{v:Value}(h:w.cell? a=some v):a.block<w.heap.size:=by
 unfold World.cell? at h;rcases sJ a.block w.heap.size with h'|h'
 ·exact h'
 simp[Array.getElem?_eq_none h']at h
theorem uG.below{w w':World}{v:Value}{s:ByteArray}(h:uG w v s)(hb:Below w.heap.size w w'):uG w' v s:=by
 rcases h with h|⟨b,off,cap,h1,h2,h3,h4⟩
 ·exact .inl h
 refine .inr ⟨b,off,cap,h1,h2,h3,λj hj=>?_⟩;have h5:=h4 j hj;have h6:b<w.heap.size:=lt_of_cell h5
 rw[hb.cell (p:=⟨b,off+j,none⟩) h6];exact h5
theorem uG.size_le{w:World}{v:Value}{s:ByteArray}(h:uG w v s):s.size<=maxLen:=by
 rcases h with⟨_,h⟩|⟨b,off,cap,_,h2,h3,_⟩
 ·rw[h];exact nO _
 exact qy h2 h3
theorem RO(s:ByteArray)(k i:Nat):Sg.nx (s.extract k s.size) i=Sg.nx s (k+i):=by
 simp only[Sg.nx,Lib.tail_size,Lib.tail_get!];rw[show s.size-k-i=s.size-(k+i)from by omega,show k+(i+1)=k+i+1 from by omega,show k+(i+2)=k+i+2 from by omega,show k+(i+3)=k+i+3 from by omega]
end
namespace Sc
open Sg
theorem LH(op:Nat)(least:Int)(l:List Nat)(h:isText least (ni l)=true):step (fresh op least) l=(19,nP l+rz (l.drop (nP l)),fresh op least):=by
 unfold step;rw[gu (show(fresh op least).mE=0 from rfl),gu (show isText (fresh op least).least (ni l)=true from h)];rfl
theorem Ct(s:St)(l:List Nat)(h:s.mE=0->s.least=-1):step s l=mid s l:=by
 unfold step;by_cases hc:s.mE=0
 ·have hl:=h hc;rw[gu hc,fu (by rw[hl];simp[isText])];congr 1;cases s;simp only at hl;rw[hl]
 rw[fu hc]
theorem I7(op:Nat)(least:Int)(l:List Nat)(h:isText least (ni l)=false):step (fresh op least) l=step (fresh op (-1)) l:=by
 rw[Ct (fresh op (-1)) l (λ_=>rfl)];unfold step;rw[gu (show(fresh op least).mE=0 from rfl),fu (by rw[show(fresh op least).least=least from rfl,h];simp)];rfl
theorem Hy(op:Nat)(least:Int)(p:Nat)(l:List Nat)(h:isText least (ni l)=false):xn (fresh op least) p l=xn (fresh op (-1)) p l:=by
 cases l with
 |nil=>rfl
 |cons c r=>rw[sV (fresh op least) p (c::r) (by simp),sV (fresh op (-1)) p (c::r) (by simp),I7 op least _ h]
theorem UY(s:St)(l:List Nat)(h:nP l≠0):mid s l=((next s.op s.dash s.blank (s.mE==0) (ni l)).1,(next s.op s.dash s.blank (s.mE==0) (ni l)).2,take s (next s.op s.dash s.blank (s.mE==0) (ni l)).1 (next s.op s.dash s.blank (s.mE==0) (ni l)).2):=by
 unfold mid;rw[fu h]
theorem mid_end(s:St)(l:List Nat)(h:nP l=0):mid s l=(1,rz l,fresh s.op s.least):=by
 unfold mid;rw[gu h]
theorem Cu(op k:Nat):opens op k<=op+1:=by
 unfold opens;(repeat' split)<;>omega
structure bu(L:List Nat)(Tot l:List (Nat×Nat×Nat))(st:St)(at':Nat):Prop where
 tot:l++xn st at' (L.drop at')=Tot
 zero:st.mE=0->st.least=-1
 op:st.op<=at'
 base:-1<=st.base/\st.base<=at'
 least:-1<=st.least
 len:l.length<=at'
 mE:st.mE<=at'
 last:st.mE≠0->∃l0 x,l=l0++[x]/\st.blank=(x.1==2||x.1==3)
structure xq(L:List Nat)(Tot l:List (Nat×Nat×Nat))(op:Nat)(least:Int)(p:Nat):Prop where
 tot:l++xn (fresh op least) p (L.drop p)=Tot
 op:op<=p
 least:-1<=least
 len:l.length<=p
theorem xq.text{L:List Nat}{aa l:List (Nat×Nat×Nat)}{op:Nat}{least:Int}{p n:Nat}(h:xq L aa l op least p)(hp:p<L.length)(ht:isText least (ni (L.drop p))=true)(hn:nP (L.drop p)+rz ((L.drop p).drop (nP (L.drop p)))=n):
 xq L aa (l++[(19,p,p+n)]) op least (p+n)/\0<n/\p+n<=L.length:=by
 have hne:L.drop p≠[]:=λe=>by have:=congrArg List.length e;rw[oz]at this;simp at this;omega
 have hs:=LH op least (L.drop p) ht;rw[hn]at hs;have hp2:=step_pos (fresh op least) (L.drop p) hne;rw[hs,oz]at hp2;obtain⟨q1,q2⟩:0<n/\n<=L.length-p:=hp2
 have h1:=h.op;have h2:=h.len;refine⟨⟨?_,by omega,h.least,by simp;omega⟩,q1,by omega⟩;rw[sF,UA,<-h.tot,sV _ _ _ hne,hs,sG]
theorem xq.row{L:List Nat}{aa l:List (Nat×Nat×Nat)}{op:Nat}{least:Int}{p:Nat}(h:xq L aa l op least p)(ht:isText least (ni (L.drop p))=false):bu L aa l (fresh op (-1)) p:=
 ⟨by rw[<-h.tot,Hy op least p _ ht],λ_=>rfl,h.op,⟨pW _,by show(-1:Int)<=(p:Int);omega⟩,pW _,h.len,nO _,λhc=>absurd rfl hc⟩
theorem bu.on{L:List Nat}{aa l:List (Nat×Nat×Nat)}{st:St}{at' k n:Nat}(h:bu L aa l st at')(hr:nP (L.drop at')≠0)(hn:next st.op st.dash st.blank (st.mE==0) (ni (L.drop at'))=(k,n)):
 bu L aa (l++[(k,at',at'+n)]) (take st k n) (at'+n)/\0<n/\n<=nP (L.drop at'):=by
 have hne:L.drop at'≠[]:=λe=>by rw[e]at hr;exact hr rfl
 have hs:=Ct st (L.drop at') h.zero;rw[UY st _ hr,hn]at hs;have hle:0<n/\n<=nP (L.drop at'):=by
  have hl:=pN (L.drop at');cases hrl:ni (L.drop at')with
  |nil=>rw[hrl]at hl;exact absurd hl.symm hr
  |cons c r=>
   rw[hrl]at hn hl;have:=JX st.op st.dash st.blank (st.mE==0) c r;rw[hn,hl]at this;exact this
 have h1:=h.op;have h2:=h.len;have h3:=Cu st.op k;have h4:=h.base;have h5:=h.least;have h6:=h.mE;refine⟨⟨?_,λhc=>?_,?_,?_,?_,by simp;omega,?_,λ_=>⟨l,_,rfl,rfl⟩⟩,hle⟩
 ·rw[sF,UA,<-h.tot,sV _ _ _ hne,hs,sG]
 ·have:st.mE+n=0:=hc;omega
 ·show opens st.op k<=at'+n;omega
 ·show -1<=(if st.base=-1/\counts k=true then(st.mE:Int)else st.base)/\(if st.base=-1/\counts k=true then(st.mE:Int)else st.base)<=((at'+n:Nat):Int);split<;>omega
 ·show -1<=(if k=18 then(if st.base=-1 then(st.mE:Int)else st.base+1)else st.least)
  (repeat' split)<;>omega
 show st.mE+n<=at'+n;omega
theorem bu.brk{L:List Nat}{aa l:List (Nat×Nat×Nat)}{st:St}{at':Nat}(h:bu L aa l st at')(hr:nP (L.drop at')=0)(hb:0<rz (L.drop at')):
 xq L aa (l++[(1,at',at'+rz (L.drop at'))]) st.op st.least (at'+rz (L.drop at'))/\at'+rz (L.drop at')<=L.length:=by
 have hne:L.drop at'≠[]:=λe=>by rw[e]at hb;exact absurd hb (by decide)
 have hs:=Ct st (L.drop at') h.zero;rw[mid_end st _ hr]at hs;have h1:=h.op;have h2:=h.len;have h3:=Fw (L.drop at');rw[oz]at h3;refine⟨⟨?_,by omega,h.least,by simp;omega⟩,by omega⟩;rw[sF,UA,<-h.tot,sV _ _ _ hne,hs,sG]
end Sc
namespace Sq
open Go.RowKit
theorem nX(b off j:Nat):(⟨b,off,none⟩:Addr).add j=⟨b,off+j,none⟩:=by
 unfold Addr.add;split
 ·rename_i h;subst h;rfl
 rfl
theorem JZ{w:World}{a:Addr}{v:Value}(h:w.cell? a=some v):a.block<w.heap.size:=by
 unfold World.cell? at h;rcases sJ a.block w.heap.size with h'|h'
 ·exact h'
 simp[Array.getElem?_eq_none h']at h
structure qP(α:Type) where
 cells:α->List Value
 k:Nat
 pos:0<k
 len:∀x,(cells x).length=k
 one:∀x,∀u∈cells x,u.oneCell'=true
variable {α:Type}
def qP.all(E:qP α):List α->List Value
 |[]=>[]
 |x::r=>E.cells x++E.all r
theorem pK(E:qP α)(l:List α):(E.all l).length=l.length*E.k:=by
 induction l with
 |nil=>simp[qP.all]
 |cons x r ih=>rw[qP.all,oq,E.len,ih,nI,xR];omega
theorem uZ(E:qP α)(l m:List α):E.all (l++m)=E.all l++E.all m:=by
 induction l with
 |nil=>rfl
 |cons x r ih=>rw[Q5,qP.all,qP.all,ih,sF]
theorem xX(E:qP α)(l:List α):∀u∈E.all l,u.oneCell'=true:=by
 induction l with
 |nil=>intro u hu;cases hu
 |cons x r ih=>
  intro u hu;rw[qP.all,rQ]at hu;rcases hu with hu|hu
  ·exact E.one x u hu
  exact ih u hu
theorem qh(E:qP α)(l:List α)(j:Nat)(x:α)(h:l[j]?=some x)(i:Nat)(hi:i<E.k):(E.all l)[j*E.k+i]?=(E.cells x)[i]?:=by
 induction l generalizing j with
 |nil=>simp at h
 |cons y r ih=>
  cases j with
  |zero=>
   obtain rfl:y=x:=by simpa using h
   rw[qP.all,vC (by rw[E.len];omega)];simp
  |succ j=>
   rw[qP.all,yF (by rw[E.len,xR];omega),E.len,show(j+1)*E.k+i-E.k=j*E.k+i from by rw[xR];omega];exact ih j (by simpa using h)
theorem Cv(E:qP α)(l:List α)(n:Nat):(E.all l).take (n*E.k)=E.all (l.take n):=by
 induction l generalizing n with
 |nil=>simp[qP.all]
 |cons x r ih=>
  cases n with
  |zero=>simp[qP.all]
  |succ n=>
   rw[qP.all,AR,qP.all,List.take_append,E.len,show(n+1)*E.k-E.k=n*E.k from by rw[xR];omega,ih n,DI (by rw[E.len,xR];omega)]
def Reads(E:qP α)(w:World)(v:Value)(l:List α):Prop:=
 (v=.slice none 0 0/\l=[])\/∃b off cap,v=.slice (some ⟨b,off,none⟩) l.length cap/\l.length<=cap/\cap<=maxLen/\∀j x,l[j]?=some x->∀i u,(E.cells x)[i]?=some u->w.cell? ⟨b,off+j*E.k+i,none⟩=some u
variable {E:qP α}{w w':World}{v:Value}{l:List α}
theorem Reads.below(h:Reads E w v l)(hb:Below w.heap.size w w'):Reads E w' v l:=by
 rcases h with h|⟨b,off,cap,h1,h2,h3,h4⟩
 ·exact .inl h
 refine .inr ⟨b,off,cap,h1,h2,h3,λj x hj i u hu=>?_⟩;have h5:=h4 j x hj i u hu;rw[hb.cell (p:=⟨b,off+j*E.k+i,none⟩) (JZ h5)];exact h5
theorem Reads.shape(h:Reads E w v l):∃a cap,v=.slice a l.length cap:=by
 rcases h with⟨h1,h2⟩|⟨b,off,cap,h1,_⟩
 ·exact⟨none,0,by rw[h1,h2];rfl⟩
 exact⟨_,_,h1⟩
theorem Reads.size_le(h:Reads E w v l):l.length<=maxLen:=by
 rcases h with⟨_,h⟩|⟨b,off,cap,_,h2,h3,_⟩
 ·rw[h];exact nO _
 exact qy h2 h3
theorem Reads.B6{a:Option Addr}{cap:Nat}(h:Reads E w (.slice a l.length cap) l):l.length<=cap/\cap<=maxLen:=by
 rcases h with⟨hv,h0⟩|⟨b,off,cap',hv,g2,g3,g4⟩
 ·obtain⟨rfl,-,rfl⟩:=sK hv;exact⟨by rw[h0];exact mJ _,nO _⟩
 obtain⟨rfl,-,rfl⟩:=sK hv;exact⟨g2,g3⟩
theorem Reads.at_{a:Option Addr}{cap:Nat}(h:Reads E w (.slice a l.length cap) l)(j:Nat)(x:α)(hj:l[j]?=some x):
 ∃b off,a=some ⟨b,off,none⟩/\∀i u,(E.cells x)[i]?=some u->w.cell? ⟨b,off+j*E.k+i,none⟩=some u:=by
 rcases h with⟨_,rfl⟩|⟨b,off,cap',hv,h2,h3,h4⟩
 ·simp at hj
 obtain⟨rfl,-,rfl⟩:=sK hv;exact⟨b,off,rfl,h4 j x hj⟩
theorem Reads.mW{base:Nat}{e:TypeId}(h:w.ownsRow base e E.k v l.length (E.all l)):Reads E w v l:=by
 rcases h.2 with⟨h1,h2⟩|⟨g,cap,cur,h1,h2,h3,h4,h5,h6,h7⟩
 ·exact .inl ⟨h1,uV h2⟩
 refine .inr ⟨g,0,cap,h1,h4,h5,λj x hj i u hu=>?_⟩;have hi:i<E.k:=by rw[<-E.len x];exact(nC.1 hu).1
 have c1:=h.cells (g:=g) (by rw[h1];rfl) _ _ ((qh E l j x hj i hi).trans hu);rw[nX]at c1;rw[qz]at c1⊢;exact c1
theorem own_below{B e size n:Nat}{xs:List Value}(h:w.ownsRow B e size v n xs)(hb:Below w.heap.size w w'):w'.ownsRow B e size v n xs:=by
 refine⟨h.1,?_⟩;rcases h.2 with h0|⟨g,cap,cur,hv,hbg,hg,rest⟩
 ·exact .inl h0
 have hlt:g<w.heap.size:=(Ng.1 hg).1
 exact .inr ⟨g,cap,cur,hv,hbg,(hb.block g hlt).trans hg,rest⟩
theorem oU{B B' e size n:Nat}{xs:List Value}(h:w.ownsRow B e size v n xs)(hB:B'<=B):w.ownsRow B' e size v n xs:=by
 refine⟨h.1,?_⟩;rcases h.2 with h0|⟨g,cap,cur,hv,hbg,rest⟩
 ·exact .inl h0
 exact .inr ⟨g,cap,cur,hv,qy hB hbg,rest⟩
structure Ty(P:Program)(E:qP α)(t e:TypeId)(bytes:Nat):Prop where
 ht:P.underlying t=some (.slice e)
 he:P.elem t=e
 parts:∃i z,P.info? e=some i/\i.zero=some z/\i.size=E.k/\i.bytes=bytes/\z.cells.size=E.k
 size:∀w,(sizeOf e).run P w=.ok E.k w
theorem Ty.of{P:Program}{E:qP α}{t e:TypeId}{bytes:Nat}{z:Value}(ht:P.underlying t=some (.slice e))(he:P.elem t=e)(hi:(P.info? e).map (λi=>(i.zero,i.size,i.bytes))=some (some z,E.k,bytes))(hz:z.cells.size=E.k)(hs:∀w,(sizeOf e).run P w=.ok E.k w):Ty P E t e bytes:=by
 obtain⟨i,h1,h2,h3,h4⟩:=Fa hi;exact⟨ht,he,⟨i,z,h1,h2,h3,h4,hz⟩,hs⟩
theorem news{b off:Nat}(h:∀j x,l[j]?=some x->∀i u,(E.cells x)[i]?=some u->w.cell? ⟨b,off+j*E.k+i,none⟩=some u):
 ∀j u,(E.all l)[j]?=some u->w.cell? ((⟨b,off,none⟩:Addr).add j)=some u:=by
 intro j u hu;have hj:j<l.length*E.k:=by rw[<-pK];exact(nC.1 hu).1
 have hk:=E.pos;have hd:j/E.k<l.length:=(Nat.div_lt_iff_lt_mul hk).2 hj
 have hm:j%E.k<E.k:=Nat.mod_lt _ hk
 have e1:j=j/E.k*E.k+j%E.k:=by rw[Nat.mul_comm];exact(Nat.div_add_mod j E.k).symm
 have hx:=qQ hd;have h2:=h (j/E.k) _ hx (j%E.k) u (by rw[<-qh E l (j/E.k) _ hx _ hm,<-e1];exact hu);rw[nX,show off+j=off+j/E.k*E.k+j%E.k from by omega];exact h2
theorem qm{w0:World}{P:Program}{t e:TypeId}{bytes:Nat}(T:Ty P E t e bytes){ops:Array Oper}{rest:List Oper}{o:Oper}{act:Act}{Q:Exit->Act->World->Prop}(hgd:o.guard=none)(x y:Operand)
 (ho:o.op=.call {callee:=.builtin .append,args:=#[x,y],argTypes:=#[t,t]})
 (base:Nat) (v:Value) (l:List α) (u:α) (cs:List Value) (hc:E.cells u=cs) (hs:act.eval x=v) (hown:w0.ownsRow base e E.k v l.length (E.all l))
 (hy:act.eval y=.slice (some ⟨w0.heap.size,0,none⟩) 1 1) (hmax:l.length+1<=maxLen) (hlen:(l.length+1)*bytes<=140737488355328) (hbase:base<=w0.heap.size)
 (h:∀v' w',w'.ownsRow base e E.k v' (l++[u]).length (E.all (l++[u]))->(w0.alloc (.cells cs.toArray e)).grownBy w' v.ownBlock->wpList P ops Q rest (act.put o.dst v') w'):
 wpList P ops Q (o::rest) act (w0.alloc (.cells cs.toArray e)):=by
 obtain⟨i,z,hi,hz,hsz,hby,hzs⟩:=T.parts;subst hc;have ea:E.all [u]=E.cells u:=by rw[qP.all,qP.all,rD]
 refine Rm _ hgd x y t ho base e i z E.k bytes T.ht hi hz hsz hby hzs E.pos v l.length (E.all l) hs (hown.alloc _) ⟨w0.heap.size,0,none⟩ 1 1 (E.all [u]) hy (pK E [u]) ?_ (xX E [u]) hmax hlen (by simp;omega) (λv' w' q1 q2 _=>h v' w' (by rw[uZ,oq];exact q1) q2);intro j c hj;rw[ea]at hj;rw[nX,qz];rw[Rn]
 simpa using hj
theorem rG{e:TypeId}(E:qP α)(w:World):(w.alloc (.cells #[] e)).ownsRow w.heap.size e E.k (.slice (some ⟨w.heap.size,0,none⟩) 0 0) ([]:List α).length (E.all []):=
 World.ownsRow_made (base:=w.heap.size) w #[] 0 (mJ _) (nO _) (by simp)
theorem qG{e:TypeId}(E:qP α)(w:World)(base:Nat):w.ownsRow base e E.k (.slice none 0 0) ([]:List α).length (E.all []):=Iw w base e E.k
end Sq
section
open Go.RowKit
theorem size_alloc(w:World)(o:Obj):(w.alloc o).heap.size=w.heap.size+1:=by simp
theorem mr(w:World)(o:Obj):Below w.heap.size w (w.alloc o):=(mF _ w).alloc (mJ _) o
theorem uj{a w:World}(h:Below a.heap.size a w)(o:Obj):Below a.heap.size a (w.alloc o):=h.alloc h.size o
theorem pU(w:World)(a:Addr)(v:Value)(h:(w.cell? a).isSome=true):(w.setCell a v).cell? a=some v:=by
 obtain⟨u,hu⟩:=Wp.1 h;exact World.cell?_setCell_same w a v hu
theorem FQ(w:World)(b o o':Nat)(v:Value)(h:o≠o'):(w.setCell ⟨b,o,none⟩ v).cell? ⟨b,o',none⟩=w.cell? ⟨b,o',none⟩:=
 UH w _ _ v (λe=>h (by injection e))
theorem FR(w:World)(b o b' o':Nat)(v:Value)(h:b≠b'):(w.setCell ⟨b,o,none⟩ v).cell? ⟨b',o',none⟩=w.cell? ⟨b',o',none⟩:=
 UH w _ _ v (λe=>h (by injection e))
theorem ku{W w':World}{p:Addr}{u:Value}(hb:Below W.heap.size W w')(h:W.cell? p=some u):w'.cell? p=some u:=by rw[hb.cell (lt_of_cell h)];exact h
theorem Ca{W:World}{b o o':Nat}{v u:Value}(hne:o≠o')(h:W.cell? ⟨b,o',none⟩=some u):(W.setCell ⟨b,o,none⟩ v).cell? ⟨b,o',none⟩=some u:=by rw[FQ _ _ _ _ _ hne];exact h
theorem UZ{W:World}{b o b' o':Nat}{v u:Value}(hne:b≠b')(h:W.cell? ⟨b',o',none⟩=some u):(W.setCell ⟨b,o,none⟩ v).cell? ⟨b',o',none⟩=some u:=by rw[FR _ _ _ _ _ _ hne];exact h
theorem oG{W:World}{o:Obj}{p:Addr}{u:Value}(h:W.cell? p=some u):(W.alloc o).cell? p=some u:=by rw[(mr W o).cell (lt_of_cell h)];exact h
theorem at_new{W:World}{C:Array Value}{t:TypeId}{k:Nat}{u:Value}(h:C[k]?=some u):(W.alloc (.cells C t)).cell? ⟨W.heap.size,k,none⟩=some u:=by rw[wh];exact h
theorem pR{W:World}{p:Addr}{u:Value}(h:W.cell? p=some u):W.drew.cell? p=some u:=h
end
namespace Sq
open Go.RowKit
variable {α:Type}{E:qP α}{w w':World}{l:List α}
theorem Bn{P:Program}{t e:TypeId}{bytes:Nat}(T:Ty P E t e bytes){ops:Array Oper}{o:Oper}{act:Act}{K:Act->World->Prop}{Q:Exit->Act->World->Prop}{G:Prop}(hgd:o.guard=none)(x y:Operand)
 (ho:o.op=.call {callee:=.builtin .append,args:=#[x,y],argTypes:=#[t,t]})
 (base:Nat) (v:Value) (l:List α) (hs:act.eval x=v) (hown:w.ownsRow base e E.k v l.length (E.all l)) (yv:Value) (m:List α) (hy:act.eval y=yv) (hb:Reads E w yv m)
 (hmax:l.length+m.length<=maxLen) (hlen:(l.length+m.length)*bytes<=140737488355328) (hbase:base<=w.heap.size)
 (h:∀v' w',w'.ownsRow base e E.k v' (l++m).length (E.all (l++m))->w.grownBy w' v.ownBlock->K (act.put o.dst v') w'):
 if Region.wanted o (yielded ops act.tmps)=true then Oper.wp P o act w K Q else G:=by
 obtain⟨i,z,hi,hz,hsz,hby,hzs⟩:=T.parts;have hw:Region.wanted o (yielded ops act.tmps)=true:=by simp[Region.wanted,hgd]
 rw[gu hw];rcases hb with⟨rfl,rfl⟩|⟨b,off,cap,rfl,h2,h3,h4⟩
 ·have hrun:=run_append_owned_none (P:=P) (w:=w) base t o.type e i E.k T.ht hi v l.length (E.all l) hown;unfold Oper.wp execOp;simp only[ho,resolve,invoke,builtin,Sem.run_bind,Sem.run_pure,Result.andThen_ok,List.map_toArray,wU,DD,hs,hy,hrun];refine h v w ?_ ⟨rfl,rfl,rfl,mJ _,λ_ _ _=>rfl⟩;rw[rD];exact hown
 exact wp_append_own w x y t ho base e i z E.k bytes T.ht hi hz hsz hby hzs E.pos v l.length (E.all l) hs hown ⟨b,off,none⟩ m.length cap (E.all m) hy (pK E m) (news h4) (xX E m) hmax hlen hbase (λv' w' q1 q2 _=>h v' w' (by rw[uZ,oq];exact q1) q2)
theorem vX{P:Program}{t e:TypeId}{bytes:Nat}(T:Ty P E t e bytes){ops:Array Oper}{o:Oper}{act:Act}{K:Act->World->Prop}{Q:Exit->Act->World->Prop}{G:Prop}(hgd:o.guard=none)(x y:Operand)
 (ho:o.op=.call {callee:=.builtin .append,args:=#[x,y],argTypes:=#[t,t]})
 (base:Nat) (v:Value) (l:List α) (hs:act.eval x=v) (hown:w.ownsRow base e E.k v l.length (E.all l)) (b m:Nat) (us:List α) (hm:us.length=m) (hy:act.eval y=.slice (some ⟨b,0,none⟩) m m)
 (hnew:∀j c,(E.all us)[j]?=some c->w.cell? ⟨b,j,none⟩=some c) (hmax:l.length+m<=maxLen) (hlen:(l.length+m)*bytes<=140737488355328) (hbase:base<=w.heap.size)
 (h:∀v' w',w'.ownsRow base e E.k v' (l++us).length (E.all (l++us))->w.grownBy w' v.ownBlock->K (act.put o.dst v') w'):
 if Region.wanted o (yielded ops act.tmps)=true then Oper.wp P o act w K Q else G:=by
 obtain⟨i,z,hi,hz,hsz,hby,hzs⟩:=T.parts;have hw:Region.wanted o (yielded ops act.tmps)=true:=by simp[Region.wanted,hgd]
 rw[gu hw];refine wp_append_own w x y t ho base e i z E.k bytes T.ht hi hz hsz hby hzs E.pos v l.length (E.all l) hs hown ⟨b,0,none⟩ m m (E.all us) hy (by rw[pK,hm]) ?_ (xX E us) hmax hlen hbase (λv' w' q1 q2 _=>h v' w' (by rw[uZ,oq,hm];exact q1) q2);intro j c hj;rw[nX,qz];exact hnew j c hj
end Sq
section
open Go.RowKit
def QR(w:World)(b o:Nat)(u:Value):Prop:=w.cell? ⟨b,o,none⟩=some u/\w.frozen? ⟨b,o,none⟩=false
theorem vP{W w':World}{b o:Nat}{u:Value}(hb:Below W.heap.size W w')(h:QR W b o u):QR w' b o u:=
 ⟨by rw[hb.cell (p:=⟨b,o,none⟩) (lt_of_cell h.1)];exact h.1,by rw[hb.frozen (p:=⟨b,o,none⟩) (lt_of_cell h.1)];exact h.2⟩
theorem zl{W:World}{C:Array Value}{t:TypeId}{k:Nat}{u:Value}(h:C[k]?=some u):QR (W.alloc (.cells C t)) W.heap.size k u:=
 ⟨by rw[wh];exact h,World.frozen?_alloc_new W C t k⟩
end
end Go.Proofs.Ytfbiffdmhcjhbaa

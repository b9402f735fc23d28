import Derived.Test.YtmkkdjpebbdikaaGreatDoorZb00
import Derived.Below
import Derived.Laws.AppendOwn
import Derived.Laws.BitsLemmas
import Derived.Laws.RangeAny
import Derived.Lib.DecodeN
import Derived.Lib.RuneCount
import Derived.Lib.RuneCountTail
import Derived.Lib.SlTrimSet
import Derived.Lib.Strings
import Derived.WalkKit
set_option linter.all false
set_option maxHeartbeats 16000000
set_option maxRecDepth 100000
namespace Go.Proofs.YtmkkdjpebbdikaaGreatDoor
def aid:=@Lib.tail_size
def aeK:=@Lib.tail_get!
def vL:=@Lib.size_eq
def AJ:=@Lib.getD_get!'
namespace Sg
open Go.Lib
def Dj(n b0 b1 b2 b3:Nat):Int×Nat:=
 if n=0 then(-1,0)else if(decodeN n b0 b1 b2 b3).1=65533/\(decodeN n b0 b1 b2 b3).2<2 then(-1,(decodeN n b0 b1 b2 b3).2)else(((decodeN n b0 b1 b2 b3).1:Int),(decodeN n b0 b1 b2 b3).2)
def sg2(n v0 b1:Nat):Int×Nat:=
 if n<2 then(-1,1)else if b1<128\/b1>191 then(-1,1)
 else if v0*64+b1%64<128\/v0*64+b1%64>1114111\/(v0*64+b1%64>=55296/\v0*64+b1%64<=57343)then(-1,1)else(((v0*64+b1%64:Nat):Int),2)
def sg3(n v0 b1 b2:Nat):Int×Nat:=
 if n<3 then(-1,1)else if b1<128\/b1>191 then(-1,1)else if b2<128\/b2>191 then(-1,1)
 else if(v0*64+b1%64)*64+b2%64<2048\/(v0*64+b1%64)*64+b2%64>1114111\/((v0*64+b1%64)*64+b2%64>=55296/\(v0*64+b1%64)*64+b2%64<=57343)then(-1,1)
 else((((v0*64+b1%64)*64+b2%64:Nat):Int),3)
def sg4(n v0 b1 b2 b3:Nat):Int×Nat:=
 if n<4 then(-1,1)else if b1<128\/b1>191 then(-1,1)else if b2<128\/b2>191 then(-1,1)else if b3<128\/b3>191 then(-1,1)
 else if((v0*64+b1%64)*64+b2%64)*64+b3%64<65536\/((v0*64+b1%64)*64+b2%64)*64+b3%64>1114111\/(((v0*64+b1%64)*64+b2%64)*64+b3%64>=55296/\((v0*64+b1%64)*64+b2%64)*64+b3%64<=57343)then(-1,1)
 else(((((v0*64+b1%64)*64+b2%64)*64+b3%64:Nat):Int),4)
theorem CE(n b0 b1 b2 b3:Nat)(hn:n≠0)(e:decodeN n b0 b1 b2 b3=(65533,1)):Dj n b0 b1 b2 b3=(-1,1):=by
 rw[Dj,dW hn,e,dX eG]
theorem Ey(n b0 b1 b2 b3 v k:Nat)(hn:n≠0)(hk:2<=k)(e:decodeN n b0 b1 b2 b3=(v,k)):Dj n b0 b1 b2 b3=((v:Int),k):=by
 rw[Dj,dW hn,e,dW eQ]
theorem Ez(n b0 b1 b2 b3:Nat)(hn:0<n)(h:b0<128):Dj n b0 b1 b2 b3=((b0:Int),1):=by
 have e:decodeN n b0 b1 b2 b3=(b0,1):=by simp[decodeN,h]
 rw[Dj,dW dS,e,dW eQ]
theorem aaV(n b0 b1 b2 b3:Nat)(hn:0<n)(h:128<=b0)(h':b0<192\/248<=b0):Dj n b0 b1 b2 b3=(-1,1):=JK
theorem aiO(n b0 b1 b2 b3:Nat)(hn:0<n)(h:192<=b0)(h':b0<224)(l1:b1<256):Dj n b0 b1 b2 b3=sg2 n (b0%32) b1:=by
 unfold sg2;generalize hv:b0%32*64+b1%64=v;by_cases hc:1<n/\b1/64=2
 ·rw[dW dS,dW dS];by_cases hg:v>=128
  ·rw[dW dS];refine Ey _ _ _ _ _ _ _ dS dS ?_;simp only[decodeN];rw[dW dS,dX dS,hv,dX hg]
  ·rw[dX dS];refine CE _ _ _ _ _ dS ?_;simp only[decodeN];rw[dW dS,dX dS,hv,dW hg]
 ·have e:Dj n b0 b1 b2 b3=(-1,1):=JK
  rw[e];split
  ·rfl
  ·rw[dX dS]
theorem abQ(n b0 b1 b2 b3:Nat)(hn:0<n)(h:224<=b0)(h':b0<240)(l1:b1<256)(l2:b2<256):Dj n b0 b1 b2 b3=sg3 n (b0%16) b1 b2:=by
 have ea:b0%16*4096+b1%64*64+b2%64=(b0%16*64+b1%64)*64+b2%64:=dS
 unfold sg3;generalize hv:(b0%16*64+b1%64)*64+b2%64=v at ea⊢;by_cases hc:(1<n/\b1/64=2)/\(2<n/\b2/64=2)
 ·rw[dW dS,dW dS,dW dS];by_cases hg:v>=2048/\(v<55296\/(57344<=v/\v<=1114111))
  ·rw[dW dS];refine Ey _ _ _ _ _ _ _ dS dS ?_;simp only[decodeN];rw[dW dS,dW dS,dX dS,ea,dX hg]
  ·rw[dX dS];refine CE _ _ _ _ _ dS ?_;simp only[decodeN];rw[dW dS,dW dS,dX dS,ea,dW hg]
 ·have e:Dj n b0 b1 b2 b3=(-1,1):=JK
  rw[e];split
  ·rfl
  ·split
   ·rfl
   ·rw[dX dS]
theorem ae7(n b0 b1 b2 b3:Nat)(hn:0<n)(h:240<=b0)(h':b0<248)(l1:b1<256)(l2:b2<256)(l3:b3<256):Dj n b0 b1 b2 b3=sg4 n (b0%8) b1 b2 b3:=by
 have ea:b0%8*262144+b1%64*4096+b2%64*64+b3%64=((b0%8*64+b1%64)*64+b2%64)*64+b3%64:=dS
 unfold sg4;generalize hv:((b0%8*64+b1%64)*64+b2%64)*64+b3%64=v at ea⊢;by_cases hc:(1<n/\b1/64=2)/\(2<n/\b2/64=2)/\(3<n/\b3/64=2)
 ·rw[dW dS,dW dS,dW dS,dW dS];by_cases hg:v>=65536/\(v<55296\/(57344<=v/\v<=1114111))
  ·rw[dW dS];refine Ey _ _ _ _ _ _ _ dS dS ?_;simp only[decodeN];rw[dW dS,dW dS,dW dS,dX dS,ea,dX hg]
  ·rw[dX dS];refine CE _ _ _ _ _ dS ?_;simp only[decodeN];rw[dW dS,dW dS,dW dS,dX dS,ea,dW hg]
 ·have e:Dj n b0 b1 b2 b3=(-1,1):=JK
  rw[e];split
  ·rfl
  ·split
   ·rfl
   ·split
    ·rfl
    ·rw[dX dS]
def nx(s:ByteArray)(i:Nat):Int×Nat:=Dj (s.size-i) (s.get! i).toNat (s.get! (i+1)).toNat (s.get! (i+2)).toNat (s.get! (i+3)).toNat
end Sg
namespace Sg
open Go.Lib
def lQ(s:ByteArray):Nat->Nat->List Nat
 |0,_=>[]
 |f+1,p=>if p<s.size then(if(nx s p).1<0 then p::lQ s f (p+(nx s p).2)else lQ s f (p+(nx s p).2))else[]
def bad(s:ByteArray):List Nat:=lQ s s.size 0
theorem Ms(s:ByteArray)(f p:Nat)(h:¬p<s.size):lQ s f p=[]:=by
 cases f<;>simp[lQ,h]
theorem Ei(s:ByteArray)(p:Nat)(h:p<s.size):nx s p=if(Utf8.decode s p).1=65533/\(Utf8.decode s p).2<2 then(-1,(Utf8.decode s p).2)else(((Utf8.decode s p).1:Int),(Utf8.decode s p).2):=by
 unfold nx Dj;rw[dW dS,<-decode_at]
theorem rq(s:ByteArray)(p:Nat)(h:p<s.size):(nx s p).2=(Utf8.decode s p).2:=by
 rw[Ei s p h];split<;>rfl
theorem aaW(s:ByteArray)(p:Nat)(h:p<s.size)(hr:(Utf8.decode s p).1≠65533):(nx s p).1=(Utf8.decode s p).1:=by
 rw[Ei s p h,dW (λx=>hr x.1)]
theorem akG(s:ByteArray)(p:Nat):-1<=(nx s p).1:=by
 unfold nx Dj
 exact JP
theorem Bd(s:ByteArray)(p:Nat)(h:p<s.size):1<=(nx s p).2:=by
 rw[rq s p h];exact decode_width_pos s p h
theorem aiP(n b0 b1 b2 b3:Nat)(hn:1<=n):(decodeN n b0 b1 b2 b3).2<=n:=by
 unfold decodeN
 exact JP
theorem Md(s:ByteArray)(p:Nat)(h:p<s.size):p+(nx s p).2<=s.size:=by
 rw[rq s p h];have:=aiP (s.size-p) (s.get! p).toNat (s.get! (p+1)).toNat (s.get! (p+2)).toNat (s.get! (p+3)).toNat dS;rw[<-decode_at]at this;omega
theorem Vr(s:ByteArray)(f p:Nat)(h:p<s.size):lQ s (f+1) p=(if(nx s p).1<0 then[p]else[])++lQ s f (p+(nx s p).2):=by
 rw[lQ,dX h];split<;>rfl
theorem EA(s:ByteArray):∀f p,(lQ s f p).length<=f
 |0,_=>eO _
 |f+1,p=>by
  have:=EA s f (p+(nx s p).2);unfold lQ;(repeat' split)<;>simp<;>omega
end Sg
namespace Sc
open Sg
def blk(c:Nat):Bool:=c==32||c==9
def brk(c:Nat):Bool:=c==10||c==13
def Jb(c:Nat):Bool:=(Nat.ble 97 c&&Nat.ble c 122)||(Nat.ble 65 c&&Nat.ble c 90)||(Nat.ble 48 c&&Nat.ble c 57)||c==95||c==45
def Mb(c:Nat):Bool:=c==44||c==91||c==93||c==123||c==125
def Bu(c:Nat):Bool:=c==32
def PH(c:Nat):Bool:=c==33||Jb c
def run(p:Nat->Bool):List Nat->Nat
 |[]=>0
 |c::r=>if p c=true then run p r+1 else 0
def jg(l:List Nat):Nat:=run (λc=>!brk c) l
def iV(l:List Nat):List Nat:=l.take (jg l)
def lI:List Nat->Nat
 |[]=>0
 |[c]=>if c=13 then 1 else if c=10 then 1 else 0
 |c::d::_=>if c=13 then(if d=10 then 2 else 1)else if c=10 then 1 else 0
def part:List Nat->Bool
 |[]=>true
 |c::_=>blk c
def mark(r:List Nat):Nat:=
 if r.take 3=[45,45,45]then(if part (r.drop 3)=true then 20 else 0)else if r.take 3=[46,46,46]then(if part (r.drop 3)=true then 21 else 0)else 0
def named:List Nat->Nat×Nat
 |[]=>(0,0)
 |c::r=>
  if c=38 then(if run Jb r=0 then(0,0)else(12,run Jb r+1))
  else if c=42 then(if run Jb r=0 then(0,0)else(13,run Jb r+1))
  else if c=33 then(14,run PH r+1)else(0,0)
def vW:List Nat->Nat
 |[]=>0
 |[_]=>1
 |c::d::r=>if c=39 then(if d=39 then vW r+2 else 1)else vW (d::r)+1
def vX:List Nat->Nat
 |[]=>0
 |[_]=>1
 |c::d::r=>if c=34 then 1 else if c=92 then vX r+2 else vX (d::r)+1
def wh:List Nat->Nat
 |[]=>1
 |c::_=>if c=43 then 2 else if c=45 then 2 else 1
def hsh:List Nat->Bool
 |[]=>true
 |c::_=>c==35
def J9(rest:List Nat):Bool:=(rest.drop (run blk rest)==[])||(part rest&&hsh (rest.drop (run blk rest)))
def lT:List Nat->Nat
 |[]=>0
 |c::r=>if c=124\/c=62 then(if J9 ((c::r).drop (wh r))=true then wh r else 0)else 0
def yt(l:List Nat):Int×Nat:=Dj l.length (l.getD 0 0) (l.getD 1 0) (l.getD 2 0) (l.getD 3 0)
def bad(l:List Nat):Bool:=decide ((yt l).1<0)
def key(op:Bool):List Nat->Bool
 |[]=>true
 |c::_=>blk c||(op&&Mb c)
def stop(op pb:Bool):List Nat->Bool
 |[]=>true
 |c::r=>bad (c::r)||(c==58&&key op r)||(c==35&&pb)||(op&&Mb c)
def goes(op:Bool):Nat->Nat->List Nat->Nat
 |0,_,_=>0
 |f+1,p,l=>if stop op (blk p) l=true then 0 else(yt l).2+goes op f (l.getD ((yt l).2-1) 0) (l.drop (yt l).2)
def trim:List Nat->Nat
 |[]=>0
 |c::r=>if trim r=0 then(if blk c=true then 0 else 1)else trim r+1
def uS(op:Bool)(r:List Nat):Nat:=trim (r.take ((yt r).2+goes op r.length (r.getD ((yt r).2-1) 0) (r.drop (yt r).2)))
def sign(op:Nat)(dash:Bool):List Nat->Nat
 |[]=>0
 |c::r=>
  if c=91 then 8 else if c=123 then 9 else if c=93 then 10 else if c=125 then 11
  else if c=44 then(if 0<op then 7 else 0)
  else if c=45 then(if op=0 then(if dash=true then(if part r=true then 5 else 0)else 0)else 0)
  else if c=58 then(if key (decide (0<op)) r=true then 6 else 0)else 0
def quoted:List Nat->Nat×Nat
 |[]=>(0,0)
 |c::r=>if c=39 then(16,vW r+1)else if c=34 then(17,vX r+1)else(0,0)
def word(op:Nat)(dash:Bool)(r:List Nat):Nat×Nat:=
 if 0<sign op dash r then(sign op dash r,1)
 else if 0<(named r).1 then named r
 else if 0<(quoted r).1 then quoted r
 else if op=0/\0<lT r then(18,lT r)
 else if bad r=true then(22,1)
 else(15,uS (decide (0<op)) r)
def next(op:Nat)(dash blank first:Bool)(r:List Nat):Nat×Nat:=
 if first=true/\0<mark r then(mark r,3)
 else if first=true/\0<run Bu r then(2,run Bu r)
 else if 0<run blk r then(3,run blk r)
 else if hsh r=true/\(first=true\/blank=true)then(4,r.length)
 else word op dash r
structure St where
 op:Nat
 base:Int
 least:Int
 dash:Bool
 eT:Nat
 blank:Bool
def fresh(op:Nat)(least:Int):St:=⟨op,-1,least,true,0,false⟩
def counts(k:Nat):Bool:=!(k==1||k==2||k==3||k==4)
def leaves(k:Nat):Bool:=k==20||k==2||k==3||k==5
def opens(op k:Nat):Nat:=if k=8\/k=9 then op+1 else if k=10\/k=11 then op-1 else if k=20\/k=21 then 0 else op
def take(s:St)(k n:Nat):St where
 op:=opens s.op k
 least:=if k=18 then(if s.base=-1 then(s.eT:Int)else s.base+1)else s.least
 base:=if s.base=-1/\counts k=true then(s.eT:Int)else s.base
 dash:=s.dash&&leaves k
 eT:=s.eT+n
 blank:=k==2||k==3
def isText(least:Int)(r:List Nat):Bool:=decide (least≠-1/\mark r=0/\(run blk r=r.length\/least<=run Bu r))
def mid(s:St)(l:List Nat):Nat×Nat×St:=
 if jg l=0 then(1,lI l,fresh s.op s.least)
 else((next s.op s.dash s.blank (s.eT==0) (iV l)).1,(next s.op s.dash s.blank (s.eT==0) (iV l)).2,take s (next s.op s.dash s.blank (s.eT==0) (iV l)).1 (next s.op s.dash s.blank (s.eT==0) (iV l)).2)
def step(s:St)(l:List Nat):Nat×Nat×St:=
 if s.eT=0 then(if isText s.least (iV l)=true then(19,jg l+lI (l.drop (jg l)),fresh s.op s.least)else mid {s with least:=-1} l)else mid s l
def toks:Nat->St->Nat->List Nat->List (Nat×Nat×Nat)
 |0,_,_,_=>[]
 |f+1,s,at',l=>if l=[]then[]else((step s l).1,at',at'+(step s l).2.1)::toks f (step s l).2.2 (at'+(step s l).2.1) (l.drop (step s l).2.1)
def tokens(l:List Nat):List (Nat×Nat×Nat):=if 16384<l.length then[]else toks l.length (fresh 0 (-1)) 0 l
def eH(s:ByteArray):List Nat:=s.data.toList.map UInt8.toNat
end Sc
section
open Go.RowKit
def qR(w:World)(v:Value)(s:ByteArray):Prop:=
 (v=.slice none 0 0/\s.size=0)\/∃b off cap,v=.slice (some ⟨b,off,none⟩) s.size cap/\s.size<=cap/\cap<=maxLen/\∀j,j<s.size->w.cell? ⟨b,off+j,none⟩=some (.int .u8 (s.get! j).toNat)
theorem lt_of_cell{w:World}{a:Addr}{v:Value}(h:w.cell? a=some v):a.block<w.heap.size:=Zj
theorem qR.below{w w':World}{v:Value}{s:ByteArray}(h:qR w v s)(hb:Below w.heap.size w w'):qR w' v s:=by
 rcases h with h|⟨b,off,cap,h1,h2,h3,h4⟩
 ·exact .inl h
 ·refine .inr ⟨b,off,cap,h1,h2,h3,λj hj=>?_⟩;have h5:=h4 j hj;have h6:b<w.heap.size:=lt_of_cell h5
  rw[hb.cell (p:=⟨b,off+j,none⟩) h6];exact h5
theorem qR.size_le{w:World}{v:Value}{s:ByteArray}(h:qR w v s):s.size<=maxLen:=Zn
theorem ae8(s:ByteArray)(k i:Nat):Sg.nx (s.extract k s.size) i=Sg.nx s (k+i):=by
 simp only[Sg.nx,aid,aeK];rw[show s.size-k-i=s.size-(k+i)from dS,show k+(i+1)=k+i+1 from dS,show k+(i+2)=k+i+2 from dS,show k+(i+3)=k+i+3 from dS]
end
namespace Sg
open Go.Lib
theorem ni(a b:ByteArray):(a++b).size=a.size+b.size:=ByteArray.size_append
theorem Mt(a b:ByteArray):(a++b).data.toList=a.data.toList++b.data.toList:=eG
theorem get_at(l:List UInt8)(i:Nat):(⟨l.toArray⟩:ByteArray).get! i=l.getD i 0:=by rw[<-getD_get!']
theorem size_at(l:List UInt8):(⟨l.toArray⟩:ByteArray).size=l.length:=by simp[ByteArray.size]
def Lm(r:Int):Nat:=if Utf8.valid r then r.toNat else 65533
theorem BC{r:Int}(h:Utf8.valid r=true):(Lm r:Int)=r:=by
 unfold Lm;rw[dX h];simp[Utf8.valid]at h;omega
def enc1(c:Nat):List UInt8:=[UInt8.ofNat c]
def enc2(c:Nat):List UInt8:=[UInt8.ofNat (192+c/64),UInt8.ofNat (128+c%64)]
def enc3(c:Nat):List UInt8:=[UInt8.ofNat (224+c/4096),UInt8.ofNat (128+c/64%64),UInt8.ofNat (128+c%64)]
def enc4(c:Nat):List UInt8:=[UInt8.ofNat (240+c/262144),UInt8.ofNat (128+c/4096%64),UInt8.ofNat (128+c/64%64),UInt8.ofNat (128+c%64)]
def uL(c:Nat):List UInt8:=if c<128 then enc1 c else if c<2048 then enc2 c else if c<65536 then enc3 c else enc4 c
theorem encode_eq(r:Int):Utf8.encode r=⟨(uL (Lm r)).toArray⟩:=by
 have h:Utf8.encode r=(if Lm r<128 then⟨(enc1 (Lm r)).toArray⟩else if Lm r<2048 then⟨(enc2 (Lm r)).toArray⟩else if Lm r<65536 then⟨(enc3 (Lm r)).toArray⟩else⟨(enc4 (Lm r)).toArray⟩):=rfl;rw[h];unfold uL;by_cases c1:Lm r<128
 ·rw[dX c1,dX c1]
 by_cases c2:Lm r<2048
 ·rw[dW c1,dX c2,dW c1,dX c2]
 by_cases c3:Lm r<65536
 ·rw[dW c1,dW c2,dX c3,dW c1,dW c2,dX c3]
 ·rw[dW c1,dW c2,dW c3,dW c1,dW c2,dW c3]
theorem byte_of(n:Nat)(h:n<256):(UInt8.ofNat n).toNat=n:=eQ
theorem abR(c:Nat):1<=(uL c).length/\(uL c).length<=4:=by
 unfold uL
 (repeat' split)<;>simp[enc1,enc2,enc3,enc4]
theorem sK(r:Int):(Utf8.encode r).size=(uL (Lm r)).length:=by rw[encode_eq,size_at]
end Sg
namespace Sg
open Go.Lib
theorem Mv(s:ByteArray)(p:Nat)(h:p<s.size):
 ((s.get! p).toNat<128->nx s p=(((s.get! p).toNat:Int),1))/\(128<=(s.get! p).toNat->((nx s p).1=-1\/128<=(nx s p).1)/\∀i,p<i->i<p+(nx s p).2->128<=(s.get! i).toNat):=by
 have l0:=(s.get! p).toNat_lt;have l1:=(s.get! (p+1)).toNat_lt;have l2:=(s.get! (p+2)).toNat_lt;have l3:=(s.get! (p+3)).toNat_lt;have hpos:0<s.size-p:=dS
 refine⟨λhb=>by unfold nx;exact Ez _ _ _ _ _ hpos hb,λhb=>?_⟩;have key:∀K:Nat,(2<=K->128<=(s.get! (p+1)).toNat)->(3<=K->128<=(s.get! (p+2)).toNat)->(4<=K->128<=(s.get! (p+3)).toNat)->K<=4->∀i,p<i->i<p+K->128<=(s.get! i).toNat:=by
  intro K k1 k2 k3 k4 i h1 h2;rcases(by omega:i=p+1\/i=p+2\/i=p+3)with rfl|rfl|rfl
  ·exact k1 dS
  ·exact k2 dS
  ·exact k3 dS
 by_cases c2:(s.get! p).toNat<192
 ·have e:nx s p=(-1,1):=by unfold nx;exact aaV _ _ _ _ _ hpos hb (.inl c2)
  rw[e];exact⟨.inl rfl,λi h1 h2=>by dsimp only at h2;omega⟩
 by_cases c3:(s.get! p).toNat<224
 ·have e:nx s p=sg2 (s.size-p) ((s.get! p).toNat%32) (s.get! (p+1)).toNat:=by unfold nx;exact aiO _ _ _ _ _ hpos dS c3 l1
  rw[e];refine⟨?_,key _ ?_ ?_ ?_ ?_⟩<;>unfold sg2<;>(repeat' split)<;>dsimp only at*<;>omega
 by_cases c4:(s.get! p).toNat<240
 ·have e:nx s p=sg3 (s.size-p) ((s.get! p).toNat%16) (s.get! (p+1)).toNat (s.get! (p+2)).toNat:=by unfold nx;exact abQ _ _ _ _ _ hpos dS c4 l1 l2
  rw[e];refine⟨?_,key _ ?_ ?_ ?_ ?_⟩<;>unfold sg3<;>(repeat' split)<;>dsimp only at*<;>omega
 by_cases c5:(s.get! p).toNat<248
 ·have e:nx s p=sg4 (s.size-p) ((s.get! p).toNat%8) (s.get! (p+1)).toNat (s.get! (p+2)).toNat (s.get! (p+3)).toNat:=by unfold nx;exact ae7 _ _ _ _ _ hpos dS c5 l1 l2 l3
  rw[e];refine⟨?_,key _ ?_ ?_ ?_ ?_⟩<;>unfold sg4<;>(repeat' split)<;>dsimp only at*<;>omega
 ·have e:nx s p=(-1,1):=by unfold nx;exact aaV _ _ _ _ _ hpos hb (.inr dS)
  rw[e];exact⟨.inl rfl,λi h1 h2=>by dsimp only at h2;omega⟩
theorem Kw(s:ByteArray)(p:Nat)(h:p<s.size):∀i,p<i->i<p+(nx s p).2->128<=(s.get! i).toNat:=by
 have hf:=Mv s p h;by_cases hb:(s.get! p).toNat<128
 ·rw[hf.1 hb];intro i h1 h2;dsimp only at h2;omega
 ·exact(hf.2 dS).2
theorem akH(s:ByteArray)(p c:Nat)(h:p<s.size)(hc:c<128):(nx s p).1=(c:Int)↔(s.get! p).toNat=c:=by
 have hf:=Mv s p h;by_cases hb:(s.get! p).toNat<128
 ·rw[hf.1 hb];dsimp only;omega
 ·have:=(hf.2 dS).1;constructor<;>intro hh<;>omega
theorem wJ(s:ByteArray)(p c:Nat)(h:p<s.size)(hc:c<128):(Utf8.decode s p).1=c↔(s.get! p).toNat=c:=by
 have hi:=akH s p c h hc;by_cases hr:(Utf8.decode s p).1=65533
 ·have h1:(nx s p).1=-1\/(nx s p).1=65533:=by
   rw[Ei s p h];split
   ·exact .inl rfl
   ·exact .inr l6
  constructor
  ·intro hh;omega
  ·intro hh;have:=hi.2 hh;omega
 ·rw[aaW s p h hr]at hi;constructor
  ·intro hh;exact hi.1 dS
  ·intro hh;have:=hi.2 hh;omega
theorem ext_size(s:ByteArray)(a i:Nat)(h:i<=s.size):(s.extract a i).size=i-a:=by
 rw[xw];omega
theorem ext_get(s:ByteArray)(a i j:Nat)(h:a+j<i):(s.extract a i).get! j=s.get! (a+j):=by
 rw[<-getD_get!',<-getD_get!',extract_data,xC,xC,List.getElem?_take,dX dS,sW]
end Sg
namespace Sc
open Sg
theorem fM(s:ByteArray):(eH s).length=s.size:=by
 unfold eH;rw[jl,vL]
theorem jw(s:ByteArray)(i:Nat):(eH s).getD i 0=(s.get! i).toNat:=by
 unfold eH;rw[xC,kS,<-AJ,xC];cases s.data.toList[i]?<;>rfl
theorem wP(s:ByteArray)(i:Nat):((eH s).drop i).length=s.size-i:=by rw[ky,fM]
theorem uA(s:ByteArray)(i j:Nat):((eH s).drop i).getD j 0=(s.get! (i+j)).toNat:=by
 rw[xC,sW,<-xC,jw]
theorem drop_cons(s:ByteArray)(i:Nat)(h:i<s.size):(eH s).drop i=(s.get! i).toNat::(eH s).drop (i+1):=by
 rw[xz (by rw[fM];exact h)];congr 1;have h2:=jw s i;rw[xC,fu (by rw[fM];exact h)]at h2;exact h2
theorem drop_nil(s:ByteArray)(i:Nat)(h:s.size<=i):(eH s).drop i=[]:=oG (by rw[fM];exact h)
theorem l7(s:ByteArray)(i:Nat)(h:i<s.size):(s[i]'h)=s.get! i:=by
 have e:=AJ s i;rw[<-e,xC,fu Je];rfl
theorem zV(s:ByteArray)(a b:Nat):eH (s.extract a b)=((eH s).drop a).take (b-a):=by
 unfold eH;rw[Lib.extract_data,aeu,List.map_drop]
theorem lL(s:ByteArray)(a:Nat):eH (s.extract a s.size)=(eH s).drop a:=by
 rw[zV,zw (by rw[wP];exact eO _)]
theorem BA(s:ByteArray)(b:Nat):eH (s.extract 0 b)=(eH s).take b:=by rw[zV,lM,Gn]
theorem Mw(a b:ByteArray):eH (a++b)=eH a++eH b:=by
 unfold eH;rw[Mt,yF]
theorem zG(s:ByteArray)(i:Nat):nx s i=yt ((eH s).drop i):=by
 unfold nx yt;rw[wP,uA,uA,uA,uA];rfl
theorem og(p:Nat->Bool)(l:List Nat):run p l<=l.length:=by
 induction l with
 |nil=>exact eO _
 |cons c r ih=>rw[run];split<;>simp<;>omega
theorem run_end(p:Nat->Bool)(l:List Nat)(k:Nat)(h:∀j,j<k->p (l.getD j 0)=true)(hk:k=l.length\/(k<l.length/\p (l.getD k 0)=false)):run p l=k:=by
 induction l generalizing k with
 |nil=>
  rcases hk with h|⟨h,_⟩
  ·exact h.symm
  ·exact absurd h eG
 |cons c r ih=>
  cases k with
  |zero=>
   rcases hk with h|⟨_,h⟩
   ·simp at h
   ·rw[run,dW kU]
  |succ k=>
   have h0:=h 0 dS;rw[run,dX (by simpa using h0),ih k (λj hj=>by simpa using h (j+1) dS) (by simpa using hk)]
end Sc
namespace Sc
open Sg
theorem CO(c:Nat)(r:List Nat):1<=(yt (c::r)).2:=by
 unfold yt Dj;rw[dW eG];have h:1<=(Lib.decodeN (c::r).length ((c::r).getD 0 0) ((c::r).getD 1 0) ((c::r).getD 2 0) ((c::r).getD 3 0)).2:=by
  unfold Lib.decodeN
  exact JP
 split<;>exact h
theorem BD(op:Bool):∀(f g p:Nat)(l:List Nat),l.length<=f->l.length<=g->goes op f p l=goes op g p l
 |0,g,p,l,h,_=>by
  obtain rfl:l=[]:=l9 dS;cases g<;>rfl
 |f+1,0,p,l,_,h=>by
  obtain rfl:l=[]:=l9 dS;rfl
 |f+1,g+1,p,l,hf,hg=>by
  rw[goes,goes];by_cases hs:stop op (blk p) l=true
  ·rw[dX hs,dX hs]
  ·rw[dW hs,dW hs];cases l with
   |nil=>exact absurd rfl hs
   |cons c r=>
    have h1:=CO c r;rw[BD op f g _ _ jc jc]
def yx(op:Bool)(p:Nat)(l:List Nat):Nat:=goes op l.length p l
theorem Fs(op:Bool)(p:Nat)(l:List Nat)(h:stop op (blk p) l=true):yx op p l=0:=by
 unfold yx;cases hl:l.length with
 |zero=>rfl
 |succ n=>rw[goes,dX h]
theorem abS(op:Bool)(p:Nat)(l:List Nat)(h:stop op (blk p) l=false):yx op p l=(yt l).2+yx op (l.getD ((yt l).2-1) 0) (l.drop (yt l).2):=by
 cases l with
 |nil=>cases h
 |cons c r=>
  have h1:=CO c r;unfold yx;rw[iR,goes,dW (by rw[h];simp)];rw[BD op r.length _ _ _ (by rw[ky,iR];omega) (eO _)]
theorem BF(op:Bool)(r:List Nat):uS op r=trim (r.take ((yt r).2+yx op (r.getD ((yt r).2-1) 0) (r.drop (yt r).2))):=by
 unfold uS yx;rw[BD op r.length _ _ _ jc (eO _)]
theorem ae9(l:List Nat):trim l<=l.length:=by
 induction l with
 |nil=>exact eO _
 |cons c r ih=>rw[trim,iR];(repeat' split)<;>omega
theorem abT(l:List Nat):(l.reverse.dropWhile blk).length=trim l:=by
 induction l with
 |nil=>rfl
 |cons c r ih=>
  rw[O1,List.dropWhile_append,trim];by_cases h:trim r=0
  ·have h2:(r.reverse.dropWhile blk)=[]:=l9 (by rw[ih,h]);rw[h2,dX h];cases hc:blk c with
   |true=>simp[hc]
   |false=>simp[hc]
  ·rw[dW (by rw[List.isEmpty_iff];intro e;rw[e]at ih;exact h (by rw[<-ih];rfl)),dW h,iK,ih];rfl
theorem abU(l:List UInt8):(Lib.trimRightS l [32,9]).length=trim (l.map UInt8.toNat):=by
 rw[<-abT,Lib.trimRightS,IV,<-List.map_reverse];generalize l.reverse=m
 induction m with
 |nil=>rfl
 |cons b r ih=>
  have key:∀n:Fin 256,([32,9]:List UInt8).contains n.val.toUInt8=blk n.val:=gV
  have hb:([32,9]:List UInt8).contains b=blk b.toNat:=by
   have:=key ⟨b.toNat,XW b⟩
   simpa using this
  rw[yG,LC,LC,hb];cases blk b.toNat with
  |true=>simpa using ih
  |false=>simp
theorem afa(op pb:Bool)(s:ByteArray)(p:Nat)(h:p<s.size):stop op pb ((eH s).drop p)=(bad ((eH s).drop p)||((s.get! p).toNat==58&&key op ((eH s).drop (p+1)))||((s.get! p).toNat==35&&pb)||(op&&Mb (s.get! p).toNat)):=by
 rw[drop_cons s p h];rfl
theorem aaX(s:ByteArray)(p:Nat):bad ((eH s).drop p)=decide ((nx s p).1<0):=by rw[bad,<-zG]
end Sc
namespace Sc
open Sg
theorem afb(l:List Nat):vW l<=l.length:=by
 fun_induction vW l<;>simp_all<;>omega
theorem afc(l:List Nat):vX l<=l.length:=by
 fun_induction vX l<;>simp_all<;>omega
theorem abV(l:List Nat)(h:0<(named l).1):0<(named l).2/\(named l).2<=l.length:=by
 cases l with
 |nil=>exact absurd h dU
 |cons c r=>
  have h1:=og Jb r;have h2:=og PH r;unfold named at h⊢
  (repeat' split at h)<;>(repeat' split)<;>simp_all<;>omega
theorem Vs(l:List Nat)(h:0<(quoted l).1):0<(quoted l).2/\(quoted l).2<=l.length:=by
 cases l with
 |nil=>exact absurd h dU
 |cons c r=>
  have h1:=afb r;have h2:=afc r;unfold quoted at h⊢
  (repeat' split at h)<;>(repeat' split)<;>simp_all<;>omega
theorem abW(r:List Nat):wh r<=r.length+1:=by
 cases r with
 |nil=>decide
 |cons c t=>rw[wh];(repeat' split)<;>simp
theorem abX(l:List Nat):lT l<=l.length:=by
 cases l with
 |nil=>decide
 |cons c r=>
  have:=abW r;rw[lT];split
  ·split
   ·simpa using this
   ·exact fP _
  ·exact fP _
theorem abY(c:Nat)(r:List Nat)(h:blk c=false):0<trim (c::r):=by
 rw[trim];by_cases h1:trim r=0
 ·rw[dX h1,h];decide
 ·rw[dW h1];omega
theorem RF(op:Bool)(c:Nat)(r:List Nat)(h:blk c=false):0<uS op (c::r):=by
 rw[BF];obtain⟨k,hk⟩:∃k,(yt (c::r)).2+yx op ((c::r).getD ((yt (c::r)).2-1) 0) ((c::r).drop (yt (c::r)).2)=k+1:=⟨_,(Nat.succ_pred_eq_of_pos (by have:=CO c r;omega)).symm⟩
 rw[hk,vJ];exact abY c _ h
theorem Vt(op:Bool)(r:List Nat):uS op r<=r.length:=by
 rw[BF];refine iU (ae9 _) ?_;rw[mX];exact Nat.min_le_right _ _
theorem afd(op:Nat)(dash:Bool)(c:Nat)(r:List Nat)(h:blk c=false):0<(word op dash (c::r)).2/\(word op dash (c::r)).2<=(c::r).length:=by
 have h1:=abV (c::r);have h2:=Vs (c::r);have h3:=abX (c::r);have h4:=RF (decide (0<op)) c r h;have h5:=Vt (decide (0<op)) (c::r);unfold word
 (repeat' split)<;>simp_all
theorem abZ(r:List Nat)(h:0<mark r):3<=r.length:=by
 unfold mark at h;have key:∀l:List Nat,l.length=3->r.take 3=l->3<=r.length:=by
  intro l hl e;have:(r.take 3).length=3:=by rw[e,hl]
  rw[mX]at this;omega
 split at h
 ·rename_i e;exact key _ rfl e
 ·split at h
  ·rename_i e;exact key _ rfl e
  ·exact absurd h dU
theorem Mx(p:Nat->Bool)(c:Nat)(r:List Nat)(h:¬0<run p (c::r)):p c=false:=by
 cases hp:p c with
 |false=>rfl
 |true=>rw[run,dX hp]at h;omega
theorem zH(op:Nat)(dash blank first:Bool)(c:Nat)(r:List Nat):0<(next op dash blank first (c::r)).2/\(next op dash blank first (c::r)).2<=(c::r).length:=by
 have h1:=abZ (c::r);have h2:=og Bu (c::r);have h3:=og blk (c::r);unfold next;split
 ·rename_i h;exact⟨(by decide:(0:Nat)<3),h1 h.2⟩
 split
 ·rename_i h;exact⟨h.2,h2⟩
 split
 ·rename_i h;exact⟨h,h3⟩
 split
 ·exact⟨eG,eO _⟩
 ·rename_i h _;exact afd op dash c r (Mx blk c r h)
theorem zI(l:List Nat):jg l<=l.length:=og _ _
theorem ru(l:List Nat):(iV l).length=jg l:=by
 rw[iV,mX];have:=zI l;omega
theorem BG(l:List Nat)(j:Nat)(h:j<=jg l):jg (l.drop j)=jg l-j:=by
 induction l generalizing j with
 |nil=>
  have:j=0:=by have:=zI ([]:List Nat);simp at this;omega
  subst this;rfl
 |cons c r ih=>
  cases j with
  |zero=>rfl
  |succ j=>
   have hc:(!brk c)=true:=by
    unfold jg at h;rw[run]at h;split at h
    ·assumption
    ·omega
   have e:jg (c::r)=jg r+1:=by unfold jg;rw[run,dX hc]
   rw[xB,e,ih j dS];omega
theorem EC(l:List Nat)(h:l≠[])(h0:jg l=0):0<lI l:=by
 cases l with
 |nil=>exact absurd rfl h
 |cons c r=>
  have hc:brk c=true:=by
   cases hb:brk c with
   |true=>rfl
   |false=>
    unfold jg at h0;rw[run,dX (by rw[hb];rfl)]at h0;omega
  have:c=10\/c=13:=by simpa [brk]using hc
  cases r with
  |nil=>rcases this with rfl|rfl<;>decide
  |cons d t=>rcases this with rfl|rfl<;>simp[lI]<;>split<;>omega
theorem CP(l:List Nat):lI l<=l.length:=by
 cases l with
 |nil=>decide
 |cons c r=>
  cases r with
  |nil=>rw[lI];(repeat' split)<;>simp
  |cons d t=>rw[lI];(repeat' split)<;>simp
theorem TT(s:St)(l:List Nat)(h:l≠[]):0<(mid s l).2.1/\(mid s l).2.1<=l.length:=by
 unfold mid;split
 ·rename_i h0;exact⟨EC l h h0,CP l⟩
 ·rename_i h0;have hl:=ru l;have hle:=zI l;cases hr:iV l with
  |nil=>rw[hr]at hl;exact absurd hl.symm h0
  |cons c r=>
   have:=zH s.op s.dash s.blank (s.eT==0) c r;rw[<-hr]at this⊢;exact⟨this.1,by rw[hl]at this;exact iU this.2 hle⟩
theorem step_pos(s:St)(l:List Nat)(h:l≠[]):0<(step s l).2.1/\(step s l).2.1<=l.length:=by
 unfold step;split
 ·split
  ·have h1:=zI l;have h2:=CP (l.drop (jg l));rw[ky]at h2;refine⟨?_,by simp only;omega⟩;by_cases h0:jg l=0
   ·have:=EC l h h0;simp only[h0,lM];omega
   ·simp only;omega
  ·exact TT _ l h
 ·exact TT _ l h
theorem G4:∀(f g:Nat)(s:St)(at':Nat)(l:List Nat),l.length<=f->l.length<=g->toks f s at' l=toks g s at' l
 |0,g,s,at',l,h,_=>by
  obtain rfl:l=[]:=l9 dS;cases g<;>rfl
 |f+1,0,s,at',l,_,h=>by
  obtain rfl:l=[]:=l9 dS;rfl
 |f+1,g+1,s,at',l,hf,hg=>by
  rw[toks,toks];by_cases hl:l=[]
  ·rw[dX hl,dX hl]
  ·rw[dW hl,dW hl];have:=step_pos s l hl;rw[G4 f g _ _ _ jc jc]
def lY(s:St)(at':Nat)(l:List Nat):List (Nat×Nat×Nat):=toks l.length s at' l
theorem xV(s:St)(at':Nat):lY s at' []=[]:=rfl
theorem lF(s:St)(at':Nat)(l:List Nat)(h:l≠[]):lY s at' l=((step s l).1,at',at'+(step s l).2.1)::lY (step s l).2.2 (at'+(step s l).2.1) (l.drop (step s l).2.1):=by
 unfold lY;cases hl:l.length with
 |zero=>exact absurd (l9 hl) h
 |succ n=>
  have:=step_pos s l h;rw[toks,dW h,G4 n (l.drop (step s l).2.1).length _ _ _ jc (eO _)]
theorem pE(l:List Nat):tokens l=if 16384<l.length then[]else lY (fresh 0 (-1)) 0 l:=rfl
end Sc
namespace Rw
abbrev Tk:=Nat×Nat×Nat
structure R where
 kind:Nat
 from':Nat
 bu:Nat
 eT:Int
def ends(x:Tk):Bool:=x.1==1||x.1==19
def jm:List Tk->Nat
 |[]=>0
 |x::r=>if ends x=true then 1 else jm r+1
def mZ(op:Nat)(ts:List Tk):Nat:=ts.foldl (λo x=>Sc.opens o x.1) op
def jZ:List Tk->Option Tk
 |[]=>none
 |x::r=>if Sc.counts x.1=true then some x else jZ r
def yZ(k:Nat):Bool:=k==20||k==21
def jS:List Tk->Nat
 |[]=>0
 |x::_=>x.1
def B6:List Tk->Nat
 |[]=>0
 |x::_=>x.2.1
def kindOf(begun:Bool)(ts:List Tk):Nat:=
 if jS ts=19 then 2
 else match jZ ts with
  |none=>if begun=true then 3 else 1
  |some x=>if yZ x.1=true then 4 else if begun=true then 3 else 5
def vH(ts:List Tk):Int:=match jZ ts with
 |none=>-1
 |some x=>(x.2.1:Int)-(B6 ts:Int)
def iA:Nat->Nat->Nat->List Tk->List R
 |0,_,_,_=>[]
 |f+1,op,at',l=>if l=[]then[]else⟨kindOf (decide (0<op)) (l.take (jm l)),at',at'+jm l,vH (l.take (jm l))⟩::iA f (mZ op (l.take (jm l))) (at'+jm l) (l.drop (jm l))
def eF(l:List Tk):List R:=iA l.length 0 0 l
theorem xJ(l:List Tk):jm l<=l.length:=by
 induction l with
 |nil=>exact eO _
 |cons x r ih=>rw[jm];split<;>simp<;>omega
theorem oC(l:List Tk)(h:l≠[]):0<jm l:=by
 cases l with
 |nil=>exact absurd rfl h
 |cons x r=>rw[jm];split<;>omega
theorem ED(l:List Tk)(h:l≠[]):jm l=l.length\/∃x,l[jm l-1]?=some x/\ends x=true:=by
 induction l with
 |nil=>exact absurd rfl h
 |cons x r ih=>
  rw[jm];by_cases he:ends x=true
  ·rw[dX he];exact .inr ⟨x,rfl,he⟩
  ·rw[dW he];by_cases hr:r=[]
   ·subst hr;exact .inl rfl
   ·rcases ih hr with h1|⟨y,h1,h2⟩
    ·left;rw[iR,h1]
    ·right;have:=oC r hr;refine⟨y,?_,h2⟩;rw[show jm r+1-1=(jm r-1)+1 by omega,Vd];exact h1
theorem TU(l:List Tk)(j:Nat)(x:Tk)(hj:j+1<jm l)(hx:l[j]?=some x):ends x=false:=by
 induction l generalizing j with
 |nil=>simp at hx
 |cons y r ih=>
  rw[jm]at hj;by_cases he:ends y=true
  ·rw[dX he]at hj;omega
  ·rw[dW he]at hj;cases j with
   |zero=>
    obtain rfl:y=x:=jJ
    simpa using he
   |succ j=>exact ih j dS jJ
theorem TW(l:List Tk)(n:Nat)(h0:0<n)(h:∀j x,j+1<n->l[j]?=some x->ends x=false)(hn:n=l.length\/∃x,l[n-1]?=some x/\ends x=true):jm l=n:=by
 induction l generalizing n with
 |nil=>
  rcases hn with h1|⟨x,h1,_⟩
  ·exact h1.symm
  ·simp at h1
 |cons y r ih=>
  rw[jm];by_cases he:ends y=true
  ·rw[dX he];rcases mD 1 n with h1|h1
   ·have:=h 0 y dS rfl;rw[he]at this;cases this
   ·omega
  ·rw[dW he];rcases mD 1 n with h1|h1
   ·rw[ih (n-1) dS (λj x hj hx=>h (j+1) x dS jJ) (by
     rcases hn with h2|⟨x,h2,h3⟩
     ·left;rw[iR]at h2;omega
     ·right;refine⟨x,?_,h3⟩;rw[show n-1=(n-1-1)+1 by omega,Vd]at h2
      exact h2)]
    omega
   ·obtain rfl:n=1:=by omega
    rcases hn with h2|⟨x,h2,h3⟩
    ·rw[iR]at h2;obtain rfl:r=[]:=l9 dS;rfl
    ·obtain rfl:y=x:=by simpa using h2
     exact absurd h3 he
theorem Vu(op:Nat)(ts:List Tk)(x:Tk):mZ op (ts++[x])=Sc.opens (mZ op ts) x.1:=by unfold mZ;rw[List.foldl_append];rfl
theorem N5(ts:List Tk)(x:Tk)(h:jZ ts=some x):x∈ts/\Sc.counts x.1=true:=by
 induction ts with
 |nil=>cases h
 |cons y r ih=>
  rw[jZ]at h;by_cases hc:Sc.counts y.1=true
  ·rw[dX hc]at h;injection h with h;subst h;exact⟨eG,hc⟩
  ·rw[dW hc]at h;have:=ih h;exact⟨by simp[this.1],this.2⟩
theorem N6(ts:List Tk)(h:jZ ts=none):∀x∈ts,Sc.counts x.1=false:=by
 induction ts with
 |nil=>intro x hx;cases hx
 |cons y r ih=>
  rw[jZ]at h;by_cases hc:Sc.counts y.1=true
  ·rw[dX hc]at h;cases h
  ·rw[dW hc]at h;intro x hx;rcases kY.1 hx with rfl|hx
   ·simpa using hc
   ·exact ih h x hx
theorem Fu:∀(f g op at':Nat)(l:List Tk),l.length<=f->l.length<=g->iA f op at' l=iA g op at' l
 |0,g,_,_,l=>λh _=>by
  obtain rfl:l=[]:=l9 dS;cases g with
  |zero=>rfl
  |succ g=>rw[iA,iA,dX rfl]
 |f+1,0,_,_,l=>λ_ h=>by
  obtain rfl:l=[]:=l9 dS;rw[iA,iA,dX rfl]
 |f+1,g+1,op,at',l=>λh1 h2=>by
  rw[iA,iA];by_cases hl:l=[]
  ·rw[dX hl,dX hl]
  ·rw[dW hl,dW hl];have hp:=oC l hl;rw[Fu f g _ _ _ jc jc]
def jq(op at':Nat)(l:List Tk):List R:=iA l.length op at' l
theorem RA(op at':Nat):jq op at' []=[]:=rfl
theorem nO(op at':Nat)(l:List Tk)(h:l≠[]):jq op at' l=⟨kindOf (decide (0<op)) (l.take (jm l)),at',at'+jm l,vH (l.take (jm l))⟩::jq (mZ op (l.take (jm l))) (at'+jm l) (l.drop (jm l)):=by
 unfold jq;cases hl:l.length with
 |zero=>exact absurd (l9 hl) h
 |succ f=>
  rw[iA,dW h];have hp:=oC l h;rw[Fu f (l.drop (jm l)).length _ _ _ jc (eO _)]
theorem xW:∀(f op at':Nat)(l:List Tk),(iA f op at' l).length<=l.length
 |0,_,_,_=>fP _
 |f+1,op,at',l=>by
  rw[iA];split
  ·exact fP _
  ·rename_i h;have hp:=oC l h;have:=xW f (mZ op (l.take (jm l))) (at'+jm l) (l.drop (jm l));rw[ky]at this;have:=xJ l;rw[iR];omega
def jO:Nat->List Tk->Prop
 |_,[]=>True
 |p,x::r=>x.2.1=p/\p<x.2.2/\jO x.2.2 r
theorem jO.le{p:Nat}{l:List Tk}(h:jO p l):∀(j:Nat)(x:Tk),l[j]?=some x->p<=x.2.1/\x.2.1<x.2.2:=by
 induction l generalizing p with
 |nil=>intro j x hx;simp at hx
 |cons y r ih=>
  obtain⟨h1,h2,h3⟩:=h;intro j x hx;cases j with
  |zero=>
   obtain rfl:y=x:=jJ
   exact⟨dS,dS⟩
  |succ j=>
   have:=ih h3 j x jJ;exact⟨dS,this.2⟩
theorem jO.lt{p:Nat}{l:List Tk}(h:jO p l):∀(i j:Nat)(x y:Tk),i<j->l[i]?=some x->l[j]?=some y->x.2.2<=y.2.1:=by
 induction l generalizing p with
 |nil=>intro i j x y _ hx;simp at hx
 |cons z r ih=>
  obtain⟨h1,h2,h3⟩:=h;intro i j x y hij hx hy;cases j with
  |zero=>omega
  |succ j=>
   cases i with
   |zero=>
    obtain rfl:z=x:=jJ
    exact(h3.le j y wB).1
   |succ i=>exact ih h3 i j x y dS jJ wB
theorem G5:∀(n:Nat)(s:Sc.St)(p:Nat)(l:List Nat),l.length<=n->jO p (Sc.lY s p l)
 |0,s,p,l=>λh=>by
  obtain rfl:l=[]:=l9 dS;rw[Sc.xV];trivial
 |n+1,s,p,l=>λh=>by
  by_cases hl:l=[]
  ·subst hl;rw[Sc.xV];trivial
  ·rw[Sc.lF s p l hl];have:=Sc.step_pos s l hl;exact⟨rfl,by show p<p+_;omega,G5 n _ _ _ jc⟩
theorem iZ(l:List Nat):jO 0 (Sc.tokens l):=by
 rw[Sc.pE];split
 ·trivial
 ·exact G5 _ _ _ _ (eO _)
theorem jO.drop{p:Nat}{l:List Tk}(h:jO p l)(n:Nat):∃q,jO q (l.drop n):=by
 induction n generalizing p l with
 |zero=>exact⟨p,h⟩
 |succ n ih=>
  cases l with
  |nil=>exact⟨p,h⟩
  |cons x r=>obtain⟨_,_,h3⟩:=h;exact ih h3
theorem BH{l:List Tk}:∀(n p:Nat),jO p l->jO p (l.take n):=by
 induction l with
 |nil=>intro n p _;rw[ahS];trivial
 |cons x r ih=>
  intro n p h;cases n with
  |zero=>trivial
  |succ n=>exact⟨h.1,h.2.1,ih n _ h.2.2⟩
theorem aiQ{p:Nat}{ts:List Tk}(h:jO p ts):(0<=vH ts↔(jZ ts).isSome=true):=by
 unfold vH;cases hf:jZ ts with
 |none=>simp
 |some x=>
  have hm:=(N5 ts x hf).1;obtain⟨j,hj⟩:=jy hm;cases ts with
  |nil=>simp at hm
  |cons y r=>
   have h0:(y::r)[0]?=some y:=rfl;have hle:y.2.1<=x.2.1:=by
    rcases rP j with rfl|hp
    ·rw[h0]at hj;injection hj with hj;subst hj;exact eO _
    ·have h1:=h.lt 0 j y x hp h0 hj;have h2:=(h.le 0 y h0).2;omega
   simp[B6];omega
theorem ab0(b:Bool)(ts:List Tk)(h:kindOf b ts=1):jZ ts=none:=by
 unfold kindOf at h;split at h
 ·cases h
 ·cases hf:jZ ts with
  |none=>rfl
  |some x=>
   rw[hf]at h;dsimp only at h;split at h
   ·cases h
   ·split at h<;>cases h
structure E where
 dash:Bool
 eT:Int
 from':Nat
 bu:Nat
def blanks:List Tk->Nat
 |[]=>0
 |x::r=>if x.1=3 then blanks r+1 else 0
def lU:Nat->List Tk->List Nat
 |0,_=>[]
 |f+1,l=>if jS l=5 then 0::(lU f (l.drop (blanks (l.drop 1)+1))).map (·+(blanks (l.drop 1)+1))else[]
def kV:Nat->List Tk->Nat
 |0,_=>0
 |f+1,l=>if jS l=5 then kV f (l.drop (blanks (l.drop 1)+1))+(blanks (l.drop 1)+1)else 0
def isProp(k:Nat):Bool:=k==12||k==14
def gX(k:Nat):Bool:=k==15||k==16||k==17||k==13
def nV:Nat->List Tk->Nat
 |0,_=>0
 |f+1,l=>if isProp (jS l)=true then nV f (l.drop (blanks (l.drop 1)+1))+(blanks (l.drop 1)+1)else 0
def zz(l:List Tk):Nat:=if gX (jS l)=true then blanks (l.drop 1)+1 else 0
def sQ(l:List Tk):Nat:=nV l.length l+zz (l.drop (nV l.length l))
def pO(l:List Tk):Option Nat:=if jS (l.drop (sQ l))=6 then some (sQ l+1)else none
def gJ:List Tk->Nat
 |[]=>0
 |x::r=>if Sc.counts x.1=true then 0 else gJ r+1
def wK(l:List Tk)(i:Nat):Nat:=B6 (l.drop i)
def mG(at':Nat)(ts:List Tk):List E:=
 (lU (ts.drop (gJ ts)).length (ts.drop (gJ ts))).map (λi=>⟨true,(wK ts (gJ ts+i):Int)-(B6 ts:Int),at'+gJ ts+i,at'+gJ ts+i+1⟩)++
 (match pO (ts.drop (gJ ts+kV (ts.drop (gJ ts)).length (ts.drop (gJ ts))))with
  |some n=>[⟨false,(wK ts (gJ ts+kV (ts.drop (gJ ts)).length (ts.drop (gJ ts))):Int)-(B6 ts:Int),at'+gJ ts+kV (ts.drop (gJ ts)).length (ts.drop (gJ ts)),at'+gJ ts+kV (ts.drop (gJ ts)).length (ts.drop (gJ ts))+n⟩]
  |none=>[])
def rW(at':Nat)(ts:List Tk):Nat:=match(mG at' ts).getLast? with
 |some e=>e.bu
 |none=>at'+gJ ts
def iH(l:List Tk)(r:R):List E×Nat:=if r.kind=5 then(mG r.from' ((l.drop r.from').take (r.bu-r.from')),rW r.from' ((l.drop r.from').take (r.bu-r.from')))else([],r.from')
end Rw
namespace Es
open Go.Lib Go.RowKit
def Du(c:Int):Option Int:=if 48<=c/\c<=57 then some (c-48)else if 97<=c/\c<=102 then some (c-97+10)else if 65<=c/\c<=70 then some (c-65+10)else none
theorem afe{c d:Int}(h:Du c=some d):48<=c/\c<=102/\0<=d/\d<=15:=by
 unfold Du at h
 (repeat' split at h)<;>simp at h<;>omega
theorem Vv{c:Int}(h:128<=c):Du c=none:=by
 unfold Du;rw[dW dS,dW dS,dW dS]
def qX(c:Int):Option Int:=
 if c=48 then some 0 else if c=116 then some 9 else if c=110 then some 10 else if c=114 then some 13 else if c=101 then some 27
 else if c=34\/c=47\/c=92\/c=32 then some c else none
def kK(c:Int):Nat:=if c=85 then 8 else if c=117 then 4 else if c=120 then 2 else 0
theorem ab1(c:Int):kK c=0\/kK c=2\/kK c=4\/kK c=8:=by
 unfold kK
 (repeat' split)<;>simp
def num:List UInt8->Int->Option Int
 |[],v=>some v
 |c::l,v=>match Du c.toNat with
  |none=>none
  |some d=>num l (16*v+d)
def sign(l:List UInt8):Option Int:=match num l 0 with
 |none=>none
 |some v=>if Utf8.valid v then some v else none
def esc:List UInt8->Option (Int×Nat)
 |a::c::rest=>
  if a.toNat=92 then
   match qX c.toNat with
   |some v=>some (v,2)
   |none=>if kK c.toNat=0\/rest.length<kK c.toNat then none else match sign (rest.take (kK c.toNat))with
    |none=>none
    |some v=>some (v,2+kK c.toNat)
  else none
 |_=>none
def akI:Option (Int×Nat)->ByteArray
 |none=>⟨#[]⟩
 |some (v,_)=>Utf8.encode v
def lenOf:Option (Int×Nat)->Int
 |none=>0
 |some (_,n)=>n
theorem Vw{s:List UInt8}(h:s.length<2):esc s=none:=by
 match s,h with
 |[],_=>rfl
 |[_],_=>rfl
theorem G6{a c:UInt8}{r:List UInt8}(h:a.toNat≠92):esc (a::c::r)=none:=by rw[esc,dW h]
theorem Fv{a c:UInt8}{r:List UInt8}{v:Int}(h:a.toNat=92)(hs:qX c.toNat=some v):esc (a::c::r)=some (v,2):=by rw[esc,dX h,hs]
theorem uB{a c:UInt8}{r:List UInt8}(h:a.toNat=92)(hs:qX c.toNat=none)(hd:kK c.toNat=0\/r.length<kK c.toNat):esc (a::c::r)=none:=by rw[esc,dX h,hs];simp only;rw[dX hd]
theorem TR{a c:UInt8}{r:List UInt8}(h:a.toNat=92)(hs:qX c.toNat=none)(hd:kK c.toNat≠0)(hl:kK c.toNat<=r.length)(hn:sign (r.take (kK c.toNat))=none):esc (a::c::r)=none:=by
 rw[esc,dX h,hs];simp only;rw[dW dS,hn]
theorem zW{a c:UInt8}{r:List UInt8}{v:Int}(h:a.toNat=92)(hs:qX c.toNat=none)(hd:kK c.toNat≠0)(hl:kK c.toNat<=r.length)(hn:sign (r.take (kK c.toNat))=some v):esc (a::c::r)=some (v,2+kK c.toNat):=by
 rw[esc,dX h,hs];simp only;rw[dW dS,hn]
theorem aiR(x d:Int)(h0:0<=x)(h1:x<134217728)(hd0:0<=d)(hd:d<=15):bits .or .i32 (x*16) d=x*16+d:=
 bits_join .i32 31 dU wraps_i32 4 (x*16) d dS dS dS hd0 dS dS
theorem ab2(x:Int)(h0:0<=x)(h1:x<134217728):IntKind.i32.wrap (x*16)=x*16:=wraps_i32 _ dS dS
theorem aff(x d:Int)(h0:134217728<=x)(h1:x<268435456)(hd0:0<=d)(hd:d<=15):bits .or .i32 (IntKind.i32.wrap (x*16)) d<0:=by
 have hw:IntKind.i32.wrap (x*16)=x*16-4294967296:=by rw[IntKind.wrap_i32];omega
 rw[hw];unfold bits;simp only;have e1:BitVec.ofInt 32 (x*16-4294967296)=BitVec.ofNat 32 (x*16).toNat:=ZC
 have e2:BitVec.ofInt 32 d=BitVec.ofNat 32 d.toNat:=ZC
 show IntKind.i32.wrap (((BitVec.ofInt 32 (x*16-4294967296)|||BitVec.ofInt 32 d).toNat:Nat):Int)<0
 rw[e1,e2];have hge:2147483648<=(BitVec.ofNat 32 (x*16).toNat|||BitVec.ofNat 32 d.toNat).toNat:=by
  rw[BitVec.toNat_or,ahE,ahE];have:(x*16).toNat%2^32=(x*16).toNat:=dS
  rw[this];exact iU dS Nat.left_le_or
 have hlt:(BitVec.ofNat 32 (x*16).toNat|||BitVec.ofNat 32 d.toNat).toNat<4294967296:=(BitVec.ofNat 32 (x*16).toNat|||BitVec.ofNat 32 d.toNat).isLt
 show IntKind.i32.wrap (((BitVec.ofNat 32 (x*16).toNat|||BitVec.ofNat 32 d.toNat).toNat:Nat):Int)<0
 generalize (BitVec.ofNat 32 (x*16).toNat|||BitVec.ofNat 32 d.toNat).toNat=z at*;rw[IntKind.wrap_i32];omega
theorem get_at(s:ByteArray)(k:Nat)(h:k<s.size):s[k]=s.get! k:=by
 simp[ByteArray.get!,getElem!_pos,h];rfl
theorem ab3(s:ByteArray)(h:2<=s.size):s.data.toList=s[0]'(by omega)::s[1]'(by omega)::s.data.toList.drop 2:=by
 have hl:s.data.toList.length=s.size:=(size_eq s).symm;generalize hL:s.data.toList=L at*
 match L,hl with
 |a::b::r,_=>
  have e0:s[0]'(by omega)=a:=by
   rw[get_at,<-getD_get!',hL];rfl
  have e1:s[1]'(by omega)=b:=by
   rw[get_at,<-getD_get!',hL];rfl
  rw[e0,e1];rfl
 |[],hl=>simp at hl;omega
 |[_],hl=>simp at hl;omega
theorem ext_list(s:ByteArray)(a b:Nat):(s.extract a b).data.toList=(s.data.toList.drop a).take (b-a):=by
 rw[extract_data]
end Es
end Go.Proofs.YtmkkdjpebbdikaaGreatDoor

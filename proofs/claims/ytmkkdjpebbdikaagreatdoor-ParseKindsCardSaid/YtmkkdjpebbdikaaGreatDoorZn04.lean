import Derived.Test.YtmkkdjpebbdikaaGreatDoorZn00
import Derived.Below
import Derived.Laws.AppendOwn
import Derived.Laws.BitsLemmas
import Derived.Laws.RangeAny
import Derived.Lib.DecodeN
import Derived.Lib.RuneCount
import Derived.Lib.RuneCountTail
import Derived.Lib.SlTrimSet
import Derived.Lib.Strings
import Derived.WalkKit
set_option linter.all false
set_option maxHeartbeats 16000000
set_option maxRecDepth 100000
namespace Go.Proofs.YtmkkdjpebbdikaaGreatDoor
def Vz:=@Lib.tail_size
def RO:=@Lib.tail_get!
def rE:=@Lib.size_eq
def BD:=@Lib.getD_get!'
namespace Sg
open Go.Lib
def zB(n b0 b1 b2 b3:Nat):Int×Nat:=
 if n=0 then(-1,0)else if(decodeN n b0 b1 b2 b3).1=65533/\(decodeN n b0 b1 b2 b3).2<2 then(-1,(decodeN n b0 b1 b2 b3).2)else(((decodeN n b0 b1 b2 b3).1:Int),(decodeN n b0 b1 b2 b3).2)
def Yu(n v0 b1:Nat):Int×Nat:=
 if n<2 then(-1,1)else if b1<128\/b1>191 then(-1,1)
 else if v0*64+b1%64<128\/v0*64+b1%64>1114111\/(v0*64+b1%64>=55296/\v0*64+b1%64<=57343)then(-1,1)else(((v0*64+b1%64:Nat):Int),2)
def Yv(n v0 b1 b2:Nat):Int×Nat:=
 if n<3 then(-1,1)else if b1<128\/b1>191 then(-1,1)else if b2<128\/b2>191 then(-1,1)
 else if(v0*64+b1%64)*64+b2%64<2048\/(v0*64+b1%64)*64+b2%64>1114111\/((v0*64+b1%64)*64+b2%64>=55296/\(v0*64+b1%64)*64+b2%64<=57343)then(-1,1)
 else((((v0*64+b1%64)*64+b2%64:Nat):Int),3)
def Yw(n v0 b1 b2 b3:Nat):Int×Nat:=
 if n<4 then(-1,1)else if b1<128\/b1>191 then(-1,1)else if b2<128\/b2>191 then(-1,1)else if b3<128\/b3>191 then(-1,1)
 else if((v0*64+b1%64)*64+b2%64)*64+b3%64<65536\/((v0*64+b1%64)*64+b2%64)*64+b3%64>1114111\/(((v0*64+b1%64)*64+b2%64)*64+b3%64>=55296/\((v0*64+b1%64)*64+b2%64)*64+b3%64<=57343)then(-1,1)
 else(((((v0*64+b1%64)*64+b2%64)*64+b3%64:Nat):Int),4)
theorem rR(n b0 b1 b2 b3:Nat)(hn:n≠0)(e:decodeN n b0 b1 b2 b3=(65533,1)):zB n b0 b1 b2 b3=(-1,1):=by
 rw[zB,eX hn,e,eY (by simp)]
theorem zZ(n b0 b1 b2 b3 v k:Nat)(hn:n≠0)(hk:2<=k)(e:decodeN n b0 b1 b2 b3=(v,k)):zB n b0 b1 b2 b3=((v:Int),k):=by
 rw[zB,eX hn,e,eX (by simp;omega)]
theorem OM(n b0 b1 b2 b3:Nat)(hn:0<n)(h:b0<128):zB n b0 b1 b2 b3=((b0:Int),1):=by
 have e:decodeN n b0 b1 b2 b3=(b0,1):=by simp[decodeN,h]
 rw[zB,eX (by omega),e,eX (by simp;omega)]
theorem NN(n b0 b1 b2 b3:Nat)(hn:0<n)(h:128<=b0)(h':b0<192\/248<=b0):zB n b0 b1 b2 b3=(-1,1):=by
 refine rR _ _ _ _ _ (by omega) ?_;simp only[decodeN];rw[eX (by omega),eX (by omega),eX (by omega),eX (by omega)]
theorem VV(n b0 b1 b2 b3:Nat)(hn:0<n)(h:192<=b0)(h':b0<224)(l1:b1<256):zB n b0 b1 b2 b3=Yu n (b0%32) b1:=by
 unfold Yu;generalize hv:b0%32*64+b1%64=v;by_cases hc:1<n/\b1/64=2
 ·rw[eX (by omega),eX (by omega)];by_cases hg:v>=128
  ·rw[eX (by omega)];refine zZ _ _ _ _ _ _ _ (by omega) (by omega) ?_;simp only[decodeN];rw[eX (by omega),eY (by omega),hv,eY hg]
  rw[eY (by omega)];refine rR _ _ _ _ _ (by omega) ?_;simp only[decodeN];rw[eX (by omega),eY (by omega),hv,eX hg]
 have e:zB n b0 b1 b2 b3=(-1,1):=by
  refine rR _ _ _ _ _ (by omega) ?_;simp only[decodeN];rw[eX (by omega),eX (by omega),eX (by omega),eX (by omega)]
 rw[e];split
 ·rfl
 rw[eY (by omega)]
theorem OO(n b0 b1 b2 b3:Nat)(hn:0<n)(h:224<=b0)(h':b0<240)(l1:b1<256)(l2:b2<256):zB n b0 b1 b2 b3=Yv n (b0%16) b1 b2:=by
 have ea:b0%16*4096+b1%64*64+b2%64=(b0%16*64+b1%64)*64+b2%64:=by omega
 unfold Yv;generalize hv:(b0%16*64+b1%64)*64+b2%64=v at ea⊢;by_cases hc:(1<n/\b1/64=2)/\(2<n/\b2/64=2)
 ·rw[eX (by omega),eX (by omega),eX (by omega)];by_cases hg:v>=2048/\(v<55296\/(57344<=v/\v<=1114111))
  ·rw[eX (by omega)];refine zZ _ _ _ _ _ _ _ (by omega) (by omega) ?_;simp only[decodeN];rw[eX (by omega),eX (by omega),eY (by omega),ea,eY hg]
  rw[eY (by omega)];refine rR _ _ _ _ _ (by omega) ?_;simp only[decodeN];rw[eX (by omega),eX (by omega),eY (by omega),ea,eX hg]
 have e:zB n b0 b1 b2 b3=(-1,1):=by
  refine rR _ _ _ _ _ (by omega) ?_;simp only[decodeN];rw[eX (by omega),eX (by omega),eX (by omega),eX (by omega)]
 rw[e];split
 ·rfl
 split
 ·rfl
 rw[eY (by omega)]
theorem Sl(n b0 b1 b2 b3:Nat)(hn:0<n)(h:240<=b0)(h':b0<248)(l1:b1<256)(l2:b2<256)(l3:b3<256):zB n b0 b1 b2 b3=Yw n (b0%8) b1 b2 b3:=by
 have ea:b0%8*262144+b1%64*4096+b2%64*64+b3%64=((b0%8*64+b1%64)*64+b2%64)*64+b3%64:=by omega
 unfold Yw;generalize hv:((b0%8*64+b1%64)*64+b2%64)*64+b3%64=v at ea⊢;by_cases hc:(1<n/\b1/64=2)/\(2<n/\b2/64=2)/\(3<n/\b3/64=2)
 ·rw[eX (by omega),eX (by omega),eX (by omega),eX (by omega)];by_cases hg:v>=65536/\(v<55296\/(57344<=v/\v<=1114111))
  ·rw[eX (by omega)];refine zZ _ _ _ _ _ _ _ (by omega) (by omega) ?_;simp only[decodeN];rw[eX (by omega),eX (by omega),eX (by omega),eY (by omega),ea,eY hg]
  rw[eY (by omega)];refine rR _ _ _ _ _ (by omega) ?_;simp only[decodeN];rw[eX (by omega),eX (by omega),eX (by omega),eY (by omega),ea,eX hg]
 have e:zB n b0 b1 b2 b3=(-1,1):=by
  refine rR _ _ _ _ _ (by omega) ?_;simp only[decodeN];rw[eX (by omega),eX (by omega),eX (by omega),eX (by omega)]
 rw[e];split
 ·rfl
 split
 ·rfl
 split
 ·rfl
 rw[eY (by omega)]
def nx(s:ByteArray)(i:Nat):Int×Nat:=zB (s.size-i) (s.get! i).toNat (s.get! (i+1)).toNat (s.get! (i+2)).toNat (s.get! (i+3)).toNat
end Sg
namespace Sg
open Go.Lib
def mW(s:ByteArray):Nat->Nat->List Nat
 |0,_=>[]
 |f+1,p=>if p<s.size then(if(nx s p).1<0 then p::mW s f (p+(nx s p).2)else mW s f (p+(nx s p).2))else[]
def bad(s:ByteArray):List Nat:=mW s s.size 0
theorem Fp(s:ByteArray)(f p:Nat)(h:¬p<s.size):mW s f p=[]:=by
 cases f<;>simp[mW,h]
theorem zN(s:ByteArray)(p:Nat)(h:p<s.size):nx s p=if(Utf8.decode s p).1=65533/\(Utf8.decode s p).2<2 then(-1,(Utf8.decode s p).2)else(((Utf8.decode s p).1:Int),(Utf8.decode s p).2):=by
 unfold nx zB;rw[eX (by omega),<-decode_at]
theorem pK(s:ByteArray)(p:Nat)(h:p<s.size):(nx s p).2=(Utf8.decode s p).2:=by
 rw[zN s p h];split<;>rfl
theorem NP(s:ByteArray)(p:Nat)(h:p<s.size)(hr:(Utf8.decode s p).1≠65533):(nx s p).1=(Utf8.decode s p).1:=by
 rw[zN s p h,eX (λx=>hr x.1)]
theorem XR(s:ByteArray)(p:Nat):-1<=(nx s p).1:=by
 unfold nx zB
 (repeat' split)<;>(dsimp only;omega)
theorem xS(s:ByteArray)(p:Nat)(h:p<s.size):1<=(nx s p).2:=by
 rw[pK s p h];exact decode_width_pos s p h
theorem VW(n b0 b1 b2 b3:Nat)(hn:1<=n):(decodeN n b0 b1 b2 b3).2<=n:=by
 unfold decodeN
 (repeat' split)<;>(dsimp only;omega)
theorem E6(s:ByteArray)(p:Nat)(h:p<s.size):p+(nx s p).2<=s.size:=by
 rw[pK s p h];have:=VW (s.size-p) (s.get! p).toNat (s.get! (p+1)).toNat (s.get! (p+2)).toNat (s.get! (p+3)).toNat (by omega);rw[<-decode_at]at this;omega
theorem K4(s:ByteArray)(f p:Nat)(h:p<s.size):mW s (f+1) p=(if(nx s p).1<0 then[p]else[])++mW s f (p+(nx s p).2):=by
 rw[mW,eY h];split<;>rfl
theorem z8(s:ByteArray):∀f p,(mW s f p).length<=f
 |0,_=>fB _
 |f+1,p=>by
  have:=z8 s f (p+(nx s p).2);unfold mW;(repeat' split)<;>simp<;>omega
end Sg
namespace Sc
open Sg
def blk(c:Nat):Bool:=c==32||c==9
def brk(c:Nat):Bool:=c==10||c==13
def Dj(c:Nat):Bool:=(Nat.ble 97 c&&Nat.ble c 122)||(Nat.ble 65 c&&Nat.ble c 90)||(Nat.ble 48 c&&Nat.ble c 57)||c==95||c==45
def EZ(c:Nat):Bool:=c==44||c==91||c==93||c==123||c==125
def xX(c:Nat):Bool:=c==32
def Ig(c:Nat):Bool:=c==33||Dj c
def run(p:Nat->Bool):List Nat->Nat
 |[]=>0
 |c::r=>if p c=true then run p r+1 else 0
def jI(l:List Nat):Nat:=run (λc=>!brk c) l
def jJ(l:List Nat):List Nat:=l.take (jI l)
def qa:List Nat->Nat
 |[]=>0
 |[c]=>if c=13 then 1 else if c=10 then 1 else 0
 |c::d::_=>if c=13 then(if d=10 then 2 else 1)else if c=10 then 1 else 0
def part:List Nat->Bool
 |[]=>true
 |c::_=>blk c
def mark(r:List Nat):Nat:=
 if r.take 3=[45,45,45]then(if part (r.drop 3)=true then 20 else 0)else if r.take 3=[46,46,46]then(if part (r.drop 3)=true then 21 else 0)else 0
def named:List Nat->Nat×Nat
 |[]=>(0,0)
 |c::r=>
  if c=38 then(if run Dj r=0 then(0,0)else(12,run Dj r+1))
  else if c=42 then(if run Dj r=0 then(0,0)else(13,run Dj r+1))
  else if c=33 then(14,run Ig r+1)else(0,0)
def sQ:List Nat->Nat
 |[]=>0
 |[_]=>1
 |c::d::r=>if c=39 then(if d=39 then sQ r+2 else 1)else sQ (d::r)+1
def sS:List Nat->Nat
 |[]=>0
 |[_]=>1
 |c::d::r=>if c=34 then 1 else if c=92 then sS r+2 else sS (d::r)+1
def sZ:List Nat->Nat
 |[]=>1
 |c::_=>if c=43 then 2 else if c=45 then 2 else 1
def hsh:List Nat->Bool
 |[]=>true
 |c::_=>c==35
def Dn(rest:List Nat):Bool:=(rest.drop (run blk rest)==[])||(part rest&&hsh (rest.drop (run blk rest)))
def kF:List Nat->Nat
 |[]=>0
 |c::r=>if c=124\/c=62 then(if Dn ((c::r).drop (sZ r))=true then sZ r else 0)else 0
def xE(l:List Nat):Int×Nat:=zB l.length (l.getD 0 0) (l.getD 1 0) (l.getD 2 0) (l.getD 3 0)
def bad(l:List Nat):Bool:=decide ((xE l).1<0)
def key(op:Bool):List Nat->Bool
 |[]=>true
 |c::_=>blk c||(op&&EZ c)
def stop(op pb:Bool):List Nat->Bool
 |[]=>true
 |c::r=>bad (c::r)||(c==58&&key op r)||(c==35&&pb)||(op&&EZ c)
def goes(op:Bool):Nat->Nat->List Nat->Nat
 |0,_,_=>0
 |f+1,p,l=>if stop op (blk p) l=true then 0 else(xE l).2+goes op f (l.getD ((xE l).2-1) 0) (l.drop (xE l).2)
def trim:List Nat->Nat
 |[]=>0
 |c::r=>if trim r=0 then(if blk c=true then 0 else 1)else trim r+1
def rJ(op:Bool)(r:List Nat):Nat:=trim (r.take ((xE r).2+goes op r.length (r.getD ((xE r).2-1) 0) (r.drop (xE r).2)))
def sign(op:Nat)(dash:Bool):List Nat->Nat
 |[]=>0
 |c::r=>
  if c=91 then 8 else if c=123 then 9 else if c=93 then 10 else if c=125 then 11
  else if c=44 then(if 0<op then 7 else 0)
  else if c=45 then(if op=0 then(if dash=true then(if part r=true then 5 else 0)else 0)else 0)
  else if c=58 then(if key (decide (0<op)) r=true then 6 else 0)else 0
def quoted:List Nat->Nat×Nat
 |[]=>(0,0)
 |c::r=>if c=39 then(16,sQ r+1)else if c=34 then(17,sS r+1)else(0,0)
def word(op:Nat)(dash:Bool)(r:List Nat):Nat×Nat:=
 if 0<sign op dash r then(sign op dash r,1)
 else if 0<(named r).1 then named r
 else if 0<(quoted r).1 then quoted r
 else if op=0/\0<kF r then(18,kF r)
 else if bad r=true then(22,1)
 else(15,rJ (decide (0<op)) r)
def next(op:Nat)(dash blank first:Bool)(r:List Nat):Nat×Nat:=
 if first=true/\0<mark r then(mark r,3)
 else if first=true/\0<run xX r then(2,run xX r)
 else if 0<run blk r then(3,run blk r)
 else if hsh r=true/\(first=true\/blank=true)then(4,r.length)
 else word op dash r
structure St where
 op:Nat
 base:Int
 least:Int
 dash:Bool
 fG:Nat
 blank:Bool
def fresh(op:Nat)(least:Int):St:=⟨op,-1,least,true,0,false⟩
def counts(k:Nat):Bool:=!(k==1||k==2||k==3||k==4)
def leaves(k:Nat):Bool:=k==20||k==2||k==3||k==5
def opens(op k:Nat):Nat:=if k=8\/k=9 then op+1 else if k=10\/k=11 then op-1 else if k=20\/k=21 then 0 else op
def take(s:St)(k n:Nat):St where
 op:=opens s.op k
 least:=if k=18 then(if s.base=-1 then(s.fG:Int)else s.base+1)else s.least
 base:=if s.base=-1/\counts k=true then(s.fG:Int)else s.base
 dash:=s.dash&&leaves k
 fG:=s.fG+n
 blank:=k==2||k==3
def isText(least:Int)(r:List Nat):Bool:=decide (least≠-1/\mark r=0/\(run blk r=r.length\/least<=run xX r))
def mid(s:St)(l:List Nat):Nat×Nat×St:=
 if jI l=0 then(1,qa l,fresh s.op s.least)
 else((next s.op s.dash s.blank (s.fG==0) (jJ l)).1,(next s.op s.dash s.blank (s.fG==0) (jJ l)).2,take s (next s.op s.dash s.blank (s.fG==0) (jJ l)).1 (next s.op s.dash s.blank (s.fG==0) (jJ l)).2)
def step(s:St)(l:List Nat):Nat×Nat×St:=
 if s.fG=0 then(if isText s.least (jJ l)=true then(19,jI l+qa (l.drop (jI l)),fresh s.op s.least)else mid {s with least:=-1} l)else mid s l
def toks:Nat->St->Nat->List Nat->List (Nat×Nat×Nat)
 |0,_,_,_=>[]
 |f+1,s,at',l=>if l=[]then[]else((step s l).1,at',at'+(step s l).2.1)::toks f (step s l).2.2 (at'+(step s l).2.1) (l.drop (step s l).2.1)
def tokens(l:List Nat):List (Nat×Nat×Nat):=if 16384<l.length then[]else toks l.length (fresh 0 (-1)) 0 l
def fw(s:ByteArray):List Nat:=s.data.toList.map UInt8.toNat
end Sc
section
open Go.RowKit
def xF(w:World)(v:Value)(s:ByteArray):Prop:=
 (v=.slice none 0 0/\s.size=0)\/∃b off cap,v=.slice (some ⟨b,off,none⟩) s.size cap/\s.size<=cap/\cap<=maxLen/\∀j,j<s.size->w.cell? ⟨b,off+j,none⟩=some (.int .u8 (s.get! j).toNat)
theorem lt_of_cell{w:World}{a:Addr}{v:Value}(h:w.cell? a=some v):a.block<w.heap.size:=by
 unfold World.cell? at h;rcases kS a.block w.heap.size with h'|h'
 ·exact h'
 simp[Array.getElem?_eq_none h']at h
theorem xF.below{w w':World}{v:Value}{s:ByteArray}(h:xF w v s)(hb:Below w.heap.size w w'):xF w' v s:=by
 rcases h with h|⟨b,off,cap,h1,h2,h3,h4⟩
 ·exact .inl h
 refine .inr ⟨b,off,cap,h1,h2,h3,λj hj=>?_⟩;have h5:=h4 j hj;have h6:b<w.heap.size:=lt_of_cell h5
 rw[hb.cell (p:=⟨b,off+j,none⟩) h6];exact h5
theorem xF.size_le{w:World}{v:Value}{s:ByteArray}(h:xF w v s):s.size<=maxLen:=by
 rcases h with⟨_,h⟩|⟨b,off,cap,_,h2,h3,_⟩
 ·rw[h];exact ic _
 exact jU h2 h3
theorem Sm(s:ByteArray)(k i:Nat):Sg.nx (s.extract k s.size) i=Sg.nx s (k+i):=by
 simp only[Sg.nx,Vz,RO];rw[show s.size-k-i=s.size-(k+i)from by omega,show k+(i+1)=k+i+1 from by omega,show k+(i+2)=k+i+2 from by omega,show k+(i+3)=k+i+3 from by omega]
end
namespace Sg
open Go.Lib
theorem pM(a b:ByteArray):(a++b).size=a.size+b.size:=ByteArray.size_append
theorem Fq(a b:ByteArray):(a++b).data.toList=a.data.toList++b.data.toList:=by simp
theorem get_at(l:List UInt8)(i:Nat):(⟨l.toArray⟩:ByteArray).get! i=l.getD i 0:=by rw[<-getD_get!']
theorem size_at(l:List UInt8):(⟨l.toArray⟩:ByteArray).size=l.length:=by simp[ByteArray.size]
def EG(r:Int):Nat:=if Utf8.valid r then r.toNat else 65533
theorem x9{r:Int}(h:Utf8.valid r=true):(EG r:Int)=r:=by
 unfold EG;rw[eY h];simp[Utf8.valid]at h;omega
def enc1(c:Nat):List UInt8:=[UInt8.ofNat c]
def enc2(c:Nat):List UInt8:=[UInt8.ofNat (192+c/64),UInt8.ofNat (128+c%64)]
def enc3(c:Nat):List UInt8:=[UInt8.ofNat (224+c/4096),UInt8.ofNat (128+c/64%64),UInt8.ofNat (128+c%64)]
def enc4(c:Nat):List UInt8:=[UInt8.ofNat (240+c/262144),UInt8.ofNat (128+c/4096%64),UInt8.ofNat (128+c/64%64),UInt8.ofNat (128+c%64)]
def rG(c:Nat):List UInt8:=if c<128 then enc1 c else if c<2048 then enc2 c else if c<65536 then enc3 c else enc4 c
theorem encode_eq(r:Int):Utf8.encode r=⟨(rG (EG r)).toArray⟩:=by
 have h:Utf8.encode r=(if EG r<128 then⟨(enc1 (EG r)).toArray⟩else if EG r<2048 then⟨(enc2 (EG r)).toArray⟩else if EG r<65536 then⟨(enc3 (EG r)).toArray⟩else⟨(enc4 (EG r)).toArray⟩):=rfl;rw[h];unfold rG;by_cases c1:EG r<128
 ·rw[eY c1,eY c1]
 by_cases c2:EG r<2048
 ·rw[eX c1,eY c2,eX c1,eY c2]
 by_cases c3:EG r<65536
 ·rw[eX c1,eX c2,eY c3,eX c1,eX c2,eY c3]
 rw[eX c1,eX c2,eX c3,eX c1,eX c2,eX c3]
theorem byte_of(n:Nat)(h:n<256):(UInt8.ofNat n).toNat=n:=by simp;omega
theorem OP(c:Nat):1<=(rG c).length/\(rG c).length<=4:=by
 unfold rG
 (repeat' split)<;>simp[enc1,enc2,enc3,enc4]
theorem qm(r:Int):(Utf8.encode r).size=(rG (EG r)).length:=by rw[encode_eq,size_at]
end Sg
namespace Sg
open Go.Lib
theorem Fs(s:ByteArray)(p:Nat)(h:p<s.size):
 ((s.get! p).toNat<128->nx s p=(((s.get! p).toNat:Int),1))/\(128<=(s.get! p).toNat->((nx s p).1=-1\/128<=(nx s p).1)/\∀i,p<i->i<p+(nx s p).2->128<=(s.get! i).toNat):=by
 have l0:=(s.get! p).toNat_lt;have l1:=(s.get! (p+1)).toNat_lt;have l2:=(s.get! (p+2)).toNat_lt;have l3:=(s.get! (p+3)).toNat_lt;have hpos:0<s.size-p:=by omega
 refine⟨λhb=>by unfold nx;exact OM _ _ _ _ _ hpos hb,λhb=>?_⟩;have key:∀K:Nat,(2<=K->128<=(s.get! (p+1)).toNat)->(3<=K->128<=(s.get! (p+2)).toNat)->(4<=K->128<=(s.get! (p+3)).toNat)->K<=4->∀i,p<i->i<p+K->128<=(s.get! i).toNat:=by
  intro K k1 k2 k3 k4 i h1 h2;rcases(by omega:i=p+1\/i=p+2\/i=p+3)with rfl|rfl|rfl
  ·exact k1 (by omega)
  ·exact k2 (by omega)
  exact k3 (by omega)
 by_cases c2:(s.get! p).toNat<192
 ·have e:nx s p=(-1,1):=by unfold nx;exact NN _ _ _ _ _ hpos hb (.inl c2)
  rw[e];exact⟨.inl rfl,λi h1 h2=>by dsimp only at h2;omega⟩
 by_cases c3:(s.get! p).toNat<224
 ·have e:nx s p=Yu (s.size-p) ((s.get! p).toNat%32) (s.get! (p+1)).toNat:=by unfold nx;exact VV _ _ _ _ _ hpos (by omega) c3 l1
  rw[e];refine⟨?_,key _ ?_ ?_ ?_ ?_⟩<;>unfold Yu<;>(repeat' split)<;>dsimp only at*<;>omega
 by_cases c4:(s.get! p).toNat<240
 ·have e:nx s p=Yv (s.size-p) ((s.get! p).toNat%16) (s.get! (p+1)).toNat (s.get! (p+2)).toNat:=by unfold nx;exact OO _ _ _ _ _ hpos (by omega) c4 l1 l2
  rw[e];refine⟨?_,key _ ?_ ?_ ?_ ?_⟩<;>unfold Yv<;>(repeat' split)<;>dsimp only at*<;>omega
 by_cases c5:(s.get! p).toNat<248
 ·have e:nx s p=Yw (s.size-p) ((s.get! p).toNat%8) (s.get! (p+1)).toNat (s.get! (p+2)).toNat (s.get! (p+3)).toNat:=by unfold nx;exact Sl _ _ _ _ _ hpos (by omega) c5 l1 l2 l3
  rw[e];refine⟨?_,key _ ?_ ?_ ?_ ?_⟩<;>unfold Yw<;>(repeat' split)<;>dsimp only at*<;>omega
 have e:nx s p=(-1,1):=by unfold nx;exact NN _ _ _ _ _ hpos hb (.inr (by omega))
 rw[e];exact⟨.inl rfl,λi h1 h2=>by dsimp only at h2;omega⟩
theorem DT(s:ByteArray)(p:Nat)(h:p<s.size):∀i,p<i->i<p+(nx s p).2->128<=(s.get! i).toNat:=by
 have hf:=Fs s p h;by_cases hb:(s.get! p).toNat<128
 ·rw[hf.1 hb];intro i h1 h2;dsimp only at h2;omega
 exact(hf.2 (by omega)).2
theorem XU(s:ByteArray)(p c:Nat)(h:p<s.size)(hc:c<128):(nx s p).1=(c:Int)↔(s.get! p).toNat=c:=by
 have hf:=Fs s p h;by_cases hb:(s.get! p).toNat<128
 ·rw[hf.1 hb];dsimp only;omega
 have:=(hf.2 (by omega)).1;constructor<;>intro hh<;>omega
theorem tK(s:ByteArray)(p c:Nat)(h:p<s.size)(hc:c<128):(Utf8.decode s p).1=c↔(s.get! p).toNat=c:=by
 have hi:=XU s p c h hc;by_cases hr:(Utf8.decode s p).1=65533
 ·have h1:(nx s p).1=-1\/(nx s p).1=65533:=by
   rw[zN s p h];split
   ·exact .inl rfl
   exact .inr (by dsimp only;omega)
  constructor
  ·intro hh;omega
  intro hh;have:=hi.2 hh;omega
 rw[NP s p h hr]at hi;constructor
 ·intro hh;exact hi.1 (by omega)
 intro hh;have:=hi.2 hh;omega
theorem ext_size(s:ByteArray)(a i:Nat)(h:i<=s.size):(s.extract a i).size=i-a:=by
 rw[nV];omega
theorem ext_get(s:ByteArray)(a i j:Nat)(h:a+j<i):(s.extract a i).get! j=s.get! (a+j):=by
 rw[<-getD_get!',<-getD_get!',extract_data,yI,yI,List.getElem?_take,eY (by omega),sJ]
end Sg
namespace Sc
open Sg
theorem gJ(s:ByteArray):(fw s).length=s.size:=by
 unfold fw;rw[jD,rE]
theorem jo(s:ByteArray)(i:Nat):(fw s).getD i 0=(s.get! i).toNat:=by
 unfold fw;rw[yI,lS,<-BD,yI];cases s.data.toList[i]?<;>rfl
theorem tZ(s:ByteArray)(i:Nat):((fw s).drop i).length=s.size-i:=by rw[iT,gJ]
theorem qY(s:ByteArray)(i j:Nat):((fw s).drop i).getD j 0=(s.get! (i+j)).toNat:=by
 rw[yI,sJ,<-yI,jo]
theorem drop_cons(s:ByteArray)(i:Nat)(h:i<s.size):(fw s).drop i=(s.get! i).toNat::(fw s).drop (i+1):=by
 rw[vZ (by rw[gJ];exact h)];congr 1;have h2:=jo s i;rw[yI,mR (by rw[gJ];exact h)]at h2;exact h2
theorem drop_nil(s:ByteArray)(i:Nat)(h:s.size<=i):(fw s).drop i=[]:=mI (by rw[gJ];exact h)
theorem lL(s:ByteArray)(i:Nat)(h:i<s.size):(s[i]'h)=s.get! i:=by
 have e:=BD s i;rw[<-e,yI,mR (by rw[<-rE];exact h)];rfl
theorem wT(s:ByteArray)(a b:Nat):fw (s.extract a b)=((fw s).drop a).take (b-a):=by
 unfold fw;rw[Lib.extract_data,Rq,List.map_drop]
theorem lz(s:ByteArray)(a:Nat):fw (s.extract a s.size)=(fw s).drop a:=by
 rw[wT,xK (by rw[tZ];exact fB _)]
theorem qZ(s:ByteArray)(b:Nat):fw (s.extract 0 b)=(fw s).take b:=by rw[wT,lQ,BC]
theorem wH(s:ByteArray)(i:Nat):nx s i=xE ((fw s).drop i):=by
 unfold nx xE;rw[tZ,qY,qY,qY,qY];rfl
theorem ni(p:Nat->Bool)(l:List Nat):run p l<=l.length:=by
 induction l with
 |nil=>exact fB _
 |cons c r ih=>rw[run];split<;>simp<;>omega
theorem run_end(p:Nat->Bool)(l:List Nat)(k:Nat)(h:∀j,j<k->p (l.getD j 0)=true)(hk:k=l.length\/(k<l.length/\p (l.getD k 0)=false)):run p l=k:=by
 induction l generalizing k with
 |nil=>
  rcases hk with h|⟨h,_⟩
  ·exact h.symm
  exact absurd h (by simp)
 |cons c r ih=>
  cases k with
  |zero=>
   rcases hk with h|⟨_,h⟩
   ·simp at h
   rw[run,eX (by simpa using h)]
  |succ k=>
   have h0:=h 0 (by omega);rw[run,eY (by simpa using h0),ih k (λj hj=>by simpa using h (j+1) (by omega)) (by simpa using hk)]
end Sc
namespace Sc
open Sg
theorem za(c:Nat)(r:List Nat):1<=(xE (c::r)).2:=by
 unfold xE zB;rw[eX (by simp)];have h:1<=(Lib.decodeN (c::r).length ((c::r).getD 0 0) ((c::r).getD 1 0) ((c::r).getD 2 0) ((c::r).getD 3 0)).2:=by
  unfold Lib.decodeN
  (repeat' split)<;>(dsimp only;omega)
 split<;>exact h
theorem yf(op:Bool):∀(f g p:Nat)(l:List Nat),l.length<=f->l.length<=g->goes op f p l=goes op g p l
 |0,g,p,l,h,_=>by
  obtain rfl:l=[]:=oC (by omega);cases g<;>rfl
 |f+1,0,p,l,_,h=>by
  obtain rfl:l=[]:=oC (by omega);rfl
 |f+1,g+1,p,l,hf,hg=>by
  rw[goes,goes];by_cases hs:stop op (blk p) l=true
  ·rw[eY hs,eY hs]
  rw[eX hs,eX hs];cases l with
  |nil=>exact absurd rfl hs
  |cons c r=>
   have h1:=za c r;rw[yf op f g _ _ (by rw[iT];omega) (by rw[iT];omega)]
def vw(op:Bool)(p:Nat)(l:List Nat):Nat:=goes op l.length p l
theorem AM(op:Bool)(p:Nat)(l:List Nat)(h:stop op (blk p) l=true):vw op p l=0:=by
 unfold vw;cases hl:l.length with
 |zero=>rfl
 |succ n=>rw[goes,eY h]
theorem OQ(op:Bool)(p:Nat)(l:List Nat)(h:stop op (blk p) l=false):vw op p l=(xE l).2+vw op (l.getD ((xE l).2-1) 0) (l.drop (xE l).2):=by
 cases l with
 |nil=>cases h
 |cons c r=>
  have h1:=za c r;unfold vw;rw[jh,goes,eX (by rw[h];simp)];rw[yf op r.length _ _ _ (by rw[iT,jh];omega) (fB _)]
theorem yg(op:Bool)(r:List Nat):rJ op r=trim (r.take ((xE r).2+vw op (r.getD ((xE r).2-1) 0) (r.drop (xE r).2))):=by
 unfold rJ vw;rw[yf op r.length _ _ _ (by rw[iT];omega) (fB _)]
theorem Sn(l:List Nat):trim l<=l.length:=by
 induction l with
 |nil=>exact fB _
 |cons c r ih=>rw[trim,jh];(repeat' split)<;>omega
theorem OU(l:List Nat):(l.reverse.dropWhile blk).length=trim l:=by
 induction l with
 |nil=>rfl
 |cons c r ih=>
  rw[Hr,List.dropWhile_append,trim];by_cases h:trim r=0
  ·have h2:(r.reverse.dropWhile blk)=[]:=oC (by rw[ih,h]);rw[h2,eY h];cases hc:blk c with
   |true=>simp[hc]
   |false=>simp[hc]
  rw[eX (by rw[List.isEmpty_iff];intro e;rw[e]at ih;exact h (by rw[<-ih];rfl)),eX h,iJ,ih];rfl
theorem OV(l:List UInt8):(Lib.trimRightS l [32,9]).length=trim (l.map UInt8.toNat):=by
 rw[<-OU,Lib.trimRightS,Db,<-List.map_reverse];generalize l.reverse=m
 induction m with
 |nil=>rfl
 |cons b r ih=>
  have key:∀n:Fin 256,([32,9]:List UInt8).contains n.val.toUInt8=blk n.val:=by decide+kernel
  have hb:([32,9]:List UInt8).contains b=blk b.toNat:=by
   have:=key ⟨b.toNat,KP b⟩
   simpa using this
  rw[wB,EK,EK,hb];cases blk b.toNat with
  |true=>simpa using ih
  |false=>simp
theorem Sr(op pb:Bool)(s:ByteArray)(p:Nat)(h:p<s.size):stop op pb ((fw s).drop p)=(bad ((fw s).drop p)||((s.get! p).toNat==58&&key op ((fw s).drop (p+1)))||((s.get! p).toNat==35&&pb)||(op&&EZ (s.get! p).toNat)):=by
 rw[drop_cons s p h];rfl
theorem NQ(s:ByteArray)(p:Nat):bad ((fw s).drop p)=decide ((nx s p).1<0):=by rw[bad,<-wH]
end Sc
namespace Sc
open Sg
theorem Ss(l:List Nat):sQ l<=l.length:=by
 fun_induction sQ l<;>simp_all<;>omega
theorem Su(l:List Nat):sS l<=l.length:=by
 fun_induction sS l<;>simp_all<;>omega
theorem OX(l:List Nat)(h:0<(named l).1):0<(named l).2/\(named l).2<=l.length:=by
 cases l with
 |nil=>exact absurd h (by decide)
 |cons c r=>
  have h1:=ni Dj r;have h2:=ni Ig r;unfold named at h⊢
  (repeat' split at h)<;>(repeat' split)<;>simp_all<;>omega
theorem K5(l:List Nat)(h:0<(quoted l).1):0<(quoted l).2/\(quoted l).2<=l.length:=by
 cases l with
 |nil=>exact absurd h (by decide)
 |cons c r=>
  have h1:=Ss r;have h2:=Su r;unfold quoted at h⊢
  (repeat' split at h)<;>(repeat' split)<;>simp_all<;>omega
theorem OY(r:List Nat):sZ r<=r.length+1:=by
 cases r with
 |nil=>decide
 |cons c t=>rw[sZ];(repeat' split)<;>simp
theorem OZ(l:List Nat):kF l<=l.length:=by
 cases l with
 |nil=>decide
 |cons c r=>
  have:=OY r;rw[kF];split
  ·split
   ·simpa using this
   exact ic _
  exact ic _
theorem O0(c:Nat)(r:List Nat)(h:blk c=false):0<trim (c::r):=by
 rw[trim];by_cases h1:trim r=0
 ·rw[eY h1,h];decide
 rw[eX h1];omega
theorem IJ(op:Bool)(c:Nat)(r:List Nat)(h:blk c=false):0<rJ op (c::r):=by
 rw[yg];obtain⟨k,hk⟩:∃k,(xE (c::r)).2+vw op ((c::r).getD ((xE (c::r)).2-1) 0) ((c::r).drop (xE (c::r)).2)=k+1:=⟨_,(Nat.succ_pred_eq_of_pos (by have:=za c r;omega)).symm⟩
 rw[hk,uA];exact O0 c _ h
theorem K6(op:Bool)(r:List Nat):rJ op r<=r.length:=by
 rw[yg];refine jU (Sn _) ?_;rw[kD];exact Nat.min_le_right _ _
theorem Sv(op:Nat)(dash:Bool)(c:Nat)(r:List Nat)(h:blk c=false):0<(word op dash (c::r)).2/\(word op dash (c::r)).2<=(c::r).length:=by
 have h1:=OX (c::r);have h2:=K5 (c::r);have h3:=OZ (c::r);have h4:=IJ (decide (0<op)) c r h;have h5:=K6 (decide (0<op)) (c::r);unfold word
 (repeat' split)<;>simp_all
theorem O1(r:List Nat)(h:0<mark r):3<=r.length:=by
 unfold mark at h;have key:∀l:List Nat,l.length=3->r.take 3=l->3<=r.length:=by
  intro l hl e;have:(r.take 3).length=3:=by rw[e,hl]
  rw[kD]at this;omega
 split at h
 ·rename_i e;exact key _ rfl e
 split at h
 ·rename_i e;exact key _ rfl e
 exact absurd h (by decide)
theorem Fu(p:Nat->Bool)(c:Nat)(r:List Nat)(h:¬0<run p (c::r)):p c=false:=by
 cases hp:p c with
 |false=>rfl
 |true=>rw[run,eY hp]at h;omega
theorem DU(op:Nat)(dash blank first:Bool)(c:Nat)(r:List Nat):0<(next op dash blank first (c::r)).2/\(next op dash blank first (c::r)).2<=(c::r).length:=by
 have h1:=O1 (c::r);have h2:=ni xX (c::r);have h3:=ni blk (c::r);unfold next;split
 ·rename_i h;exact⟨(by decide:(0:Nat)<3),h1 h.2⟩
 split
 ·rename_i h;exact⟨h.2,h2⟩
 split
 ·rename_i h;exact⟨h,h3⟩
 split
 ·exact⟨by simp,fB _⟩
 rename_i h _;exact Sv op dash c r (Fu blk c r h)
theorem wI(l:List Nat):jI l<=l.length:=ni _ _
theorem uf(l:List Nat):(jJ l).length=jI l:=by
 rw[jJ,kD];have:=wI l;omega
theorem yh(l:List Nat)(j:Nat)(h:j<=jI l):jI (l.drop j)=jI l-j:=by
 induction l generalizing j with
 |nil=>
  have:j=0:=by have:=wI ([]:List Nat);simp at this;omega
  subst this;rfl
 |cons c r ih=>
  cases j with
  |zero=>rfl
  |succ j=>
   have hc:(!brk c)=true:=by
    unfold jI at h;rw[run]at h;split at h
    ·assumption
    omega
   have e:jI (c::r)=jI r+1:=by unfold jI;rw[run,eY hc]
   rw[wh,e,ih j (by omega)];omega
theorem Aa(l:List Nat)(h:l≠[])(h0:jI l=0):0<qa l:=by
 cases l with
 |nil=>exact absurd rfl h
 |cons c r=>
  have hc:brk c=true:=by
   cases hb:brk c with
   |true=>rfl
   |false=>
    unfold jI at h0;rw[run,eY (by rw[hb];rfl)]at h0;omega
  have:c=10\/c=13:=by simpa [brk]using hc
  cases r with
  |nil=>rcases this with rfl|rfl<;>decide
  |cons d t=>rcases this with rfl|rfl<;>simp[qa]<;>split<;>omega
theorem zb(l:List Nat):qa l<=l.length:=by
 cases l with
 |nil=>decide
 |cons c r=>
  cases r with
  |nil=>rw[qa];(repeat' split)<;>simp
  |cons d t=>rw[qa];(repeat' split)<;>simp
theorem Jz(s:St)(l:List Nat)(h:l≠[]):0<(mid s l).2.1/\(mid s l).2.1<=l.length:=by
 unfold mid;split
 ·rename_i h0;exact⟨Aa l h h0,zb l⟩
 rename_i h0;have hl:=uf l;have hle:=wI l;cases hr:jJ l with
 |nil=>rw[hr]at hl;exact absurd hl.symm h0
 |cons c r=>
  have:=DU s.op s.dash s.blank (s.fG==0) c r;rw[<-hr]at this⊢;exact⟨this.1,by rw[hl]at this;exact jU this.2 hle⟩
theorem step_pos(s:St)(l:List Nat)(h:l≠[]):0<(step s l).2.1/\(step s l).2.1<=l.length:=by
 unfold step;split
 ·split
  ·have h1:=wI l;have h2:=zb (l.drop (jI l));rw[iT]at h2;refine⟨?_,by simp only;omega⟩;by_cases h0:jI l=0
   ·have:=Aa l h h0;simp only[h0,lQ];omega
   simp only;omega
  exact Jz _ l h
 exact Jz _ l h
theorem Cg:∀(f g:Nat)(s:St)(at':Nat)(l:List Nat),l.length<=f->l.length<=g->toks f s at' l=toks g s at' l
 |0,g,s,at',l,h,_=>by
  obtain rfl:l=[]:=oC (by omega);cases g<;>rfl
 |f+1,0,s,at',l,_,h=>by
  obtain rfl:l=[]:=oC (by omega);rfl
 |f+1,g+1,s,at',l,hf,hg=>by
  rw[toks,toks];by_cases hl:l=[]
  ·rw[eY hl,eY hl]
  rw[eX hl,eX hl];have:=step_pos s l hl;rw[Cg f g _ _ _ (by rw[iT];omega) (by rw[iT];omega)]
def tu(s:St)(at':Nat)(l:List Nat):List (Nat×Nat×Nat):=toks l.length s at' l
theorem yj(s:St)(at':Nat):tu s at' []=[]:=rfl
theorem og(s:St)(at':Nat)(l:List Nat)(h:l≠[]):tu s at' l=((step s l).1,at',at'+(step s l).2.1)::tu (step s l).2.2 (at'+(step s l).2.1) (l.drop (step s l).2.1):=by
 unfold tu;cases hl:l.length with
 |zero=>exact absurd (oC hl) h
 |succ n=>
  have:=step_pos s l h;rw[toks,eX h,Cg n (l.drop (step s l).2.1).length _ _ _ (by rw[iT];omega) (fB _)]
theorem yl(l:List Nat):tokens l=if 16384<l.length then[]else tu (fresh 0 (-1)) 0 l:=rfl
end Sc
namespace Rw
abbrev Tk:=Nat×Nat×Nat
structure R where
 kind:Nat
 from':Nat
 bu:Nat
 fG:Int
def ends(x:Tk):Bool:=x.1==1||x.1==19
def jy:List Tk->Nat
 |[]=>0
 |x::r=>if ends x=true then 1 else jy r+1
def nG(op:Nat)(ts:List Tk):Nat:=ts.foldl (λo x=>Sc.opens o x.1) op
def jV:List Tk->Option Tk
 |[]=>none
 |x::r=>if Sc.counts x.1=true then some x else jV r
def vL(k:Nat):Bool:=k==20||k==21
def jO:List Tk->Nat
 |[]=>0
 |x::_=>x.1
def yE:List Tk->Nat
 |[]=>0
 |x::_=>x.2.1
def kindOf(begun:Bool)(ts:List Tk):Nat:=
 if jO ts=19 then 2
 else match jV ts with
  |none=>if begun=true then 3 else 1
  |some x=>if vL x.1=true then 4 else if begun=true then 3 else 5
def sH(ts:List Tk):Int:=match jV ts with
 |none=>-1
 |some x=>(x.2.1:Int)-(yE ts:Int)
def jP:Nat->Nat->Nat->List Tk->List R
 |0,_,_,_=>[]
 |f+1,op,at',l=>if l=[]then[]else⟨kindOf (decide (0<op)) (l.take (jy l)),at',at'+jy l,sH (l.take (jy l))⟩::jP f (nG op (l.take (jy l))) (at'+jy l) (l.drop (jy l))
def fA(l:List Tk):List R:=jP l.length 0 0 l
theorem wJ(l:List Tk):jy l<=l.length:=by
 induction l with
 |nil=>exact fB _
 |cons x r ih=>rw[jy];split<;>simp<;>omega
theorem ow(l:List Tk)(h:l≠[]):0<jy l:=by
 cases l with
 |nil=>exact absurd rfl h
 |cons x r=>rw[jy];split<;>omega
theorem Fv(l:List Tk)(h:l≠[]):jy l=l.length\/∃x,l[jy l-1]?=some x/\ends x=true:=by
 induction l with
 |nil=>exact absurd rfl h
 |cons x r ih=>
  rw[jy];by_cases he:ends x=true
  ·rw[eY he];exact .inr ⟨x,rfl,he⟩
  rw[eX he];by_cases hr:r=[]
  ·subst hr;exact .inl rfl
  rcases ih hr with h1|⟨y,h1,h2⟩
  ·left;rw[jh,h1]
  right;have:=ow r hr;refine⟨y,?_,h2⟩;rw[show jy r+1-1=(jy r-1)+1 by omega,KJ];exact h1
theorem Sw(l:List Tk)(j:Nat)(x:Tk)(hj:j+1<jy l)(hx:l[j]?=some x):ends x=false:=by
 induction l generalizing j with
 |nil=>simp at hx
 |cons y r ih=>
  rw[jy]at hj;by_cases he:ends y=true
  ·rw[eY he]at hj;omega
  rw[eX he]at hj;cases j with
  |zero=>
   obtain rfl:y=x:=by simpa using hx
   simpa using he
  |succ j=>exact ih j (by omega) (by simpa using hx)
theorem Sy(l:List Tk)(n:Nat)(h0:0<n)(h:∀j x,j+1<n->l[j]?=some x->ends x=false)(hn:n=l.length\/∃x,l[n-1]?=some x/\ends x=true):jy l=n:=by
 induction l generalizing n with
 |nil=>
  rcases hn with h1|⟨x,h1,_⟩
  ·exact h1.symm
  simp at h1
 |cons y r ih=>
  rw[jy];by_cases he:ends y=true
  ·rw[eY he];rcases kS 1 n with h1|h1
   ·have:=h 0 y (by omega) rfl;rw[he]at this;cases this
   omega
  rw[eX he];rcases kS 1 n with h1|h1
  ·rw[ih (n-1) (by omega) (λj x hj hx=>h (j+1) x (by omega) (by simpa using hx)) (by
    rcases hn with h2|⟨x,h2,h3⟩
    ·left;rw[jh]at h2;omega
    right;refine⟨x,?_,h3⟩;rw[show n-1=(n-1-1)+1 by omega,KJ]at h2
    exact h2)]
   omega
  obtain rfl:n=1:=by omega
  rcases hn with h2|⟨x,h2,h3⟩
  ·rw[jh]at h2;obtain rfl:r=[]:=oC (by omega);rfl
  obtain rfl:y=x:=by simpa using h2
  exact absurd h3 he
theorem K7(op:Nat)(ts:List Tk)(x:Tk):nG op (ts++[x])=Sc.opens (nG op ts) x.1:=by unfold nG;rw[List.foldl_append];rfl
theorem Gw(ts:List Tk)(x:Tk)(h:jV ts=some x):x∈ts/\Sc.counts x.1=true:=by
 induction ts with
 |nil=>cases h
 |cons y r ih=>
  rw[jV]at h;by_cases hc:Sc.counts y.1=true
  ·rw[eY hc]at h;injection h with h;subst h;exact⟨by simp,hc⟩
  rw[eX hc]at h;have:=ih h;exact⟨by simp[this.1],this.2⟩
theorem Gx(ts:List Tk)(h:jV ts=none):∀x∈ts,Sc.counts x.1=false:=by
 induction ts with
 |nil=>intro x hx;cases hx
 |cons y r ih=>
  rw[jV]at h;by_cases hc:Sc.counts y.1=true
  ·rw[eY hc]at h;cases h
  rw[eX hc]at h;intro x hx;rcases l5.1 hx with rfl|hx
  ·simpa using hc
  exact ih h x hx
theorem AO:∀(f g op at':Nat)(l:List Tk),l.length<=f->l.length<=g->jP f op at' l=jP g op at' l
 |0,g,_,_,l=>λh _=>by
  obtain rfl:l=[]:=oC (by omega);cases g with
  |zero=>rfl
  |succ g=>rw[jP,jP,eY rfl]
 |f+1,0,_,_,l=>λ_ h=>by
  obtain rfl:l=[]:=oC (by omega);rw[jP,jP,eY rfl]
 |f+1,g+1,op,at',l=>λh1 h2=>by
  rw[jP,jP];by_cases hl:l=[]
  ·rw[eY hl,eY hl]
  rw[eX hl,eX hl];have hp:=ow l hl;rw[AO f g _ _ _ (by rw[iT];omega) (by rw[iT];omega)]
def lF(op at':Nat)(l:List Tk):List R:=jP l.length op at' l
theorem si(op at':Nat):lF op at' []=[]:=rfl
theorem qo(op at':Nat)(l:List Tk)(h:l≠[]):lF op at' l=⟨kindOf (decide (0<op)) (l.take (jy l)),at',at'+jy l,sH (l.take (jy l))⟩::lF (nG op (l.take (jy l))) (at'+jy l) (l.drop (jy l)):=by
 unfold lF;cases hl:l.length with
 |zero=>exact absurd (oC hl) h
 |succ f=>
  rw[jP,eX h];have hp:=ow l h;rw[AO f (l.drop (jy l)).length _ _ _ (by rw[iT];omega) (fB _)]
theorem uU:∀(f op at':Nat)(l:List Tk),(jP f op at' l).length<=l.length
 |0,_,_,_=>ic _
 |f+1,op,at',l=>by
  rw[jP];split
  ·exact ic _
  rename_i h;have hp:=ow l h;have:=uU f (nG op (l.take (jy l))) (at'+jy l) (l.drop (jy l));rw[iT]at this;have:=wJ l;rw[jh];omega
def kK:Nat->List Tk->Prop
 |_,[]=>True
 |p,x::r=>x.2.1=p/\p<x.2.2/\kK x.2.2 r
theorem kK.le{p:Nat}{l:List Tk}(h:kK p l):∀(j:Nat)(x:Tk),l[j]?=some x->p<=x.2.1/\x.2.1<x.2.2:=by
 induction l generalizing p with
 |nil=>intro j x hx;simp at hx
 |cons y r ih=>
  obtain⟨h1,h2,h3⟩:=h;intro j x hx;cases j with
  |zero=>
   obtain rfl:y=x:=by simpa using hx
   exact⟨by omega,by omega⟩
  |succ j=>
   have:=ih h3 j x (by simpa using hx);exact⟨by omega,this.2⟩
theorem kK.lt{p:Nat}{l:List Tk}(h:kK p l):∀(i j:Nat)(x y:Tk),i<j->l[i]?=some x->l[j]?=some y->x.2.2<=y.2.1:=by
 induction l generalizing p with
 |nil=>intro i j x y _ hx;simp at hx
 |cons z r ih=>
  obtain⟨h1,h2,h3⟩:=h;intro i j x y hij hx hy;cases j with
  |zero=>omega
  |succ j=>
   cases i with
   |zero=>
    obtain rfl:z=x:=by simpa using hx
    exact(h3.le j y (by simpa using hy)).1
   |succ i=>exact ih h3 i j x y (by omega) (by simpa using hx) (by simpa using hy)
theorem Ci:∀(n:Nat)(s:Sc.St)(p:Nat)(l:List Nat),l.length<=n->kK p (Sc.tu s p l)
 |0,s,p,l=>λh=>by
  obtain rfl:l=[]:=oC (by omega);rw[Sc.yj];trivial
 |n+1,s,p,l=>λh=>by
  by_cases hl:l=[]
  ·subst hl;rw[Sc.yj];trivial
  rw[Sc.og s p l hl];have:=Sc.step_pos s l hl;exact⟨rfl,by show p<p+_;omega,Ci n _ _ _ (by rw[iT];omega)⟩
theorem kW(l:List Nat):kK 0 (Sc.tokens l):=by
 rw[Sc.yl];split
 ·trivial
 exact Ci _ _ _ _ (fB _)
theorem kK.drop{p:Nat}{l:List Tk}(h:kK p l)(n:Nat):∃q,kK q (l.drop n):=by
 induction n generalizing p l with
 |zero=>exact⟨p,h⟩
 |succ n ih=>
  cases l with
  |nil=>exact⟨p,h⟩
  |cons x r=>obtain⟨_,_,h3⟩:=h;exact ih h3
theorem ym{l:List Tk}:∀(n p:Nat),kK p l->kK p (l.take n):=by
 induction l with
 |nil=>intro n p _;rw[Vv];trivial
 |cons x r ih=>
  intro n p h;cases n with
  |zero=>trivial
  |succ n=>exact⟨h.1,h.2.1,ih n _ h.2.2⟩
theorem VX{p:Nat}{ts:List Tk}(h:kK p ts):(0<=sH ts↔(jV ts).isSome=true):=by
 unfold sH;cases hf:jV ts with
 |none=>simp
 |some x=>
  have hm:=(Gw ts x hf).1;obtain⟨j,hj⟩:=lh hm;cases ts with
  |nil=>simp at hm
  |cons y r=>
   have h0:(y::r)[0]?=some y:=rfl;have hle:y.2.1<=x.2.1:=by
    rcases uB j with rfl|hp
    ·rw[h0]at hj;injection hj with hj;subst hj;exact fB _
    have h1:=h.lt 0 j y x hp h0 hj;have h2:=(h.le 0 y h0).2;omega
   simp[yE];omega
theorem O3(b:Bool)(ts:List Tk)(h:kindOf b ts=1):jV ts=none:=by
 unfold kindOf at h;split at h
 ·cases h
 cases hf:jV ts with
 |none=>rfl
 |some x=>
  rw[hf]at h;dsimp only at h;split at h
  ·cases h
  split at h<;>cases h
structure E where
 dash:Bool
 fG:Int
 from':Nat
 bu:Nat
def blanks:List Tk->Nat
 |[]=>0
 |x::r=>if x.1=3 then blanks r+1 else 0
def lH:Nat->List Tk->List Nat
 |0,_=>[]
 |f+1,l=>if jO l=5 then 0::(lH f (l.drop (blanks (l.drop 1)+1))).map (·+(blanks (l.drop 1)+1))else[]
def kG:Nat->List Tk->Nat
 |0,_=>0
 |f+1,l=>if jO l=5 then kG f (l.drop (blanks (l.drop 1)+1))+(blanks (l.drop 1)+1)else 0
def isProp(k:Nat):Bool:=k==12||k==14
def ig(k:Nat):Bool:=k==15||k==16||k==17||k==13
def mZ:Nat->List Tk->Nat
 |0,_=>0
 |f+1,l=>if isProp (jO l)=true then mZ f (l.drop (blanks (l.drop 1)+1))+(blanks (l.drop 1)+1)else 0
def wE(l:List Tk):Nat:=if ig (jO l)=true then blanks (l.drop 1)+1 else 0
def qy(l:List Tk):Nat:=mZ l.length l+wE (l.drop (mZ l.length l))
def nY(l:List Tk):Option Nat:=if jO (l.drop (qy l))=6 then some (qy l+1)else none
def gZ:List Tk->Nat
 |[]=>0
 |x::r=>if Sc.counts x.1=true then 0 else gZ r+1
def tN(l:List Tk)(i:Nat):Nat:=yE (l.drop i)
def l9(at':Nat)(ts:List Tk):List E:=
 (lH (ts.drop (gZ ts)).length (ts.drop (gZ ts))).map (λi=>⟨true,(tN ts (gZ ts+i):Int)-(yE ts:Int),at'+gZ ts+i,at'+gZ ts+i+1⟩)++
 (match nY (ts.drop (gZ ts+kG (ts.drop (gZ ts)).length (ts.drop (gZ ts))))with
  |some n=>[⟨false,(tN ts (gZ ts+kG (ts.drop (gZ ts)).length (ts.drop (gZ ts))):Int)-(yE ts:Int),at'+gZ ts+kG (ts.drop (gZ ts)).length (ts.drop (gZ ts)),at'+gZ ts+kG (ts.drop (gZ ts)).length (ts.drop (gZ ts))+n⟩]
  |none=>[])
def pX(at':Nat)(ts:List Tk):Nat:=match(l9 at' ts).getLast? with
 |some e=>e.bu
 |none=>at'+gZ ts
def iP(l:List Tk)(r:R):List E×Nat:=if r.kind=5 then(l9 r.from' ((l.drop r.from').take (r.bu-r.from')),pX r.from' ((l.drop r.from').take (r.bu-r.from')))else([],r.from')
end Rw
namespace Es
open Go.Lib Go.RowKit
def zH(c:Int):Option Int:=if 48<=c/\c<=57 then some (c-48)else if 97<=c/\c<=102 then some (c-97+10)else if 65<=c/\c<=70 then some (c-65+10)else none
theorem SA{c d:Int}(h:zH c=some d):48<=c/\c<=102/\0<=d/\d<=15:=by
 unfold zH at h
 (repeat' split at h)<;>simp at h<;>omega
theorem K8{c:Int}(h:128<=c):zH c=none:=by
 unfold zH;rw[eX (by omega),eX (by omega),eX (by omega)]
def pI(c:Int):Option Int:=
 if c=48 then some 0 else if c=116 then some 9 else if c=110 then some 10 else if c=114 then some 13 else if c=101 then some 27
 else if c=34\/c=47\/c=92\/c=32 then some c else none
def jZ(c:Int):Nat:=if c=85 then 8 else if c=117 then 4 else if c=120 then 2 else 0
theorem O4(c:Int):jZ c=0\/jZ c=2\/jZ c=4\/jZ c=8:=by
 unfold jZ
 (repeat' split)<;>simp
def num:List UInt8->Int->Option Int
 |[],v=>some v
 |c::l,v=>match zH c.toNat with
  |none=>none
  |some d=>num l (16*v+d)
def sign(l:List UInt8):Option Int:=match num l 0 with
 |none=>none
 |some v=>if Utf8.valid v then some v else none
def esc:List UInt8->Option (Int×Nat)
 |a::c::rest=>
  if a.toNat=92 then
   match pI c.toNat with
   |some v=>some (v,2)
   |none=>if jZ c.toNat=0\/rest.length<jZ c.toNat then none else match sign (rest.take (jZ c.toNat))with
    |none=>none
    |some v=>some (v,2+jZ c.toNat)
  else none
 |_=>none
def XV:Option (Int×Nat)->ByteArray
 |none=>⟨#[]⟩
 |some (v,_)=>Utf8.encode v
def lenOf:Option (Int×Nat)->Int
 |none=>0
 |some (_,n)=>n
theorem K9{s:List UInt8}(h:s.length<2):esc s=none:=by
 match s,h with
 |[],_=>rfl
 |[_],_=>rfl
theorem Cj{a c:UInt8}{r:List UInt8}(h:a.toNat≠92):esc (a::c::r)=none:=by rw[esc,eX h]
theorem AP{a c:UInt8}{r:List UInt8}{v:Int}(h:a.toNat=92)(hs:pI c.toNat=some v):esc (a::c::r)=some (v,2):=by rw[esc,eY h,hs]
theorem rq{a c:UInt8}{r:List UInt8}(h:a.toNat=92)(hs:pI c.toNat=none)(hd:jZ c.toNat=0\/r.length<jZ c.toNat):esc (a::c::r)=none:=by rw[esc,eY h,hs];simp only;rw[eY hd]
theorem ze{a c:UInt8}{r:List UInt8}(h:a.toNat=92)(hs:pI c.toNat=none)(hd:jZ c.toNat≠0)(hl:jZ c.toNat<=r.length)(hn:sign (r.take (jZ c.toNat))=none):esc (a::c::r)=none:=by
 rw[esc,eY h,hs];simp only;rw[eX (by omega),hn]
theorem wU{a c:UInt8}{r:List UInt8}{v:Int}(h:a.toNat=92)(hs:pI c.toNat=none)(hd:jZ c.toNat≠0)(hl:jZ c.toNat<=r.length)(hn:sign (r.take (jZ c.toNat))=some v):esc (a::c::r)=some (v,2+jZ c.toNat):=by
 rw[esc,eY h,hs];simp only;rw[eX (by omega),hn]
theorem VY(x d:Int)(h0:0<=x)(h1:x<134217728)(hd0:0<=d)(hd:d<=15):bits .or .i32 (x*16) d=x*16+d:=
 bits_join .i32 31 (by decide) wraps_i32 4 (x*16) d (by omega) (by omega) (by omega) hd0 (by omega) (by omega)
theorem O5(x:Int)(h0:0<=x)(h1:x<134217728):IntKind.i32.wrap (x*16)=x*16:=wraps_i32 _ (by omega) (by omega)
theorem SB(x d:Int)(h0:134217728<=x)(h1:x<268435456)(hd0:0<=d)(hd:d<=15):bits .or .i32 (IntKind.i32.wrap (x*16)) d<0:=by
 have hw:IntKind.i32.wrap (x*16)=x*16-4294967296:=by rw[IntKind.wrap_i32];omega
 rw[hw];unfold bits;simp only;have e1:BitVec.ofInt 32 (x*16-4294967296)=BitVec.ofNat 32 (x*16).toNat:=by
  apply Xt;rw[BitVec.toNat_ofInt,Rf];omega
 have e2:BitVec.ofInt 32 d=BitVec.ofNat 32 d.toNat:=by
  apply Xt;rw[BitVec.toNat_ofInt,Rf];omega
 show IntKind.i32.wrap (((BitVec.ofInt 32 (x*16-4294967296)|||BitVec.ofInt 32 d).toNat:Nat):Int)<0
 rw[e1,e2];have hge:2147483648<=(BitVec.ofNat 32 (x*16).toNat|||BitVec.ofNat 32 d.toNat).toNat:=by
  rw[BitVec.toNat_or,Rf,Rf];have:(x*16).toNat%2^32=(x*16).toNat:=by omega
  rw[this];exact jU (by omega) Nat.left_le_or
 have hlt:(BitVec.ofNat 32 (x*16).toNat|||BitVec.ofNat 32 d.toNat).toNat<4294967296:=(BitVec.ofNat 32 (x*16).toNat|||BitVec.ofNat 32 d.toNat).isLt
 show IntKind.i32.wrap (((BitVec.ofNat 32 (x*16).toNat|||BitVec.ofNat 32 d.toNat).toNat:Nat):Int)<0
 generalize (BitVec.ofNat 32 (x*16).toNat|||BitVec.ofNat 32 d.toNat).toNat=z at*;rw[IntKind.wrap_i32];omega
theorem get_at(s:ByteArray)(k:Nat)(h:k<s.size):s[k]=s.get! k:=by
 simp[ByteArray.get!,getElem!_pos,h];rfl
theorem O6(s:ByteArray)(h:2<=s.size):s.data.toList=s[0]'(by omega)::s[1]'(by omega)::s.data.toList.drop 2:=by
 have hl:s.data.toList.length=s.size:=(size_eq s).symm;generalize hL:s.data.toList=L at*
 match L,hl with
 |a::b::r,_=>
  have e0:s[0]'(by omega)=a:=by
   rw[get_at,<-getD_get!',hL];rfl
  have e1:s[1]'(by omega)=b:=by
   rw[get_at,<-getD_get!',hL];rfl
  rw[e0,e1];rfl
 |[],hl=>simp at hl;omega
 |[_],hl=>simp at hl;omega
theorem ext_list(s:ByteArray)(a b:Nat):(s.extract a b).data.toList=(s.data.toList.drop a).take (b-a):=by
 rw[extract_data]
end Es
namespace Qo
open Es
open Go.Lib Go.RowKit
def sM:List UInt8->List UInt8×Bool
 |[]=>([],false)
 |[c]=>if c=39 then([],true)else([c],false)
 |c::d::r=>if c=39 then(if d=39 then(39::(sM r).1,(sM r).2)else([],true))else(c::(sM (d::r)).1,(sM (d::r)).2)
theorem VZ(c:UInt8)(r:List UInt8)(h:c≠39):sM (c::r)=(c::(sM r).1,(sM r).2):=by
 cases r with
 |nil=>simp[sM,h]
 |cons d t=>rw[sM,eX h]
theorem SE(r:List UInt8):sM (39::39::r)=(39::(sM r).1,(sM r).2):=by rw[sM,eY rfl,eY rfl]
theorem SF(d:UInt8)(r:List UInt8)(h:d≠39):sM (39::d::r)=([],true):=by rw[sM,eY rfl,eX h]
def zC:Nat->Nat->List UInt8->List UInt8×List Nat×Bool
 |0,_,_=>([],[],false)
 |_+1,_,[]=>([],[],false)
 |f+1,p,c::r=>
  if c=34 then([],[],true)
  else if c=92 then(match esc (c::r)with
   |some (v,k)=>((Utf8.encode v).data.toList++(zC f (p+k) ((c::r).drop k)).1,(zC f (p+k) ((c::r).drop k)).2)
   |none=>(c::(zC f (p+1) r).1,p::(zC f (p+1) r).2.1,(zC f (p+1) r).2.2))
  else(c::(zC f (p+1) r).1,(zC f (p+1) r).2)
theorem wK{l:List UInt8}{v:Int}{k:Nat}(h:esc l=some (v,k)):2<=k/\k<=l.length:=by
 match l with
 |[]=>cases h
 |[_]=>cases h
 |a::c::rest=>
  by_cases ha:a.toNat=92
  ·cases hs:pI c.toNat with
   |some u=>
    rw[AP ha hs]at h;injection h with h;injection h with h1 h2;subst h2;simp
   |none=>
    by_cases hd:jZ c.toNat=0\/rest.length<jZ c.toNat
    ·rw[rq ha hs hd]at h;cases h
    cases hn:sign (rest.take (jZ c.toNat))with
    |none=>rw[ze ha hs (by omega) (by omega) hn]at h;cases h
    |some u=>
     rw[wU ha hs (by omega) (by omega) hn]at h;injection h with h;injection h with h1 h2;subst h2;simp;omega
  rw[Cj ha]at h;cases h
theorem Ab:∀(f g p:Nat)(l:List UInt8),l.length<=f->l.length<=g->zC f p l=zC g p l
 |0,g,p,l,h,_=>by
  obtain rfl:l=[]:=oC (by omega);cases g<;>rfl
 |f+1,0,p,l,_,h=>by
  obtain rfl:l=[]:=oC (by omega);rfl
 |f+1,g+1,p,[],_,_=>rfl
 |f+1,g+1,p,c::r,hf,hg=>by
  have h1:=Ab f g (p+1) r (by simp at hf;omega) (by simp at hg;omega);rw[zC,zC,h1];by_cases q:c=34
  ·rw[eY q,eY q]
  rw[eX q,eX q];by_cases q2:c=92
  ·rw[eY q2,eY q2];cases he:esc (c::r)with
   |none=>rfl
   |some x=>
    obtain⟨v,k⟩:=x;have:=wK he;have h2:=Ab f g (p+k) ((c::r).drop k) (by rw[iT];omega) (by rw[iT];omega);simp only[h2]
  rw[eX q2,eX q2]
def qO(p:Nat)(l:List UInt8):List UInt8×List Nat×Bool:=zC l.length p l
theorem SG(p:Nat):qO p []=([],[],false):=rfl
theorem SH(p:Nat)(r:List UInt8):qO p (34::r)=([],[],true):=by
 unfold qO;rw[jh,zC,eY rfl]
theorem V2(p:Nat)(c:UInt8)(r:List UInt8)(h1:c≠34)(h2:c≠92):qO p (c::r)=(c::(qO (p+1) r).1,(qO (p+1) r).2):=by
 unfold qO;rw[jh,zC,eX h1,eX h2]
theorem SI(p:Nat)(r:List UInt8)(v:Int)(k:Nat)(h:esc (92::r)=some (v,k)):qO p (92::r)=((Utf8.encode v).data.toList++(qO (p+k) ((92::r).drop k)).1,(qO (p+k) ((92::r).drop k)).2):=by
 have hl:=wK h;have e:=Ab r.length ((92::r).drop k).length (p+k) ((92::r).drop k) (by rw[iT,jh];omega) (fB _);unfold qO;rw[jh,zC,eX (by decide),eY rfl,h];simp only[e]
theorem SN(p:Nat)(r:List UInt8)(h:esc (92::r)=none):qO p (92::r)=(92::(qO (p+1) r).1,p::(qO (p+1) r).2.1,(qO (p+1) r).2.2):=by
 unfold qO;rw[jh,zC,eX (by decide),eY rfl,h]
def ma(kind:Int)(l:List UInt8):List UInt8×List Nat×Bool:=
 if l=[]then([],[],false)
 else if kind=15 then(l,[],true)
 else if kind=16 then((sM (l.drop 1)).1,[],(sM (l.drop 1)).2)
 else if kind=17 then qO 1 (l.drop 1)
 else([],[],false)
theorem Jt(c:UInt8)(n:Nat)(h:c.toNat=n):c=UInt8.ofNat n:=by
 subst h;exact UInt8.ofNat_toNat.symm
end Qo
namespace Sc
open Sg
theorem La(op:Nat)(least:Int)(l:List Nat)(h:isText least (jJ l)=true):step (fresh op least) l=(19,jI l+qa (l.drop (jI l)),fresh op least):=by
 unfold step;rw[eY (show(fresh op least).fG=0 from rfl),eY (show isText (fresh op least).least (jJ l)=true from h)];rfl
theorem Ac(s:St)(l:List Nat)(h:s.fG=0->s.least=-1):step s l=mid s l:=by
 unfold step;by_cases hc:s.fG=0
 ·have hl:=h hc;rw[eY hc,eX (by rw[hl];simp[isText])];congr 1;cases s;simp only at hl;rw[hl]
 rw[eX hc]
theorem IK(op:Nat)(least:Int)(l:List Nat)(h:isText least (jJ l)=false):step (fresh op least) l=step (fresh op (-1)) l:=by
 rw[Ac (fresh op (-1)) l (λ_=>rfl)];unfold step;rw[eY (show(fresh op least).fG=0 from rfl),eX (by rw[show(fresh op least).least=least from rfl,h];simp)];rfl
theorem Gy(op:Nat)(least:Int)(p:Nat)(l:List Nat)(h:isText least (jJ l)=false):tu (fresh op least) p l=tu (fresh op (-1)) p l:=by
 cases l with
 |nil=>rfl
 |cons c r=>rw[og (fresh op least) p (c::r) (by simp),og (fresh op (-1)) p (c::r) (by simp),IK op least _ h]
theorem V3(s:St)(l:List Nat)(h:jI l≠0):mid s l=((next s.op s.dash s.blank (s.fG==0) (jJ l)).1,(next s.op s.dash s.blank (s.fG==0) (jJ l)).2,take s (next s.op s.dash s.blank (s.fG==0) (jJ l)).1 (next s.op s.dash s.blank (s.fG==0) (jJ l)).2):=by
 unfold mid;rw[eX h]
theorem mid_end(s:St)(l:List Nat)(h:jI l=0):mid s l=(1,qa l,fresh s.op s.least):=by
 unfold mid;rw[eY h]
theorem Ad(op k:Nat):opens op k<=op+1:=by
 unfold opens;(repeat' split)<;>omega
structure eu(L:List Nat)(Tot l:List (Nat×Nat×Nat))(st:St)(at':Nat):Prop where
 tot:l++tu st at' (L.drop at')=Tot
 zero:st.fG=0->st.least=-1
 op:st.op<=at'
 base:-1<=st.base/\st.base<=at'
 least:-1<=st.least
 len:l.length<=at'
 fG:st.fG<=at'
 last:st.fG≠0->∃l0 x,l=l0++[x]/\st.blank=(x.1==2||x.1==3)
structure tC(L:List Nat)(Tot l:List (Nat×Nat×Nat))(op:Nat)(least:Int)(p:Nat):Prop where
 tot:l++tu (fresh op least) p (L.drop p)=Tot
 op:op<=p
 least:-1<=least
 len:l.length<=p
theorem tC.text{L:List Nat}{aa l:List (Nat×Nat×Nat)}{op:Nat}{least:Int}{p n:Nat}(h:tC L aa l op least p)(hp:p<L.length)(ht:isText least (jJ (L.drop p))=true)(hn:jI (L.drop p)+qa ((L.drop p).drop (jI (L.drop p)))=n):
 tC L aa (l++[(19,p,p+n)]) op least (p+n)/\0<n/\p+n<=L.length:=by
 have hne:L.drop p≠[]:=λe=>by have:=congrArg List.length e;rw[iT]at this;simp at this;omega
 have hs:=La op least (L.drop p) ht;rw[hn]at hs;have hp2:=step_pos (fresh op least) (L.drop p) hne;rw[hs,iT]at hp2;obtain⟨q1,q2⟩:0<n/\n<=L.length-p:=hp2
 have h1:=h.op;have h2:=h.len;refine⟨⟨?_,by omega,h.least,by simp;omega⟩,q1,by omega⟩;rw[nQ,Vu,<-h.tot,og _ _ _ hne,hs,mQ]
theorem tC.row{L:List Nat}{aa l:List (Nat×Nat×Nat)}{op:Nat}{least:Int}{p:Nat}(h:tC L aa l op least p)(ht:isText least (jJ (L.drop p))=false):eu L aa l (fresh op (-1)) p:=
 ⟨by rw[<-h.tot,Gy op least p _ ht],λ_=>rfl,h.op,⟨jq _,by show(-1:Int)<=(p:Int);omega⟩,jq _,h.len,ic _,λhc=>absurd rfl hc⟩
theorem eu.on{L:List Nat}{aa l:List (Nat×Nat×Nat)}{st:St}{at' k n:Nat}(h:eu L aa l st at')(hr:jI (L.drop at')≠0)(hn:next st.op st.dash st.blank (st.fG==0) (jJ (L.drop at'))=(k,n)):
 eu L aa (l++[(k,at',at'+n)]) (take st k n) (at'+n)/\0<n/\n<=jI (L.drop at'):=by
 have hne:L.drop at'≠[]:=λe=>by rw[e]at hr;exact hr rfl
 have hs:=Ac st (L.drop at') h.zero;rw[V3 st _ hr,hn]at hs;have hle:0<n/\n<=jI (L.drop at'):=by
  have hl:=uf (L.drop at');cases hrl:jJ (L.drop at')with
  |nil=>rw[hrl]at hl;exact absurd hl.symm hr
  |cons c r=>
   rw[hrl]at hn hl;have:=DU st.op st.dash st.blank (st.fG==0) c r;rw[hn,hl]at this;exact this
 have h1:=h.op;have h2:=h.len;have h3:=Ad st.op k;have h4:=h.base;have h5:=h.least;have h6:=h.fG;refine⟨⟨?_,λhc=>?_,?_,?_,?_,by simp;omega,?_,λ_=>⟨l,_,rfl,rfl⟩⟩,hle⟩
 ·rw[nQ,Vu,<-h.tot,og _ _ _ hne,hs,mQ]
 ·have:st.fG+n=0:=hc;omega
 ·show opens st.op k<=at'+n;omega
 ·show -1<=(if st.base=-1/\counts k=true then(st.fG:Int)else st.base)/\(if st.base=-1/\counts k=true then(st.fG:Int)else st.base)<=((at'+n:Nat):Int);split<;>omega
 ·show -1<=(if k=18 then(if st.base=-1 then(st.fG:Int)else st.base+1)else st.least)
  (repeat' split)<;>omega
 show st.fG+n<=at'+n;omega
theorem eu.brk{L:List Nat}{aa l:List (Nat×Nat×Nat)}{st:St}{at':Nat}(h:eu L aa l st at')(hr:jI (L.drop at')=0)(hb:0<qa (L.drop at')):
 tC L aa (l++[(1,at',at'+qa (L.drop at'))]) st.op st.least (at'+qa (L.drop at'))/\at'+qa (L.drop at')<=L.length:=by
 have hne:L.drop at'≠[]:=λe=>by rw[e]at hb;exact absurd hb (by decide)
 have hs:=Ac st (L.drop at') h.zero;rw[mid_end st _ hr]at hs;have h1:=h.op;have h2:=h.len;have h3:=zb (L.drop at');rw[iT]at h3;refine⟨⟨?_,by omega,h.least,by simp;omega⟩,by omega⟩;rw[nQ,Vu,<-h.tot,og _ _ _ hne,hs,mQ]
theorem eu.stop{L:List Nat}{aa l:List (Nat×Nat×Nat)}{st:St}{at':Nat}(h:eu L aa l st at')(hr:jI (L.drop at')=0)(hb:¬0<qa (L.drop at')):L.drop at'=[]/\tC L aa l st.op st.least at':=by
 have hne:L.drop at'=[]:=by
  cases hl:L.drop at' with
  |nil=>rfl
  |cons c r=>rw[hl]at hr hb;exact absurd (Aa (c::r) (by simp) hr) hb
 refine⟨hne,⟨?_,h.op,h.least,h.len⟩⟩;have:=h.tot;rw[hne]at this⊢;exact this
end Sc
namespace Rw
open Sc (tu fresh jI jJ)
theorem Lb(l:List Tk):blanks l<=l.length:=by
 induction l with
 |nil=>exact fB _
 |cons x r ih=>rw[blanks];split<;>simp<;>omega
theorem uV(l:List Tk)(k:Nat)(h:jO l=k)(hk:k≠0):l≠[]:=λe=>by rw[e]at h;exact hk h.symm
def Ord:Nat->Int->List E->Prop
 |_,_,[]=>True
 |p,c,e::r=>p<=e.from'/\e.from'<e.bu/\c<e.fG/\(e.dash=true\/r=[])/\Ord e.bu e.fG r
def EH(ts:List Tk)(i:Nat):Int:=(tN ts i:Int)-(yE ts:Int)
theorem sj(ts:List Tk)(i:Nat)(x:Tk)(h:ts[i]?=some x):tN ts i=x.2.1:=by
 have hi:=(gD.1 h).1;have e:ts[i]=x:=(gD.1 h).2;unfold tN;rw[vZ hi,e];rfl
theorem NS{p:Nat}{ts:List Tk}(h:kK p ts)(i j:Nat)(hij:i<j)(hj:j<ts.length):EH ts i<EH ts j:=by
 have hx:=mR (show i<ts.length by omega);have hy:=mR hj;unfold EH;rw[sj ts i _ hx,sj ts j _ hy];have h1:=h.lt i j _ _ hij hx hy;have h2:=(h.le i _ hx).2;omega
theorem SQ{p:Nat}{ts:List Tk}(h:kK p ts)(i:Nat)(hi:i<ts.length):-1<EH ts i:=by
 rcases uB i with rfl|hp
 ·unfold EH tN;rw[lQ];omega
 have:=NS h 0 i hp hi;have e:EH ts 0=0:=by unfold EH tN;rw[lQ];omega
 omega
def vz(at':Nat)(ts:List Tk)(i:Nat):E:=⟨true,EH ts i,at'+i,at'+i+1⟩
theorem Fw{q:Nat}{ts:List Tk}(ht:kK q ts)(at':Nat)(tail:List E):∀(f p:Nat)(a:Nat)(c:Int),a<=at'+p->(p<ts.length->c<EH ts p)->
 (∀(a:Nat)(c:Int),a<=at'+(p+kG f (ts.drop p))->(p+kG f (ts.drop p)<ts.length->c<EH ts (p+kG f (ts.drop p)))->Ord a c tail)->
 Ord a c ((lH f (ts.drop p)).map (λi=>vz at' ts (p+i))++tail)
 |0,p,a,c=>λh1 h2 h3=>by
  rw[lH,Ho,Rx];exact h3 a c (by rw[kG];exact h1) (by rw[kG];exact h2)
 |f+1,p,a,c=>λh1 h2 h3=>by
  rw[lH];rw[kG]at h3;by_cases hk:jO (ts.drop p)=5
  ·rw[eY hk]at h3⊢;have hp:p<ts.length:=by
    have:=uV _ 5 hk (by decide);rcases kS p ts.length with h|h
    ·exact h
    exact absurd (mI h) this
   obtain⟨n,hn⟩:=fq (blanks ((ts.drop p).drop 1)+1);have hn1:1<=n:=by omega
   rw[hn]at h3⊢;rw[wB,KI,qI,MY];have e1:(ts.drop p).drop n=ts.drop (p+n):=by rw[mQ]
   rw[e1]at h3⊢;have e2:((λi=>vz at' ts (p+i))∘λx=>x+n)=λi=>vz at' ts (p+n+i):=by
    funext i;show vz at' ts (p+(i+n))=_;rw[show p+(i+n)=p+n+i by omega]
   rw[e2];refine⟨h1,by show at'+p<at'+p+1;omega,h2 hp,.inl rfl,Fw ht at' tail f (p+n) _ _ (by show at'+p+1<=_;omega) (λhlt=>NS ht p (p+n) (by omega) hlt) ?_⟩;intro a2 c2 g1 g2;rw[show p+n+kG f (ts.drop (p+n))=p+(kG f (ts.drop (p+n))+n)by omega]at g1 g2;exact h3 a2 c2 g1 g2
  rw[eX hk]at h3⊢;rw[Ho,Rx];exact h3 a c h1 h2
theorem JA(ts:List Tk):∀(f p:Nat),∀i∈lH f (ts.drop p),p+i<ts.length
 |0,_=>λi hi=>by cases hi
 |f+1,p=>λi hi=>by
  rw[lH]at hi;by_cases hk:jO (ts.drop p)=5
  ·rw[eY hk]at hi;have hp:p<ts.length:=by
    have:=uV _ 5 hk (by decide);rcases kS p ts.length with h|h
    ·exact h
    exact absurd (mI h) this
   rcases l5.1 hi with rfl|hi
   ·omega
   obtain⟨j,hj,rfl⟩:=xJ.1 hi;rw[mQ]at hj;have:=JA ts f _ j hj;omega
  rw[eX hk]at hi;cases hi
theorem pF(l:List Tk)(n:Nat)(h:nY l=some n):1<=n/\n<=l.length/\l≠[]:=by
 unfold nY at h;by_cases hk:jO (l.drop (qy l))=6
 ·rw[eY hk]at h;injection h with h
  have hne:=uV _ 6 hk (by decide);have hlt:qy l<l.length:=by
   rcases kS (qy l) l.length with g|g
   ·exact g
   exact absurd (mI g) hne
  refine⟨by omega,by omega,λe=>by rw[e]at hlt;exact absurd hlt (qJ _)⟩
 rw[eX hk]at h;cases h
theorem DV(l:List Tk):gZ l<=l.length:=by
 induction l with
 |nil=>exact fB _
 |cons x r ih=>rw[gZ];split<;>simp<;>omega
def r9(ts:List Tk):Nat:=gZ ts+kG (ts.drop (gZ ts)).length (ts.drop (gZ ts))
def Dc(at':Nat)(ts:List Tk):List E:=match nY (ts.drop (r9 ts))with
 |some n=>[⟨false,EH ts (r9 ts),at'+r9 ts,at'+r9 ts+n⟩]
 |none=>[]
theorem nT(at':Nat)(ts:List Tk):l9 at' ts=(lH (ts.drop (gZ ts)).length (ts.drop (gZ ts))).map (λi=>vz at' ts (gZ ts+i))++Dc at' ts:=by
 unfold l9 Dc;congr 1
 ·refine Rp λi _=>?_
  unfold vz EH;congr 1<;>omega
 show(match nY (ts.drop (r9 ts))with|some n=>_|none=>_)=_;cases nY (ts.drop (r9 ts))with
 |none=>rfl
 |some n=>
  dsimp only;congr 2
  ·unfold r9;omega
  unfold r9;omega
theorem Fx{q:Nat}{ts:List Tk}(ht:kK q ts)(at':Nat):Ord at' (-1) (l9 at' ts):=by
 rw[nT];refine Fw ht at' (Dc at' ts) _ (gZ ts) at' (-1) (by omega) (λh=>SQ ht _ h) ?_;intro a c h1 h2
 change a<=at'+r9 ts at h1
 change r9 ts<ts.length->c<EH ts (r9 ts)at h2
 unfold Dc;cases hk:nY (ts.drop (r9 ts))with
 |none=>trivial
 |some n=>
  obtain⟨k1,k2,k3⟩:=pF _ n hk;have hq:r9 ts<ts.length:=by
   rcases kS (r9 ts) ts.length with g|g
   ·exact g
   exact absurd (mI g) k3
  exact⟨h1,by show at'+r9 ts<at'+r9 ts+n;omega,h2 hq,.inr rfl,trivial⟩
theorem SS(at':Nat)(ts:List Tk):∀e∈l9 at' ts,e.bu<=at'+ts.length:=by
 rw[nT];intro e he;rcases mU.1 he with he|he
 ·obtain⟨i,hi,rfl⟩:=xJ.1 he;have:=JA ts _ _ i hi;show at'+(gZ ts+i)+1<=_;omega
 unfold Dc at he;cases hk:nY (ts.drop (r9 ts))with
 |none=>rw[hk]at he;cases he
 |some n=>
  rw[hk]at he;obtain rfl:=vF.1 he;obtain⟨k1,k2,k3⟩:=pF _ n hk;have hq:r9 ts<ts.length:=by
   rcases kS (r9 ts) ts.length with g|g
   ·exact g
   exact absurd (mI g) k3
  rw[iT]at k2;show at'+r9 ts+n<=_;omega
theorem DW(at':Nat)(ts:List Tk):(l9 at' ts=[]->pX at' ts=at'+gZ ts)/\(∀e,(l9 at' ts).getLast?=some e->pX at' ts=e.bu)/\pX at' ts<=at'+ts.length:=by
 have hl:=DV ts;refine⟨λh=>by unfold pX;rw[h];rfl,λe h=>by unfold pX;rw[h],?_⟩;unfold pX;cases h:(l9 at' ts).getLast? with
 |none=>show at'+gZ ts<=_;omega
 |some e=>exact SS at' ts e (KM h)
end Rw
end Go.Proofs.YtmkkdjpebbdikaaGreatDoor

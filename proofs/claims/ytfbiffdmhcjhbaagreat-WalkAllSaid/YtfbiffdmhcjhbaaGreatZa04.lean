import Derived.Test.YtfbiffdmhcjhbaaGreatZa00
import Derived.Below
import Derived.Deep.RegionHeld3
import Derived.Deep.RegionLawGrows
import Derived.Laws.AppendOwn
import Derived.Laws.AppendOwnNone
import Derived.Laws.Slices
import Derived.Lib.DecodeN
import Derived.Lib.RuneCount
import Derived.Lib.RuneCountTail
import Derived.OwnWalk
import Derived.WalkKit
set_option linter.all false
set_option maxHeartbeats 16000000
set_option maxRecDepth 100000
set_option synthInstance.maxSize 4000
set_option synthInstance.maxHeartbeats 0
namespace Go.Proofs.YtfbiffdmhcjhbaaGreat
open Go.RowKit
def mq:=@Value.slice.inj
def FI:=@info_parts
def LX:=@run_slice_l
def OM:=@wpList_append_own_none
def Ie:=@wpList_append_own
def OO:=@World.cell?_alloc_new
def Cy:=@World.ownsRow_nil
def fu:=@Below.refl
def OQ:=@World.cell?_setCell_other
def o6:=@World.cell?_alloc_mark
namespace Sg
open Go.Lib
def rO(n b0 b1 b2 b3:Nat):Int×Nat:=
 if n=0 then(-1,0)else if(decodeN n b0 b1 b2 b3).1=65533/\(decodeN n b0 b1 b2 b3).2<2 then(-1,(decodeN n b0 b1 b2 b3).2)else(((decodeN n b0 b1 b2 b3).1:Int),(decodeN n b0 b1 b2 b3).2)
def FN(n v0 b1:Nat):Int×Nat:=
 if n<2 then(-1,1)else if b1<128\/b1>191 then(-1,1)
 else if v0*64+b1%64<128\/v0*64+b1%64>1114111\/(v0*64+b1%64>=55296/\v0*64+b1%64<=57343)then(-1,1)else(((v0*64+b1%64:Nat):Int),2)
def CB(n v0 b1 b2:Nat):Int×Nat:=
 if n<3 then(-1,1)else if b1<128\/b1>191 then(-1,1)else if b2<128\/b2>191 then(-1,1)
 else if(v0*64+b1%64)*64+b2%64<2048\/(v0*64+b1%64)*64+b2%64>1114111\/((v0*64+b1%64)*64+b2%64>=55296/\(v0*64+b1%64)*64+b2%64<=57343)then(-1,1)
 else((((v0*64+b1%64)*64+b2%64:Nat):Int),3)
def AB(n v0 b1 b2 b3:Nat):Int×Nat:=
 if n<4 then(-1,1)else if b1<128\/b1>191 then(-1,1)else if b2<128\/b2>191 then(-1,1)else if b3<128\/b3>191 then(-1,1)
 else if((v0*64+b1%64)*64+b2%64)*64+b3%64<65536\/((v0*64+b1%64)*64+b2%64)*64+b3%64>1114111\/(((v0*64+b1%64)*64+b2%64)*64+b3%64>=55296/\((v0*64+b1%64)*64+b2%64)*64+b3%64<=57343)then(-1,1)
 else(((((v0*64+b1%64)*64+b2%64)*64+b3%64:Nat):Int),4)
theorem pN(n b0 b1 b2 b3:Nat)(hn:n≠0)(e:decodeN n b0 b1 b2 b3=(65533,1)):rO n b0 b1 b2 b3=(-1,1):=by
 rw[rO,eQ hn,e,eT (by simp)]
theorem wI(n b0 b1 b2 b3 v k:Nat)(hn:n≠0)(hk:2<=k)(e:decodeN n b0 b1 b2 b3=(v,k)):rO n b0 b1 b2 b3=((v:Int),k):=by
 rw[rO,eQ hn,e,eQ (by simp;omega)]
theorem AP(n b0 b1 b2 b3:Nat)(hn:0<n)(h:b0<128):rO n b0 b1 b2 b3=((b0:Int),1):=by
 have e:decodeN n b0 b1 b2 b3=(b0,1):=by simp[decodeN,h]
 rw[rO,eQ (by omega),e,eQ (by simp;omega)]
theorem Ef(b0 b1 b2 b3:Nat):rO 0 b0 b1 b2 b3=(-1,0):=by simp[rO]
theorem zw(n b0 b1 b2 b3:Nat)(hn:0<n)(h:128<=b0)(h':b0<192\/248<=b0):rO n b0 b1 b2 b3=(-1,1):=by
 refine pN _ _ _ _ _ (by omega) ?_;simp only[decodeN];rw[eQ (by omega),eQ (by omega),eQ (by omega),eQ (by omega)]
theorem IL(n b0 b1 b2 b3:Nat)(hn:0<n)(h:192<=b0)(h':b0<224)(l1:b1<256):rO n b0 b1 b2 b3=FN n (b0%32) b1:=by
 unfold FN;generalize hv:b0%32*64+b1%64=v;by_cases hc:1<n/\b1/64=2
 ·rw[eQ (by omega),eQ (by omega)];by_cases hg:v>=128
  ·rw[eQ (by omega)];refine wI _ _ _ _ _ _ _ (by omega) (by omega) ?_;simp only[decodeN];rw[eQ (by omega),eT (by omega),hv,eT hg]
  rw[eT (by omega)];refine pN _ _ _ _ _ (by omega) ?_;simp only[decodeN];rw[eQ (by omega),eT (by omega),hv,eQ hg]
 have e:rO n b0 b1 b2 b3=(-1,1):=by
  refine pN _ _ _ _ _ (by omega) ?_;simp only[decodeN];rw[eQ (by omega),eQ (by omega),eQ (by omega),eQ (by omega)]
 rw[e];split
 ·rfl
 rw[eT (by omega)]
theorem AQ(n b0 b1 b2 b3:Nat)(hn:0<n)(h:224<=b0)(h':b0<240)(l1:b1<256)(l2:b2<256):rO n b0 b1 b2 b3=CB n (b0%16) b1 b2:=by
 have ea:b0%16*4096+b1%64*64+b2%64=(b0%16*64+b1%64)*64+b2%64:=by omega
 unfold CB;generalize hv:(b0%16*64+b1%64)*64+b2%64=v at ea⊢;by_cases hc:(1<n/\b1/64=2)/\(2<n/\b2/64=2)
 ·rw[eQ (by omega),eQ (by omega),eQ (by omega)];by_cases hg:v>=2048/\(v<55296\/(57344<=v/\v<=1114111))
  ·rw[eQ (by omega)];refine wI _ _ _ _ _ _ _ (by omega) (by omega) ?_;simp only[decodeN];rw[eQ (by omega),eQ (by omega),eT (by omega),ea,eT hg]
  rw[eT (by omega)];refine pN _ _ _ _ _ (by omega) ?_;simp only[decodeN];rw[eQ (by omega),eQ (by omega),eT (by omega),ea,eQ hg]
 have e:rO n b0 b1 b2 b3=(-1,1):=by
  refine pN _ _ _ _ _ (by omega) ?_;simp only[decodeN];rw[eQ (by omega),eQ (by omega),eQ (by omega),eQ (by omega)]
 rw[e];split
 ·rfl
 split
 ·rfl
 rw[eT (by omega)]
theorem Eg(n b0 b1 b2 b3:Nat)(hn:0<n)(h:240<=b0)(h':b0<248)(l1:b1<256)(l2:b2<256)(l3:b3<256):rO n b0 b1 b2 b3=AB n (b0%8) b1 b2 b3:=by
 have ea:b0%8*262144+b1%64*4096+b2%64*64+b3%64=((b0%8*64+b1%64)*64+b2%64)*64+b3%64:=by omega
 unfold AB;generalize hv:((b0%8*64+b1%64)*64+b2%64)*64+b3%64=v at ea⊢;by_cases hc:(1<n/\b1/64=2)/\(2<n/\b2/64=2)/\(3<n/\b3/64=2)
 ·rw[eQ (by omega),eQ (by omega),eQ (by omega),eQ (by omega)];by_cases hg:v>=65536/\(v<55296\/(57344<=v/\v<=1114111))
  ·rw[eQ (by omega)];refine wI _ _ _ _ _ _ _ (by omega) (by omega) ?_;simp only[decodeN];rw[eQ (by omega),eQ (by omega),eQ (by omega),eT (by omega),ea,eT hg]
  rw[eT (by omega)];refine pN _ _ _ _ _ (by omega) ?_;simp only[decodeN];rw[eQ (by omega),eQ (by omega),eQ (by omega),eT (by omega),ea,eQ hg]
 have e:rO n b0 b1 b2 b3=(-1,1):=by
  refine pN _ _ _ _ _ (by omega) ?_;simp only[decodeN];rw[eQ (by omega),eQ (by omega),eQ (by omega),eQ (by omega)]
 rw[e];split
 ·rfl
 split
 ·rfl
 split
 ·rfl
 rw[eT (by omega)]
def nx(s:ByteArray)(i:Nat):Int×Nat:=rO (s.size-i) (s.get! i).toNat (s.get! (i+1)).toNat (s.get! (i+2)).toNat (s.get! (i+3)).toNat
end Sg
namespace Sg
open Go.Lib
def mH(s:ByteArray):Nat->Nat->List Nat
 |0,_=>[]
 |f+1,p=>if p<s.size then(if(nx s p).1<0 then p::mH s f (p+(nx s p).2)else mH s f (p+(nx s p).2))else[]
def bad(s:ByteArray):List Nat:=mH s s.size 0
theorem AR(s:ByteArray)(f p:Nat)(h:¬p<s.size):mH s f p=[]:=by
 cases f<;>simp[mH,h]
theorem O7(s:ByteArray)(p:Nat)(h:p<s.size):nx s p=if(Utf8.decode s p).1=65533/\(Utf8.decode s p).2<2 then(-1,(Utf8.decode s p).2)else(((Utf8.decode s p).1:Int),(Utf8.decode s p).2):=by
 unfold nx rO;rw[eQ (by omega),<-decode_at]
theorem AU(s:ByteArray)(p:Nat)(h:p<s.size):(nx s p).2=(Utf8.decode s p).2:=by
 rw[O7 s p h];split<;>rfl
theorem QI(s:ByteArray)(p:Nat):-1<=(nx s p).1:=by
 unfold nx rO
 (repeat' split)<;>(dsimp only;omega)
theorem O8(s:ByteArray)(p:Nat)(h:p<s.size):1<=(nx s p).2:=by
 rw[AU s p h];exact decode_width_pos s p h
theorem IM(n b0 b1 b2 b3:Nat)(hn:1<=n):(decodeN n b0 b1 b2 b3).2<=n:=by
 unfold decodeN
 (repeat' split)<;>(dsimp only;omega)
theorem QJ(s:ByteArray)(p:Nat)(h:p<s.size):p+(nx s p).2<=s.size:=by
 rw[AU s p h];have:=IM (s.size-p) (s.get! p).toNat (s.get! (p+1)).toNat (s.get! (p+2)).toNat (s.get! (p+3)).toNat (by omega);rw[<-decode_at]at this;omega
theorem FT(s:ByteArray)(f p:Nat)(h:p<s.size):mH s (f+1) p=(if(nx s p).1<0 then[p]else[])++mH s f (p+(nx s p).2):=by
 rw[mH,eT h];split<;>rfl
theorem AV(s:ByteArray):∀f p,(mH s f p).length<=f
 |0,_=>fC _
 |f+1,p=>by
  have:=AV s f (p+(nx s p).2);unfold mH;(repeat' split)<;>simp<;>omega
theorem Eh(s:ByteArray):(bad s).length<=s.size:=AV s _ _
end Sg
namespace Sc
open Sg
def blk(c:Nat):Bool:=c==32||c==9
def brk(c:Nat):Bool:=c==10||c==13
def uy(c:Nat):Bool:=(Nat.ble 97 c&&Nat.ble c 122)||(Nat.ble 65 c&&Nat.ble c 90)||(Nat.ble 48 c&&Nat.ble c 57)||c==95||c==45
def Li(c:Nat):Bool:=c==44||c==91||c==93||c==123||c==125
def qw(c:Nat):Bool:=c==32
def Hq(c:Nat):Bool:=c==33||uy c
def run(p:Nat->Bool):List Nat->Nat
 |[]=>0
 |c::r=>if p c=true then run p r+1 else 0
def gL(l:List Nat):Nat:=run (λc=>!brk c) l
def fO(l:List Nat):List Nat:=l.take (gL l)
def kF:List Nat->Nat
 |[]=>0
 |[c]=>if c=13 then 1 else if c=10 then 1 else 0
 |c::d::_=>if c=13 then(if d=10 then 2 else 1)else if c=10 then 1 else 0
def part:List Nat->Bool
 |[]=>true
 |c::_=>blk c
def mark(r:List Nat):Nat:=
 if r.take 3=[45,45,45]then(if part (r.drop 3)=true then 20 else 0)else if r.take 3=[46,46,46]then(if part (r.drop 3)=true then 21 else 0)else 0
def named:List Nat->Nat×Nat
 |[]=>(0,0)
 |c::r=>
  if c=38 then(if run uy r=0 then(0,0)else(12,run uy r+1))
  else if c=42 then(if run uy r=0 then(0,0)else(13,run uy r+1))
  else if c=33 then(14,run Hq r+1)else(0,0)
def oF:List Nat->Nat
 |[]=>0
 |[_]=>1
 |c::d::r=>if c=39 then(if d=39 then oF r+2 else 1)else oF (d::r)+1
def mV:List Nat->Nat
 |[]=>0
 |[_]=>1
 |c::d::r=>if c=34 then 1 else if c=92 then mV r+2 else mV (d::r)+1
def nU:List Nat->Nat
 |[]=>1
 |c::_=>if c=43 then 2 else if c=45 then 2 else 1
def hsh:List Nat->Bool
 |[]=>true
 |c::_=>c==35
def CE(rest:List Nat):Bool:=(rest.drop (run blk rest)==[])||(part rest&&hsh (rest.drop (run blk rest)))
def oI:List Nat->Nat
 |[]=>0
 |c::r=>if c=124\/c=62 then(if CE ((c::r).drop (nU r))=true then nU r else 0)else 0
def jZ(l:List Nat):Int×Nat:=rO l.length (l.getD 0 0) (l.getD 1 0) (l.getD 2 0) (l.getD 3 0)
def bad(l:List Nat):Bool:=decide ((jZ l).1<0)
def key(op:Bool):List Nat->Bool
 |[]=>true
 |c::_=>blk c||(op&&Li c)
def stop(op pb:Bool):List Nat->Bool
 |[]=>true
 |c::r=>bad (c::r)||(c==58&&key op r)||(c==35&&pb)||(op&&Li c)
def goes(op:Bool):Nat->Nat->List Nat->Nat
 |0,_,_=>0
 |f+1,p,l=>if stop op (blk p) l=true then 0 else(jZ l).2+goes op f (l.getD ((jZ l).2-1) 0) (l.drop (jZ l).2)
def trim:List Nat->Nat
 |[]=>0
 |c::r=>if trim r=0 then(if blk c=true then 0 else 1)else trim r+1
def pG(op:Bool)(r:List Nat):Nat:=trim (r.take ((jZ r).2+goes op r.length (r.getD ((jZ r).2-1) 0) (r.drop (jZ r).2)))
def sign(op:Nat)(dash:Bool):List Nat->Nat
 |[]=>0
 |c::r=>
  if c=91 then 8 else if c=123 then 9 else if c=93 then 10 else if c=125 then 11
  else if c=44 then(if 0<op then 7 else 0)
  else if c=45 then(if op=0 then(if dash=true then(if part r=true then 5 else 0)else 0)else 0)
  else if c=58 then(if key (decide (0<op)) r=true then 6 else 0)else 0
def quoted:List Nat->Nat×Nat
 |[]=>(0,0)
 |c::r=>if c=39 then(16,oF r+1)else if c=34 then(17,mV r+1)else(0,0)
def word(op:Nat)(dash:Bool)(r:List Nat):Nat×Nat:=
 if 0<sign op dash r then(sign op dash r,1)
 else if 0<(named r).1 then named r
 else if 0<(quoted r).1 then quoted r
 else if op=0/\0<oI r then(18,oI r)
 else if bad r=true then(22,1)
 else(15,pG (decide (0<op)) r)
def next(op:Nat)(dash blank first:Bool)(r:List Nat):Nat×Nat:=
 if first=true/\0<mark r then(mark r,3)
 else if first=true/\0<run qw r then(2,run qw r)
 else if 0<run blk r then(3,run blk r)
 else if hsh r=true/\(first=true\/blank=true)then(4,r.length)
 else word op dash r
structure St where
 op:Nat
 base:Int
 least:Int
 dash:Bool
 fo:Nat
 blank:Bool
def fresh(op:Nat)(least:Int):St:=⟨op,-1,least,true,0,false⟩
def counts(k:Nat):Bool:=!(k==1||k==2||k==3||k==4)
def leaves(k:Nat):Bool:=k==20||k==2||k==3||k==5
def opens(op k:Nat):Nat:=if k=8\/k=9 then op+1 else if k=10\/k=11 then op-1 else if k=20\/k=21 then 0 else op
def take(s:St)(k n:Nat):St where
 op:=opens s.op k
 least:=if k=18 then(if s.base=-1 then(s.fo:Int)else s.base+1)else s.least
 base:=if s.base=-1/\counts k=true then(s.fo:Int)else s.base
 dash:=s.dash&&leaves k
 fo:=s.fo+n
 blank:=k==2||k==3
def isText(least:Int)(r:List Nat):Bool:=decide (least≠-1/\mark r=0/\(run blk r=r.length\/least<=run qw r))
def mid(s:St)(l:List Nat):Nat×Nat×St:=
 if gL l=0 then(1,kF l,fresh s.op s.least)
 else((next s.op s.dash s.blank (s.fo==0) (fO l)).1,(next s.op s.dash s.blank (s.fo==0) (fO l)).2,take s (next s.op s.dash s.blank (s.fo==0) (fO l)).1 (next s.op s.dash s.blank (s.fo==0) (fO l)).2)
def step(s:St)(l:List Nat):Nat×Nat×St:=
 if s.fo=0 then(if isText s.least (fO l)=true then(19,gL l+kF (l.drop (gL l)),fresh s.op s.least)else mid {s with least:=-1} l)else mid s l
def toks:Nat->St->Nat->List Nat->List (Nat×Nat×Nat)
 |0,_,_,_=>[]
 |f+1,s,at',l=>if l=[]then[]else((step s l).1,at',at'+(step s l).2.1)::toks f (step s l).2.2 (at'+(step s l).2.1) (l.drop (step s l).2.1)
def tokens(l:List Nat):List (Nat×Nat×Nat):=if 16384<l.length then[]else toks l.length (fresh 0 (-1)) 0 l
def fP(s:ByteArray):List Nat:=s.data.toList.map UInt8.toNat
end Sc
namespace Sg
open Go.Lib
theorem kJ(a b:ByteArray):(a++b).size=a.size+b.size:=ByteArray.size_append
theorem Jp(a b:ByteArray):(a++b).data.toList=a.data.toList++b.data.toList:=by simp
theorem get_at(l:List UInt8)(i:Nat):(⟨l.toArray⟩:ByteArray).get! i=l.getD i 0:=by rw[<-getD_get!']
theorem size_at(l:List UInt8):(⟨l.toArray⟩:ByteArray).size=l.length:=by simp[ByteArray.size]
def xN(r:Int):Nat:=if Utf8.valid r then r.toNat else 65533
theorem O9(r:Int):xN r<55296\/(57344<=xN r/\xN r<=1114111):=by
 unfold xN;split
 ·rename_i h;simp[Utf8.valid]at h;omega
 omega
theorem FU{r:Int}(h:Utf8.valid r=true):(xN r:Int)=r:=by
 unfold xN;rw[eT h];simp[Utf8.valid]at h;omega
def enc1(c:Nat):List UInt8:=[UInt8.ofNat c]
def enc2(c:Nat):List UInt8:=[UInt8.ofNat (192+c/64),UInt8.ofNat (128+c%64)]
def enc3(c:Nat):List UInt8:=[UInt8.ofNat (224+c/4096),UInt8.ofNat (128+c/64%64),UInt8.ofNat (128+c%64)]
def enc4(c:Nat):List UInt8:=[UInt8.ofNat (240+c/262144),UInt8.ofNat (128+c/4096%64),UInt8.ofNat (128+c/64%64),UInt8.ofNat (128+c%64)]
def rU(c:Nat):List UInt8:=if c<128 then enc1 c else if c<2048 then enc2 c else if c<65536 then enc3 c else enc4 c
theorem encode_eq(r:Int):Utf8.encode r=⟨(rU (xN r)).toArray⟩:=by
 have h:Utf8.encode r=(if xN r<128 then⟨(enc1 (xN r)).toArray⟩else if xN r<2048 then⟨(enc2 (xN r)).toArray⟩else if xN r<65536 then⟨(enc3 (xN r)).toArray⟩else⟨(enc4 (xN r)).toArray⟩):=rfl;rw[h];unfold rU;by_cases c1:xN r<128
 ·rw[eT c1,eT c1]
 by_cases c2:xN r<2048
 ·rw[eQ c1,eT c2,eQ c1,eT c2]
 by_cases c3:xN r<65536
 ·rw[eQ c1,eQ c2,eT c3,eQ c1,eQ c2,eT c3]
 rw[eQ c1,eQ c2,eQ c3,eQ c1,eQ c2,eQ c3]
theorem byte_of(n:Nat)(h:n<256):(UInt8.ofNat n).toNat=n:=by simp;omega
theorem Jq(c:Nat):1<=(rU c).length/\(rU c).length<=4:=by
 unfold rU
 (repeat' split)<;>simp[enc1,enc2,enc3,enc4]
theorem BV(r:Int):(Utf8.encode r).size=(rU (xN r)).length:=by rw[encode_eq,size_at]
end Sg
section
open Go.RowKit
def ou(w:World)(v:Value)(s:ByteArray):Prop:=
 (v=.slice none 0 0/\s.size=0)\/∃b off cap,v=.slice (some ⟨b,off,none⟩) s.size cap/\s.size<=cap/\cap<=maxLen/\∀j,j<s.size->w.cell? ⟨b,off+j,none⟩=some (.int .u8 (s.get! j).toNat)
theorem lt_of_cell{w:World}{a:Addr}{v:Value}(h:w.cell? a=some v):a.block<w.heap.size:=by
 unfold World.cell? at h;rcases lu a.block w.heap.size with h'|h'
 ·exact h'
 simp[Array.getElem?_eq_none h']at h
theorem ou.below{w w':World}{v:Value}{s:ByteArray}(h:ou w v s)(hb:Below w.heap.size w w'):ou w' v s:=by
 rcases h with h|⟨b,off,cap,h1,h2,h3,h4⟩
 ·exact .inl h
 refine .inr ⟨b,off,cap,h1,h2,h3,λj hj=>?_⟩;have h5:=h4 j hj;have h6:b<w.heap.size:=lt_of_cell h5
 rw[hb.cell (p:=⟨b,off+j,none⟩) h6];exact h5
theorem ou.size_le{w:World}{v:Value}{s:ByteArray}(h:ou w v s):s.size<=maxLen:=by
 rcases h with⟨_,h⟩|⟨b,off,cap,_,h2,h3,_⟩
 ·rw[h];exact gG _
 exact jN h2 h3
theorem Mh(s:ByteArray)(k i:Nat):Sg.nx (s.extract k s.size) i=Sg.nx s (k+i):=by
 simp only[Sg.nx,Lib.tail_size,Lib.tail_get!];rw[show s.size-k-i=s.size-(k+i)from by omega,show k+(i+1)=k+i+1 from by omega,show k+(i+2)=k+i+2 from by omega,show k+(i+3)=k+i+3 from by omega]
end
namespace Sq
open Go.RowKit
theorem iy(b off j:Nat):(⟨b,off,none⟩:Addr).add j=⟨b,off+j,none⟩:=by
 unfold Addr.add;split
 ·rename_i h;subst h;rfl
 rfl
theorem Ei{w:World}{a:Addr}{v:Value}(h:w.cell? a=some v):a.block<w.heap.size:=by
 unfold World.cell? at h;rcases lu a.block w.heap.size with h'|h'
 ·exact h'
 simp[Array.getElem?_eq_none h']at h
structure jV(α:Type) where
 cells:α->List Value
 k:Nat
 pos:0<k
 len:∀x,(cells x).length=k
 one:∀x,∀u∈cells x,u.oneCell'=true
variable {α:Type}
def jV.all(E:jV α):List α->List Value
 |[]=>[]
 |x::r=>E.cells x++E.all r
theorem iX(E:jV α)(l:List α):(E.all l).length=l.length*E.k:=by
 induction l with
 |nil=>simp[jV.all]
 |cons x r ih=>rw[jV.all,ig,E.len,ih,gy,qW];omega
theorem mK(E:jV α)(l m:List α):E.all (l++m)=E.all l++E.all m:=by
 induction l with
 |nil=>rfl
 |cons x r ih=>rw[LA,jV.all,jV.all,ih,lT]
theorem pO(E:jV α)(l:List α):∀u∈E.all l,u.oneCell'=true:=by
 induction l with
 |nil=>intro u hu;cases hu
 |cons x r ih=>
  intro u hu;rw[jV.all,kS]at hu;rcases hu with hu|hu
  ·exact E.one x u hu
  exact ih u hu
theorem ky(E:jV α)(l:List α)(j:Nat)(x:α)(h:l[j]?=some x)(i:Nat)(hi:i<E.k):(E.all l)[j*E.k+i]?=(E.cells x)[i]?:=by
 induction l generalizing j with
 |nil=>simp at h
 |cons y r ih=>
  cases j with
  |zero=>
   obtain rfl:y=x:=by simpa using h
   rw[jV.all,qx (by rw[E.len];omega)];simp
  |succ j=>
   rw[jV.all,uU (by rw[E.len,qW];omega),E.len,show(j+1)*E.k+i-E.k=j*E.k+i from by rw[qW];omega];exact ih j (by simpa using h)
theorem wJ(E:jV α)(l:List α)(n:Nat):(E.all l).take (n*E.k)=E.all (l.take n):=by
 induction l generalizing n with
 |nil=>simp[jV.all]
 |cons x r ih=>
  cases n with
  |zero=>simp[jV.all]
  |succ n=>
   rw[jV.all,vR,jV.all,List.take_append,E.len,show(n+1)*E.k-E.k=n*E.k from by rw[qW];omega,ih n,zk (by rw[E.len,qW];omega)]
def Reads(E:jV α)(w:World)(v:Value)(l:List α):Prop:=
 (v=.slice none 0 0/\l=[])\/∃b off cap,v=.slice (some ⟨b,off,none⟩) l.length cap/\l.length<=cap/\cap<=maxLen/\∀j x,l[j]?=some x->∀i u,(E.cells x)[i]?=some u->w.cell? ⟨b,off+j*E.k+i,none⟩=some u
variable {E:jV α}{w w':World}{v:Value}{l:List α}
theorem Reads.below(h:Reads E w v l)(hb:Below w.heap.size w w'):Reads E w' v l:=by
 rcases h with h|⟨b,off,cap,h1,h2,h3,h4⟩
 ·exact .inl h
 refine .inr ⟨b,off,cap,h1,h2,h3,λj x hj i u hu=>?_⟩;have h5:=h4 j x hj i u hu;rw[hb.cell (p:=⟨b,off+j*E.k+i,none⟩) (Ei h5)];exact h5
theorem Reads.shape(h:Reads E w v l):∃a cap,v=.slice a l.length cap:=by
 rcases h with⟨h1,h2⟩|⟨b,off,cap,h1,_⟩
 ·exact⟨none,0,by rw[h1,h2];rfl⟩
 exact⟨_,_,h1⟩
theorem Reads.size_le(h:Reads E w v l):l.length<=maxLen:=by
 rcases h with⟨_,h⟩|⟨b,off,cap,_,h2,h3,_⟩
 ·rw[h];exact gG _
 exact jN h2 h3
theorem Reads.wo{a:Option Addr}{cap:Nat}(h:Reads E w (.slice a l.length cap) l):l.length<=cap/\cap<=maxLen:=by
 rcases h with⟨hv,h0⟩|⟨b,off,cap',hv,g2,g3,g4⟩
 ·obtain⟨rfl,-,rfl⟩:=mq hv;exact⟨by rw[h0];exact fC _,gG _⟩
 obtain⟨rfl,-,rfl⟩:=mq hv;exact⟨g2,g3⟩
theorem Reads.at_{a:Option Addr}{cap:Nat}(h:Reads E w (.slice a l.length cap) l)(j:Nat)(x:α)(hj:l[j]?=some x):
 ∃b off,a=some ⟨b,off,none⟩/\∀i u,(E.cells x)[i]?=some u->w.cell? ⟨b,off+j*E.k+i,none⟩=some u:=by
 rcases h with⟨_,rfl⟩|⟨b,off,cap',hv,h2,h3,h4⟩
 ·simp at hj
 obtain⟨rfl,-,rfl⟩:=mq hv;exact⟨b,off,rfl,h4 j x hj⟩
theorem Reads.fJ{base:Nat}{e:TypeId}(h:w.ownsRow base e E.k v l.length (E.all l)):Reads E w v l:=by
 rcases h.2 with⟨h1,h2⟩|⟨g,cap,cur,h1,h2,h3,h4,h5,h6,h7⟩
 ·exact .inl ⟨h1,oD h2⟩
 refine .inr ⟨g,0,cap,h1,h4,h5,λj x hj i u hu=>?_⟩;have hi:i<E.k:=by rw[<-E.len x];exact(fT.1 hu).1
 have c1:=h.cells (g:=g) (by rw[h1];rfl) _ _ ((ky E l j x hj i hi).trans hu);rw[iy]at c1;rw[j5]at c1⊢;exact c1
theorem own_below{B e size n:Nat}{xs:List Value}(h:w.ownsRow B e size v n xs)(hb:Below w.heap.size w w'):w'.ownsRow B e size v n xs:=by
 refine⟨h.1,?_⟩;rcases h.2 with h0|⟨g,cap,cur,hv,hbg,hg,rest⟩
 ·exact .inl h0
 have hlt:g<w.heap.size:=(Ls.1 hg).1
 exact .inr ⟨g,cap,cur,hv,hbg,(hb.block g hlt).trans hg,rest⟩
theorem iK{B B' e size n:Nat}{xs:List Value}(h:w.ownsRow B e size v n xs)(hB:B'<=B):w.ownsRow B' e size v n xs:=by
 refine⟨h.1,?_⟩;rcases h.2 with h0|⟨g,cap,cur,hv,hbg,rest⟩
 ·exact .inl h0
 exact .inr ⟨g,cap,cur,hv,jN hB hbg,rest⟩
structure Ty(P:Program)(E:jV α)(t e:TypeId)(bytes:Nat):Prop where
 ht:P.underlying t=some (.slice e)
 he:P.elem t=e
 parts:∃i z,P.info? e=some i/\i.zero=some z/\i.size=E.k/\i.bytes=bytes/\z.cells.size=E.k
 size:∀w,(sizeOf e).run P w=.ok E.k w
theorem Ty.of{P:Program}{E:jV α}{t e:TypeId}{bytes:Nat}{z:Value}(ht:P.underlying t=some (.slice e))(he:P.elem t=e)(hi:(P.info? e).map (λi=>(i.zero,i.size,i.bytes))=some (some z,E.k,bytes))(hz:z.cells.size=E.k)(hs:∀w,(sizeOf e).run P w=.ok E.k w):Ty P E t e bytes:=by
 obtain⟨i,h1,h2,h3,h4⟩:=FI hi;exact⟨ht,he,⟨i,z,h1,h2,h3,h4,hz⟩,hs⟩
theorem FV{a:Option Addr}{cap lo hi:Nat}(h:Reads E w (.slice a l.length cap) l)(h1:lo<=hi)(h2:hi<=l.length):
 Reads E w (.slice (if cap=lo then a else a.map λx=>x.add (lo*E.k)) (hi-lo) (cap-lo)) ((l.drop lo).take (hi-lo)):=by
 have hz:((l.drop lo).take (hi-lo)).length=hi-lo:=by rw[jQ,iq];omega
 rcases h with⟨hv,h0⟩|⟨b,off,cap',hv,g2,g3,g4⟩
 ·obtain⟨rfl,-,rfl⟩:=mq hv;subst h0;obtain rfl:hi=0:=by simpa using h2
  obtain rfl:lo=0:=by omega
  exact .inl ⟨rfl,rfl⟩
 obtain⟨rfl,-,rfl⟩:=mq hv;by_cases hc:cap=lo
 ·rw[eT hc];refine .inr ⟨b,off,cap-lo,by rw[hz],by omega,by omega,λj x hj=>?_⟩;have:=(fT.1 hj).1;omega
 rw[eQ hc];refine .inr ⟨b,off+lo*E.k,cap-lo,?_,by omega,by omega,λj x hj i u hu=>?_⟩
 ·rw[hz,FF,iy]
 have hj1:=(fT.1 hj).1;rw[LH,eT (by omega),qT]at hj;rw[show off+lo*E.k+j*E.k+i=off+(lo+j)*E.k+i from by rw[qW];omega];exact g4 (lo+j) x hj i u hu
theorem QK{P:Program}{t e:TypeId}{bytes:Nat}(T:Ty P E t e bytes){a:Option Addr}{cap n:Nat}(h:Reads E w (.slice a l.length cap) l)(hn:n<=l.length):
 ∃v,(∀W:World,(Instr.slice t (.slice a l.length cap) (some (.int .i64 (n:Int))) none none).run P W=.ok v W)/\Reads E w v (l.drop n):=by
 have hb:=FV h hn (fC _);have hc:=h.wo;rw[zk (by rw[iq];exact fC _)]at hb;refine⟨_,λW=>?_,hb⟩;rw[LX W _ a l.length cap (by rw[T.he];exact T.ht) .i64 n (by omega) (by omega),T.he,T.size];simp[Result.andThen,sliced]
theorem news{b off:Nat}(h:∀j x,l[j]?=some x->∀i u,(E.cells x)[i]?=some u->w.cell? ⟨b,off+j*E.k+i,none⟩=some u):
 ∀j u,(E.all l)[j]?=some u->w.cell? ((⟨b,off,none⟩:Addr).add j)=some u:=by
 intro j u hu;have hj:j<l.length*E.k:=by rw[<-iX];exact(fT.1 hu).1
 have hk:=E.pos;have hd:j/E.k<l.length:=(Nat.div_lt_iff_lt_mul hk).2 hj
 have hm:j%E.k<E.k:=Nat.mod_lt _ hk
 have e1:j=j/E.k*E.k+j%E.k:=by rw[Nat.mul_comm];exact(Nat.div_add_mod j E.k).symm
 have hx:=lU hd;have h2:=h (j/E.k) _ hx (j%E.k) u (by rw[<-ky E l (j/E.k) _ hx _ hm,<-e1];exact hu);rw[iy,show off+j=off+j/E.k*E.k+j%E.k from by omega];exact h2
theorem De{P:Program}{t e:TypeId}{bytes:Nat}(T:Ty P E t e bytes){ops:Array Oper}{rest:List Oper}{o:Oper}{act:Act}{Q:Exit->Act->World->Prop}(hgd:o.guard=none)(x y:Operand)
 (ho:o.op=.call {callee:=.builtin .append,args:=#[x,y],argTypes:=#[t,t]})
 (base:Nat) (v:Value) (l:List α) (hs:act.eval x=v) (hown:w.ownsRow base e E.k v l.length (E.all l)) (yv:Value) (m:List α) (hy:act.eval y=yv) (hb:Reads E w yv m)
 (hmax:l.length+m.length<=maxLen) (hlen:(l.length+m.length)*bytes<=140737488355328) (hbase:base<=w.heap.size)
 (h:∀v' w',w'.ownsRow base e E.k v' (l++m).length (E.all (l++m))->w.grownBy w' v.ownBlock->wpList P ops Q rest (act.put o.dst v') w'):wpList P ops Q (o::rest) act w:=by
 obtain⟨i,z,hi,hz,hsz,hby,hzs⟩:=T.parts;rcases hb with⟨rfl,rfl⟩|⟨b,off,cap,rfl,h2,h3,h4⟩
 ·refine OM hgd x y t ho base e i E.k T.ht hi v l.length (E.all l) hs hown hy ?_;refine h v w ?_ ⟨rfl,rfl,rfl,fC _,λ_ _ _=>rfl⟩;rw[kH];exact hown
 exact Ie w hgd x y t ho base e i z E.k bytes T.ht hi hz hsz hby hzs E.pos v l.length (E.all l) hs hown ⟨b,off,none⟩ m.length cap (E.all m) hy (iX E m) (news h4) (pO E m) hmax hlen hbase (λv' w' q1 q2 _=>h v' w' (by rw[mK,ig];exact q1) q2)
theorem jA{w0:World}{P:Program}{t e:TypeId}{bytes:Nat}(T:Ty P E t e bytes){ops:Array Oper}{rest:List Oper}{o:Oper}{act:Act}{Q:Exit->Act->World->Prop}(hgd:o.guard=none)(x y:Operand)
 (ho:o.op=.call {callee:=.builtin .append,args:=#[x,y],argTypes:=#[t,t]})
 (base:Nat) (v:Value) (l:List α) (u:α) (cs:List Value) (hc:E.cells u=cs) (hs:act.eval x=v) (hown:w0.ownsRow base e E.k v l.length (E.all l))
 (hy:act.eval y=.slice (some ⟨w0.heap.size,0,none⟩) 1 1) (hmax:l.length+1<=maxLen) (hlen:(l.length+1)*bytes<=140737488355328) (hbase:base<=w0.heap.size)
 (h:∀v' w',w'.ownsRow base e E.k v' (l++[u]).length (E.all (l++[u]))->(w0.alloc (.cells cs.toArray e)).grownBy w' v.ownBlock->wpList P ops Q rest (act.put o.dst v') w'):
 wpList P ops Q (o::rest) act (w0.alloc (.cells cs.toArray e)):=by
 obtain⟨i,z,hi,hz,hsz,hby,hzs⟩:=T.parts;subst hc;have ea:E.all [u]=E.cells u:=by rw[jV.all,jV.all,kH]
 refine Ie _ hgd x y t ho base e i z E.k bytes T.ht hi hz hsz hby hzs E.pos v l.length (E.all l) hs (hown.alloc _) ⟨w0.heap.size,0,none⟩ 1 1 (E.all [u]) hy (iX E [u]) ?_ (pO E [u]) hmax hlen (by simp;omega) (λv' w' q1 q2 _=>h v' w' (by rw[mK,ig];exact q1) q2);intro j c hj;rw[ea]at hj;rw[iy,j5];rw[OO]
 simpa using hj
theorem kK{e:TypeId}(E:jV α)(w:World):(w.alloc (.cells #[] e)).ownsRow w.heap.size e E.k (.slice (some ⟨w.heap.size,0,none⟩) 0 0) ([]:List α).length (E.all []):=
 World.ownsRow_made (base:=w.heap.size) w #[] 0 (fC _) (gG _) (by simp)
theorem jq{e:TypeId}(E:jV α)(w:World)(base:Nat):w.ownsRow base e E.k (.slice none 0 0) ([]:List α).length (E.all []):=Cy w base e E.k
end Sq
section
open Go.RowKit
theorem size_alloc(w:World)(o:Obj):(w.alloc o).heap.size=w.heap.size+1:=by simp
theorem eZ(w:World)(o:Obj):Below w.heap.size w (w.alloc o):=(fu _ w).alloc (fC _) o
theorem mQ{a w:World}(h:Below a.heap.size a w)(o:Obj):Below a.heap.size a (w.alloc o):=h.alloc h.size o
theorem jO(w:World)(a:Addr)(v:Value)(h:(w.cell? a).isSome=true):(w.setCell a v).cell? a=some v:=by
 obtain⟨u,hu⟩:=Option.isSome_iff_exists.1 h;exact World.cell?_setCell_same w a v hu
theorem Aa(w:World)(b o o':Nat)(v:Value)(h:o≠o'):(w.setCell ⟨b,o,none⟩ v).cell? ⟨b,o',none⟩=w.cell? ⟨b,o',none⟩:=
 OQ w _ _ v (λe=>h (by injection e))
theorem Ab(w:World)(b o b' o':Nat)(v:Value)(h:b≠b'):(w.setCell ⟨b,o,none⟩ v).cell? ⟨b',o',none⟩=w.cell? ⟨b',o',none⟩:=
 OQ w _ _ v (λe=>h (by injection e))
theorem fe{W w':World}{p:Addr}{u:Value}(hb:Below W.heap.size W w')(h:W.cell? p=some u):w'.cell? p=some u:=by rw[hb.cell (lt_of_cell h)];exact h
theorem wB{W:World}{b o o':Nat}{v u:Value}(hne:o≠o')(h:W.cell? ⟨b,o',none⟩=some u):(W.setCell ⟨b,o,none⟩ v).cell? ⟨b,o',none⟩=some u:=by rw[Aa _ _ _ _ _ hne];exact h
theorem Pb{W:World}{b o b' o':Nat}{v u:Value}(hne:b≠b')(h:W.cell? ⟨b',o',none⟩=some u):(W.setCell ⟨b,o,none⟩ v).cell? ⟨b',o',none⟩=some u:=by rw[Ab _ _ _ _ _ _ hne];exact h
theorem gX{W:World}{o:Obj}{p:Addr}{u:Value}(h:W.cell? p=some u):(W.alloc o).cell? p=some u:=by rw[(eZ W o).cell (lt_of_cell h)];exact h
theorem at_new{W:World}{C:Array Value}{t:TypeId}{k:Nat}{u:Value}(h:C[k]?=some u):(W.alloc (.cells C t)).cell? ⟨W.heap.size,k,none⟩=some u:=by rw[o6];exact h
theorem iY{W:World}{p:Addr}{u:Value}(h:W.cell? p=some u):W.drew.cell? p=some u:=h
end
namespace Sq
open Go.RowKit
variable {α:Type}{E:jV α}{w w':World}{l:List α}
theorem qp{P:Program}{t e:TypeId}{bytes:Nat}(T:Ty P E t e bytes){ops:Array Oper}{o:Oper}{act:Act}{K:Act->World->Prop}{Q:Exit->Act->World->Prop}{G:Prop}(hgd:o.guard=none)(x y:Operand)
 (ho:o.op=.call {callee:=.builtin .append,args:=#[x,y],argTypes:=#[t,t]})
 (base:Nat) (v:Value) (l:List α) (hs:act.eval x=v) (hown:w.ownsRow base e E.k v l.length (E.all l)) (yv:Value) (m:List α) (hy:act.eval y=yv) (hb:Reads E w yv m)
 (hmax:l.length+m.length<=maxLen) (hlen:(l.length+m.length)*bytes<=140737488355328) (hbase:base<=w.heap.size)
 (h:∀v' w',w'.ownsRow base e E.k v' (l++m).length (E.all (l++m))->w.grownBy w' v.ownBlock->K (act.put o.dst v') w'):
 if Region.wanted o (yielded ops act.tmps)=true then Oper.wp P o act w K Q else G:=by
 obtain⟨i,z,hi,hz,hsz,hby,hzs⟩:=T.parts;have hw:Region.wanted o (yielded ops act.tmps)=true:=by simp[Region.wanted,hgd]
 rw[eT hw];rcases hb with⟨rfl,rfl⟩|⟨b,off,cap,rfl,h2,h3,h4⟩
 ·have hrun:=run_append_owned_none (P:=P) (w:=w) base t o.type e i E.k T.ht hi v l.length (E.all l) hown;unfold Oper.wp execOp;simp only[ho,resolve,invoke,builtin,Sem.run_bind,Sem.run_pure,Result.andThen_ok,List.map_toArray,qi,xX,hs,hy,hrun];refine h v w ?_ ⟨rfl,rfl,rfl,fC _,λ_ _ _=>rfl⟩;rw[kH];exact hown
 exact wp_append_own w x y t ho base e i z E.k bytes T.ht hi hz hsz hby hzs E.pos v l.length (E.all l) hs hown ⟨b,off,none⟩ m.length cap (E.all m) hy (iX E m) (news h4) (pO E m) hmax hlen hbase (λv' w' q1 q2 _=>h v' w' (by rw[mK,ig];exact q1) q2)
theorem oZ{P:Program}{t e:TypeId}{bytes:Nat}(T:Ty P E t e bytes){ops:Array Oper}{o:Oper}{act:Act}{K:Act->World->Prop}{Q:Exit->Act->World->Prop}{G:Prop}(hgd:o.guard=none)(x y:Operand)
 (ho:o.op=.call {callee:=.builtin .append,args:=#[x,y],argTypes:=#[t,t]})
 (base:Nat) (v:Value) (l:List α) (hs:act.eval x=v) (hown:w.ownsRow base e E.k v l.length (E.all l)) (b m:Nat) (us:List α) (hm:us.length=m) (hy:act.eval y=.slice (some ⟨b,0,none⟩) m m)
 (hnew:∀j c,(E.all us)[j]?=some c->w.cell? ⟨b,j,none⟩=some c) (hmax:l.length+m<=maxLen) (hlen:(l.length+m)*bytes<=140737488355328) (hbase:base<=w.heap.size)
 (h:∀v' w',w'.ownsRow base e E.k v' (l++us).length (E.all (l++us))->w.grownBy w' v.ownBlock->K (act.put o.dst v') w'):
 if Region.wanted o (yielded ops act.tmps)=true then Oper.wp P o act w K Q else G:=by
 obtain⟨i,z,hi,hz,hsz,hby,hzs⟩:=T.parts;have hw:Region.wanted o (yielded ops act.tmps)=true:=by simp[Region.wanted,hgd]
 rw[eT hw];refine wp_append_own w x y t ho base e i z E.k bytes T.ht hi hz hsz hby hzs E.pos v l.length (E.all l) hs hown ⟨b,0,none⟩ m m (E.all us) hy (by rw[iX,hm]) ?_ (pO E us) hmax hlen hbase (λv' w' q1 q2 _=>h v' w' (by rw[mK,ig,hm];exact q1) q2);intro j c hj;rw[iy,j5];exact hnew j c hj
end Sq
section
open Go.RowKit
def Lj(w:World)(b o:Nat)(u:Value):Prop:=w.cell? ⟨b,o,none⟩=some u/\w.frozen? ⟨b,o,none⟩=false
theorem oN{W w':World}{b o:Nat}{u:Value}(hb:Below W.heap.size W w')(h:Lj W b o u):Lj w' b o u:=
 ⟨by rw[hb.cell (p:=⟨b,o,none⟩) (lt_of_cell h.1)];exact h.1,by rw[hb.frozen (p:=⟨b,o,none⟩) (lt_of_cell h.1)];exact h.2⟩
theorem pP{W:World}{C:Array Value}{t:TypeId}{k:Nat}{u:Value}(h:C[k]?=some u):Lj (W.alloc (.cells C t)) W.heap.size k u:=
 ⟨by rw[o6];exact h,World.frozen?_alloc_new W C t k⟩
end
end Go.Proofs.YtfbiffdmhcjhbaaGreat

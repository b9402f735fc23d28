import Derived.Test.YtmkkdjpebbdikaaGreatDoorZn08
import Derived.Test.YtmkkdjpebbdikaaGreatDoorZn10
import Derived.Deep.RegionLaw
import Derived.Deep.RegionWith
import Derived.IntWalk
set_option linter.all false
set_option maxHeartbeats 16000000
set_option maxRecDepth 100000
namespace Go.Proofs.YtmkkdjpebbdikaaGreatDoor
open Go.RowKit Go.Proofs.Tryz
def VJ:=@bodyPost_ret
def vJ:=@Exit.noGoto_ret
def Ie:=@Go.below_drewN
def Dh:=@Joins.cell_of_block
def YL:=@IntWalk.i64_in
def YM:=@wp_region_held_drew
def XL:=@wpAnyH_done
section
open Go.RowKit
theorem J5:∀(f:Nat)(s:Sc.St)(p:Nat)(l:List Nat),∀x∈Sc.toks f s p l,x.2.1<=p+l.length/\x.2.2<=p+l.length
 |0,_,_,_=>λx h=>by cases h
 |f+1,s,p,l=>λx h=>by
  rw[Sc.toks]at h;by_cases hl:l=[]
  ·rw[eY hl]at h;cases h
  rw[eX hl]at h;have hp:=Sc.step_pos s l hl;rcases l5.1 h with rfl|h
  ·exact⟨by show p<=_;omega,by show p+(Sc.step s l).2.1<=_;omega⟩
  have:=J5 f _ _ _ x h;rw[iT]at this;omega
theorem vk(l:List Nat)(x:Tk)(h:x∈Sc.tokens l):x.2.1<=l.length/\x.2.2<=l.length:=by
 unfold Sc.tokens at h;split at h
 ·cases h
 have:=J5 _ _ _ _ x h;omega
theorem FY:∀(f:Nat)(s:Sc.St)(p:Nat)(l:List Nat),(Sc.toks f s p l).length<=f
 |0,_,_,_=>by simp[Sc.toks]
 |f+1,s,p,l=>by
  rw[Sc.toks];split
  ·simp
  rw[jh];have:=FY f (Sc.step s l).2.2 (p+(Sc.step s l).2.1) (l.drop (Sc.step s l).2.1);omega
theorem vV(l:List Nat):(Sc.tokens l).length<=l.length:=by
 unfold Sc.tokens;split
 ·simp
 exact FY _ _ _ _
end
section
open Go.RowKit
open Sq
open Ar
theorem J6(w:World)(u:Value)(x:Nd)(hx:x.ks=[]):OT ((w.alloc (.cells #[u] 31)).alloc (.cells #[.int .i64 x.k,.int .i64 x.f,.int .i64 x.t,.int .i64 x.u,.slice none 0 0,.bool x.y] 38)) w.heap.size (.slice (some ⟨w.heap.size+1,0,none⟩) 1 1) [⟨x,none,0,0⟩]:=by
 have h:=Wl (w.alloc (.cells #[u] 31)) w.heap.size x hx (by simp);rw[size_alloc]at h;exact h
theorem YN:∀(n:Int)(w:World),Calls prog 20 #[.int .i64 n] w (X4 false (gV n) w):=by
 intro n w;obtain⟨m,hm⟩:=fq ((if n<0\/32768<n then 0 else n));have e:gV n=[⟨1,0,m,-1,[],false⟩]:=by unfold gV;rw[hm]
 have hO:=λu=>J6 w u ⟨1,0,m,-1,[],false⟩ rfl
 have HO:=eZ hO;rw[e];have HB:=eZ (λo o'=>gX (fo w o) o');clear e hO;by_cases h1:n<0
 ·rw[eY (.inl h1)]at hm;subst hm
  go_enter func20,ntmps20
  go_wp2;refine VJ (v:=.agg #[.slice (some ⟨w.heap.size+1,0,none⟩) 1 1]) ?_ rfl ⟨_,rfl,(HO.out _).nodes,λe=>absurd e (by decide),HB.out _ _⟩;simp[results,results20,go_sem]
 by_cases h2:32768<n
 ·rw[eY (.inr h2)]at hm;subst hm
  go_enter func20,ntmps20
  go_wp2;refine VJ (v:=.agg #[.slice (some ⟨w.heap.size+1,0,none⟩) 1 1]) ?_ rfl ⟨_,rfl,(HO.out _).nodes,λe=>absurd e (by decide),HB.out _ _⟩;simp[results,results20,go_sem]
 rw[eX (λh=>h.elim h1 h2)]at hm;subst hm
 go_enter func20,ntmps20
 go_wp2;refine VJ (v:=.agg #[.slice (some ⟨w.heap.size+1,0,none⟩) 1 1]) ?_ rfl ⟨_,rfl,(HO.out _).nodes,λe=>absurd e (by decide),HB.out _ _⟩;simp[results,results20,go_sem]
def BM(N:Nat)(k:Int):Bool:=decide (0<=k)&&decide (k<N)
theorem J7(a:Option Addr)(N cap:Nat)(k:Int)(w:World)(hN:N<=1000000):
 Calls prog 50 #[.agg #[.slice a N cap],.int .i64 k] w (λe w'=>e=.returned (.bool (BM N k))/\Below w.heap.size w w'):=by
 have HB:=eZ (λo=>fo w o);obtain⟨R,hR⟩:=fq (BM N k);rw[hR];unfold BM at hR;by_cases h1:0<=k
 ·have d1:decide (0<=k)=true:=lI h1;by_cases h2:k<(N:Int)
  ·obtain rfl:R=true:=by rw[<-hR];simp[h1,h2]
   have d2:decide (k<(N:Int))=true:=lI h2;clear hR
   go_enter func50,ntmps50
   go_wp2_with fail
   go_ret;exact⟨rfl,HB.out _⟩
  obtain rfl:R=false:=by rw[<-hR];simp[h2]
  have d2:decide (k<(N:Int))=false:=jE h2;clear hR
  go_enter func50,ntmps50
  go_wp2_with fail
  go_ret;exact⟨rfl,HB.out _⟩
 obtain rfl:R=false:=by rw[<-hR];simp[h1]
 have d1:decide (0<=k)=false:=jE h1;clear hR
 go_enter func50,ntmps50
 go_wp2_with fail
 go_ret;exact⟨rfl,HB.out _⟩
end
section
open Go.RowKit
open Sg
def crlf(r:Int):Int:=if r=13 then 0 else if r=10 then 1 else -1
theorem LY(r:Int)(h0:0<=r)(h1:r<128):Lib.indexByte [13,10] r.toNat.toUInt8=crlf r:=by
 have key:∀n:Fin 128,Lib.indexByte [13,10] n.val.toUInt8=crlf (n.val:Int):=by decide
 have:=key ⟨r.toNat,by omega⟩;simp only at this;rw[this];congr 1;omega
theorem Ey(r:Int)(w:World)(h0:0<=r)(h1:r<128):
 Calls prog 117 #[.string ⟨#[13,10]⟩,.int .i32 r] w λe w'=>e=.returned (.int .i64 (crlf r))/\Below w.heap.size w w':=by
 have h:=Any.strings_IndexRune_ascii (L:={JD with}) ⟨#[13,10]⟩ r w h0 h1;refine De h ?_;rintro e w' ⟨rfl,rfl⟩;refine⟨?_,fI _ _⟩;show Ending.returned (.int .i64 (Lib.indexByte [13,10] r.toNat.toUInt8))=_;rw[LY r h0 h1]
theorem Jd(w:World):
 Calls prog 117 #[.string ⟨#[13,10]⟩,.int .i32 65533] w λe w'=>e=.returned (.int .i64 (-1))/\Below w.heap.size w w':=by
 go_enter func117,ntmps117
 go_wp2_with fail
 go_loopg [] 2 (λgf wr=>∃(pos:Nat),wr.heap[w.heap.size]?=some (.stringIter ⟨#[13,10]⟩ pos)/\Below w.heap.size w wr/\pos+gf=2)
 case atStart=>exact⟨0,xM w _ 0,(fI _ w).alloc (fB _) _,rfl⟩
 case round=>
  obtain⟨pos,hit,hb,hf⟩:=hrel;rcases(by omega:pos=0\/pos=1\/pos=2)with rfl|rfl|rfl
  ·obtain rfl:gk=2:=by omega
   have hnx:∀ty,(Instr.next (.pointer (some ⟨w.heap.size,0,none⟩)) true ty).run prog wr=_:=λty=>BG wr w.heap.size ⟨#[13,10]⟩ 0 ty hit (by decide) (by decide)
   have hit2:=vI wr w.heap.size ⟨#[13,10]⟩ 0 1 hit;have hb2:=qK hb (k:=w.heap.size) (fB _) ⟨#[13,10]⟩ 1;generalize wr.iterAt w.heap.size ⟨#[13,10]⟩ (0+1)=W at*;clear hit hb;go_wp2_with fail
   go_roundg 1
   case measure=>omega
   case rel=>exact⟨1,hit2,hb2,rfl⟩
  ·obtain rfl:gk=1:=by omega
   have hnx:∀ty,(Instr.next (.pointer (some ⟨w.heap.size,0,none⟩)) true ty).run prog wr=_:=λty=>BG wr w.heap.size ⟨#[13,10]⟩ 1 ty hit (by decide) (by decide)
   have hit2:=vI wr w.heap.size ⟨#[13,10]⟩ 1 2 hit;have hb2:=qK hb (k:=w.heap.size) (fB _) ⟨#[13,10]⟩ 2;generalize wr.iterAt w.heap.size ⟨#[13,10]⟩ (1+1)=W at*;clear hit hb;go_wp2_with fail
   go_roundg 0
   case measure=>omega
   case rel=>exact⟨2,hit2,hb2,rfl⟩
  have hnx:∀ty,(Instr.next (.pointer (some ⟨w.heap.size,0,none⟩)) true ty).run prog wr=_:=λty=>xN wr w.heap.size ⟨#[13,10]⟩ 2 ty hit (by decide)
  clear hit;go_wp2_with fail
  go_ret;exact⟨rfl,hb⟩
theorem GU(c:Int)(w:World):Calls prog 144 #[.string ByteArray.empty,.int .u8 c] w λe w'=>e=.returned (.int .i64 (-1))/\w'=w:=by
 have h:=Any.strings_IndexByte (L:=O9) ByteArray.empty c w;refine De h ?_;rintro e w' ⟨rfl,rfl⟩;exact⟨rfl,rfl⟩
theorem Je(r:Int)(a b:UInt8)(w:World)(hr:128<=r)(hr2:r<=1114111)(hn:r≠65533)(hv:Utf8.valid r=true)(hb:128<=b.toNat)(he:Utf8.encode r=⟨#[a,b]⟩):
 Calls prog 117 #[.string ⟨#[13,10]⟩,.int .i32 r] w λe w'=>e=.returned (.int .i64 (-1))/\Below w.heap.size w w':=by
 have h3:(r==65533)=false:=iW.2 hn;have hcv:∀w,(convert 21 9 (.int .i32 r)).run prog w=.ok (.string ⟨#[a,b]⟩) w:=λw=>by rw[AV r w,he]
 have hne:((((⟨#[13,10]⟩:ByteArray)[1]'(by decide)).toNat:Int) !=(((⟨#[a,b]⟩:ByteArray)[1]'(by decide:(1:Nat)<2)).toNat:Int))=true:=by
  show((10:Int) !=(b.toNat:Int))=true;simp;omega
 have HV:=eZ (AX r w (by omega) hv);clear he hv
 go_enter func117,ntmps117
 go_wp2_with fail
 refine HV.out.mono ?_;rintro e w1 ⟨rfl,rfl⟩;go_wp2_with fail
 go_step3
 go_wp2_with fail
 go_loopg [9,10] 1 (λgf i f wr=>i=.int .i64 1/\f=.int .i64 0/\wr=w)
 case atStart=>exact⟨rfl,rfl,rfl⟩
 case round=>
  obtain⟨rfl,rfl,rfl⟩:=hrel;go_wp2_with fail
  go_step3
  go_wp2_with fail
  go_big_quiet (fail)
  go_wp2_with fail
  go_big_quiet (exact(GU _ _).mono λ_ _ h=>⟨h.1,_,h.2⟩)
  go_wp2_with fail
  rw[vJ];go_wp2_with fail
  rw[vJ];go_ret;exact⟨rfl,by first|exact Ie (fI _ _) _|exact Ie (Ie (fI _ _) _) _⟩
theorem GV(r:Int)(V:ByteArray)(w:World)(hr:128<=r)(hr2:r<=1114111)(hn:r≠65533)(hv:Utf8.valid r=true)(hb:3<=V.size)(hb2:V.size<=4)(he:Utf8.encode r=V):
 Calls prog 117 #[.string ⟨#[13,10]⟩,.int .i32 r] w λe w'=>e=.returned (.int .i64 (-1))/\Below w.heap.size w w':=by
 have h3:(r==65533)=false:=iW.2 hn;have hcv:∀w,(convert 21 9 (.int .i32 r)).run prog w=.ok (.string V) w:=λw=>by rw[AV r w,he]
 have hge:¬((V.size:Int)-1<2):=by omega
 have HV:=eZ (AX r w (by omega) hv);clear he hv
 go_enter func117,ntmps117
 go_wp2_with fail
 refine HV.out.mono ?_;rintro e w1 ⟨rfl,rfl⟩;go_wp2_with fail
 go_step3
 go_wp2_with fail
 go_loopg [9,10] 1 (λgf i f wr=>i=.int .i64 ((V.size:Int)-1)/\f=.int .i64 0/\wr=w)
 case atStart=>exact⟨rfl,rfl,rfl⟩
 case round=>
  obtain⟨rfl,rfl,rfl⟩:=hrel;go_wp2_with fail
  rw[vJ];go_ret;exact⟨rfl,fI _ _⟩
theorem Jf(r:Int)(w:World)(h0:0<=r)(hr2:r<=1114111)(hv:Utf8.valid r=true):
 Calls prog 117 #[.string ⟨#[13,10]⟩,.int .i32 r] w λe w'=>e=.returned (.int .i64 (crlf r))/\Below w.heap.size w w':=by
 by_cases h1:r<128
 ·exact Ey r w h0 h1
 have hc:crlf r=-1:=by unfold crlf;rw[eX (by omega),eX (by omega)]
 rw[hc];by_cases h2:r=65533
 ·subst h2;exact Jd w
 have hs:=x9 hv;have he:=encode_eq r;have hsz:=qm r;generalize EG r=c at hs he hsz;subst hs;by_cases c2:c<2048
 ·have e:rG c=enc2 c:=by unfold rG;rw[eX (by omega),eY c2]
  rw[e]at he;exact Je _ _ (UInt8.ofNat (128+c%64)) w (by omega) hr2 h2 hv (by rw[byte_of _ (by omega)];omega) he
 have h3:3<=(rG c).length/\(rG c).length<=4:=by
  unfold rG;rw[eX (by omega),eX c2];split<;>simp[enc3,enc4]
 exact GV _ _ w (by omega) hr2 h2 hv (by rw[hsz];exact h3.1) (by rw[hsz];exact h3.2) rfl
def yN(l:List Nat):Int:=if Sc.jI l=l.length then -1 else(Sc.jI l:Int)
theorem Ez(l:List UInt8):Lib.indexAny l [13,10]=yN (l.map UInt8.toNat):=by
 induction l with
 |nil=>rfl
 |cons b r ih=>
  have hb:([13,10]:List UInt8).contains b=Sc.brk b.toNat:=by
   have key:∀n:Fin 256,([13,10]:List UInt8).contains n.val.toUInt8=Sc.brk n.val:=by decide+kernel
   have:=key ⟨b.toNat,KP b⟩
   simpa using this
  rw[Lib.indexAny,hb,ih];unfold yN Sc.jI;rw[wB,Sc.run];cases hk:Sc.brk b.toNat with
  |true=>simp
  |false=>
   have:=Sc.ni (λc=>!Sc.brk c) (r.map UInt8.toNat);rw[eY (show(!false)=true from rfl),jh];generalize Sc.run (λc=>!Sc.brk c) (r.map UInt8.toNat)=k at*;generalize (r.map UInt8.toNat).length=n at*;by_cases h:k=n
   ·subst h;simp
   have h2:((k:Int)==-1)=false:=iW.2 (by omega);simp[h,h2]
end
section
open Go.RowKit
open Sg
theorem J8(s:ByteArray)(p:Nat):(Utf8.decode s p).1<55296\/(57343<(Utf8.decode s p).1/\(Utf8.decode s p).1<=1114111):=by
 rw[Sf];have h0:(s.get! p).toNat<256:=KP _
 generalize (s.get! p).toNat=b0,(s.get! (p+1)).toNat=b1,(s.get! (p+2)).toNat=b2,(s.get! (p+3)).toNat=b3 at*;unfold Lib.decodeN
 (repeat' split)<;>(dsimp only at*;omega)
theorem Jg(s:ByteArray)(p:Nat):Utf8.valid ((Utf8.decode s p).1:Int)=true:=by
 have:=J8 s p;simp[Utf8.valid];omega
theorem GX(s:ByteArray)(w:World)(hs:s.size<=8):
 Calls prog 78 #[.string s,.string ⟨#[13,10]⟩] w λe w'=>e=.returned (.int .i64 (yN (Sc.fw s)))/\Below w.heap.size w w':=by
 have HR:=eZ (λk h1 h2=>Sc.run_end (λc=>!Sc.brk c) (Sc.fw s) k h1 h2);have hl:(Sc.fw s).length=s.size:=Sc.gJ s;have HL:=eZ hl;clear hl
 go_enter func78,ntmps78
 go_wp2
 go_loopg [] s.size (λgf wr=>∃(pos:Nat),wr.heap[w.heap.size]?=some (.stringIter s pos)/\Below w.heap.size w wr/\Hid (∀j,j<pos->(!Sc.brk ((Sc.fw s).getD j 0))=true)/\pos<=s.size/\s.size<=pos+gf)
 case atStart=>exact⟨0,xM w s 0,(fI _ w).alloc (fB _) _,eZ (λj h=>absurd h (qJ j)),ic _,by omega⟩
 case round=>
  obtain⟨pos,hit,hb,hall,hle,hf⟩:=hrel;by_cases hlt:pos<s.size
  ·obtain⟨g',rfl⟩:∃g',gk=g'+1:=⟨gk-1,by omega⟩
   have hgd:=Sc.jo s pos;have hge:=Sc.lL s pos hlt;have hnx:∀ty,(Instr.next (.pointer (some ⟨w.heap.size,0,none⟩)) true ty).run prog wr=_:=λty=>BF wr w.heap.size s pos ty hit hlt
   have hd:=zN s pos hlt;have hwd:=xS s pos hlt;have hwn:=E6 s pos hlt;have hov:=DT s pos hlt;have aa:=tK s pos 13 hlt (by decide);have ae:=tK s pos 10 hlt (by decide);have hvl:Utf8.valid ((Utf8.decode s pos).1:Int)=true:=Jg s pos;have hbd:=J8 s pos;rw[<-pK s pos hlt]at hnx;obtain⟨K,hK⟩:=fq ((nx s pos).2);obtain⟨R,hR⟩:=fq ((Utf8.decode s pos).1);rw[hK,hR]at hnx;rw[hK]at hwd hwn hov;rw[hR]at aa ae hvl hbd;have hit2:=vI wr w.heap.size s pos (pos+K) hit;have hb2:=qK hb (k:=w.heap.size) (fB _) s (pos+K);obtain⟨W,hWd⟩:=fq (wr.iterAt w.heap.size s (pos+K));rw[hWd]at hnx hit2 hb2;have HC:=eZ (Jf (R:Int) W (by omega) (by omega) hvl);cases hk:Sc.brk (s.get! pos).toNat with
   |true=>
    have hcr:0<=crlf (R:Int):=by
     unfold crlf;simp[Sc.brk]at hk;split
     ·omega
     split
     ·omega
     rename_i h1 h2;rcases hk with h|h
     ·exact absurd (ae.2 h) (by omega)
     exact absurd (aa.2 h) (by omega)
    have hres:=HR.out pos hall.out (.inr ⟨by rw[HL.out];exact hlt,by rw[hgd,hk];rfl⟩);have hrow:yN (Sc.fw s)=(pos:Int):=by
     unfold yN Sc.jI;rw[hres,HL.out,eX (by omega)]
    have HS:=eZ hrow;generalize crlf (R:Int)=X at*;clear hall hgd hge hit hb hd hwd hwn hov aa ae hvl hbd hK hR hWd hk hres HR hrow hit2;go_wp2_with fail
    refine HC.out.mono ?_;rintro e w1 ⟨rfl,hb3⟩;go_wp2;go_ret;exact⟨by rw[HS.out];rfl,hb2.trans (hb3.mono hb2.size)⟩
   |false=>
    have hcr:crlf (R:Int)<0:=by
     unfold crlf;simp[Sc.brk]at hk;rw[eX (λh=>hk.2 (aa.1 (by omega))),eX (λh=>hk.1 (ae.1 (by omega)))];omega
    have af:∀j,j<pos+K->(!Sc.brk ((Sc.fw s).getD j 0))=true:=by
     intro j hj;rcases Hw j pos with h|h|h
     ·exact hall.out j h
     ·subst h;rw[hgd,hk];rfl
     have:=hov j h hj;rw[Sc.jo];simp[Sc.brk];omega
    have HA:=eZ af;have hn:¬(0<=crlf (R:Int)):=by omega
    generalize crlf (R:Int)=X at*;clear hall af hgd hge hit hb hd hov aa ae hvl hbd hK hR hWd hk HR;go_wp2_with fail
    refine HC.out.mono ?_;rintro e w1 ⟨rfl,hb3⟩;have hit3:w1.heap[w.heap.size]?=some (.stringIter s (pos+K)):=(hb3.block _ (xI.1 hit2).1).trans hit2;have hb4:=hb2.trans (hb3.mono hb2.size);clear hit2 hb3 hb2;go_wp2
    go_roundg g'
    case measure=>omega
    case rel=>exact⟨pos+K,hit3,hb4,HA,hwn,by omega⟩
  have hnx:∀ty,(Instr.next (.pointer (some ⟨w.heap.size,0,none⟩)) true ty).run prog wr=_:=λty=>xN wr w.heap.size s pos ty hit hlt
  obtain rfl:pos=s.size:=by omega
  have hres:=HR.out s.size hall.out (.inl HL.out.symm);have hrow:yN (Sc.fw s)=-1:=by
   unfold yN Sc.jI;rw[hres,HL.out,eY rfl]
  have HS:=eZ hrow;clear hall hit hres HR hrow;go_wp2;go_ret;exact⟨by rw[HS.out];rfl,hb⟩
end
section
open Go.RowKit
open Sg
theorem LZ(s:ByteArray)(w:World)(hs:s.size<=100000):
 Calls prog 78 #[.string s,.string ⟨#[13,10]⟩] w λe w'=>e=.returned (.int .i64 (yN (Sc.fw s)))/\Below w.heap.size w w':=by
 by_cases h:s.size<=8
 ·exact GX s w h
 have h2:=Any.strings_IndexAny_long (L:=JD) zeroValue149 (by kernel_rfl) s ⟨#[13,10]⟩ w (by decide) (by omega) (by omega) (by decide) (ascii_of_all (by decide));refine De h2 ?_;rintro e w' ⟨rfl,rfl⟩;refine⟨?_,((fI _ w).alloc (fB _) _).alloc (by simp) _⟩;rw[show Sc.fw s=s.data.toList.map UInt8.toNat from rfl,<-Ez]
theorem P7(s:ByteArray)(w:World)(hs:s.size<=100000):
 Calls prog 52 #[.string s] w λe w'=>e=.returned (.int .i64 (Sc.jI (Sc.fw s)))/\Below w.heap.size w w':=by
 have HC:=eZ (LZ s w hs);have hl:(Sc.fw s).length=s.size:=Sc.gJ s;by_cases h:Sc.jI (Sc.fw s)=(Sc.fw s).length
 ·have hI:yN (Sc.fw s)=-1:=by unfold yN;rw[eY h]
  rw[hI]at HC;rw[h,hl];clear h hI hl
  go_enter func52,ntmps52
  go_wp2_with fail
  refine HC.out.mono ?_;rintro e w1 ⟨rfl,hb⟩;go_wp2;go_ret;exact⟨rfl,hb⟩
 have hI:yN (Sc.fw s)=(Sc.jI (Sc.fw s):Int):=by unfold yN;rw[eX h]
 rw[hI]at HC;generalize Sc.jI (Sc.fw s)=k at*;have hk:(0:Int)<=(k:Int):=by omega
 clear h hI hl
 go_enter func52,ntmps52
 go_wp2_with fail
 refine HC.out.mono ?_;rintro e w1 ⟨rfl,hb⟩;go_wp2;go_ret;exact⟨rfl,hb⟩
theorem zi(s p:ByteArray)(w:World):
 Calls prog 79 #[.string s,.string p] w λe w'=>e=.returned (.bool (p.data.toList.isPrefixOf s.data.toList))/\w'=w:=Any.strings_HasPrefix (L:=Pb) s p w
theorem XM(s:ByteArray)(a:Nat)(ha:a<256):([UInt8.ofNat a]:List UInt8).isPrefixOf s.data.toList=decide (0<s.size/\(s.get! 0).toNat=a):=by
 have e:(UInt8.ofNat a).toNat=a:=by simp;omega
 have hd:=BD s 0;have hz:=rE s;cases hl:s.data.toList with
 |nil=>rw[hl]at hz;simp at hz;simp[hz]
 |cons x r=>
  rw[hl]at hd hz;simp only[jh]at hz;have hx:x=s.get! 0:=by simpa using hd
  rw[<-hx];simp only[List.isPrefixOf,Vf];rw[nP];simp only[uD,M4];constructor
  ·rintro rfl;exact⟨by omega,e⟩
  rintro⟨_,h⟩;exact RJ.1 (by rw[e,h])
theorem XN(s:ByteArray)(a b:Nat)(ha:a<256)(hb:b<256):([UInt8.ofNat a,UInt8.ofNat b]:List UInt8).isPrefixOf s.data.toList=decide (1<s.size/\(s.get! 0).toNat=a/\(s.get! 1).toNat=b):=by
 have e:(UInt8.ofNat a).toNat=a:=by simp;omega
 have e2:(UInt8.ofNat b).toNat=b:=by simp;omega
 have hd:=BD s 0;have hd1:=BD s 1;have hz:=rE s;cases hl:s.data.toList with
 |nil=>rw[hl]at hz;simp at hz;simp[hz]
 |cons x r=>
  cases r with
  |nil=>rw[hl]at hz;simp at hz;simp[hz,List.isPrefixOf]
  |cons y r=>
   rw[hl]at hd hd1 hz;simp only[jh]at hz;have hx:x=s.get! 0:=by simpa using hd
   have hy:y=s.get! 1:=by simpa using hd1
   rw[<-hx,<-hy];simp only[List.isPrefixOf,Vf];rw[nP];simp only[uD,M4,qH];constructor
   ·rintro⟨rfl,rfl⟩;exact⟨by omega,e,e2⟩
   rintro⟨_,h,h2⟩;exact⟨RJ.1 (by rw[e,h]),RJ.1 (by rw[e2,h2])⟩
theorem Wv(s:ByteArray):Sc.qa (Sc.fw s)=if 1<s.size/\(s.get! 0).toNat=13/\(s.get! 1).toNat=10 then 2 else if 0<s.size/\(s.get! 0).toNat=13 then 1 else if 0<s.size/\(s.get! 0).toNat=10 then 1 else 0:=by
 have hl:=Sc.gJ s;have g0:=Sc.jo s 0;have g1:=Sc.jo s 1;cases h:Sc.fw s with
 |nil=>rw[h]at hl;simp at hl;simp[<-hl,Sc.qa]
 |cons c r=>
  cases r with
  |nil=>
   rw[h]at hl g0 g1;simp at hl g0 g1;rw[Sc.qa,<-hl,<-g0];simp
  |cons d r=>
   rw[h]at hl g0 g1;simp at hl g0 g1;rw[Sc.qa,<-g0,<-g1,<-hl];by_cases h1:c=13
   ·subst h1;by_cases h2:d=10<;>simp[h2]
   by_cases h2:c=10<;>simp[h1,h2]
theorem Jh(s:ByteArray)(w:World):
 Calls prog 53 #[.string s] w λe w'=>e=.returned (.int .i64 (Sc.qa (Sc.fw s)))/\w'=w:=by
 rw[Wv];have h1:=zi s ⟨#[13,10]⟩ w;have h2:=zi s ⟨#[13]⟩ w;have h3:=zi s ⟨#[10]⟩ w;rw[show((⟨#[13,10]⟩:ByteArray).data.toList.isPrefixOf s.data.toList)=_ from XN s 13 10 (by decide) (by decide)]at h1;rw[show((⟨#[13]⟩:ByteArray).data.toList.isPrefixOf s.data.toList)=_ from XM s 13 (by decide)]at h2;rw[show((⟨#[10]⟩:ByteArray).data.toList.isPrefixOf s.data.toList)=_ from XM s 10 (by decide)]at h3;by_cases c1:1<s.size/\(s.get! 0).toNat=13/\(s.get! 1).toNat=10
 ·rw[eY c1];rw[lI c1]at h1;have H1:=eZ h1;clear h1 h2 h3 c1
  go_enter func53,ntmps53
  go_wp2_with fail
  refine H1.out.mono ?_;rintro e w1 ⟨rfl,rfl⟩;go_wp2_with fail
  go_ret;exact⟨rfl,rfl⟩
 rw[eX c1];rw[jE c1]at h1;have H1:=eZ h1;clear h1 c1;by_cases c2:0<s.size/\(s.get! 0).toNat=13
 ·rw[eY c2];rw[lI c2]at h2;have H2:=eZ h2;clear h2 h3 c2
  go_enter func53,ntmps53
  go_wp2_with fail
  refine H1.out.mono ?_;rintro e w1 ⟨rfl,rfl⟩;go_wp2_with fail
  refine H2.out.mono ?_;rintro e w2 ⟨rfl,rfl⟩;go_wp2_with fail
  go_ret;exact⟨rfl,rfl⟩
 rw[eX c2];rw[jE c2]at h2;have H2:=eZ h2;clear h2 c2;by_cases c3:0<s.size/\(s.get! 0).toNat=10
 ·rw[eY c3];rw[lI c3]at h3;have H3:=eZ h3;clear h3 c3
  go_enter func53,ntmps53
  go_wp2_with fail
  refine H1.out.mono ?_;rintro e w1 ⟨rfl,rfl⟩;go_wp2_with fail
  refine H2.out.mono ?_;rintro e w2 ⟨rfl,rfl⟩;go_wp2_with fail
  refine H3.out.mono ?_;rintro e w3 ⟨rfl,rfl⟩;go_wp2_with fail
  go_ret;exact⟨rfl,rfl⟩
 rw[eX c3];rw[jE c3]at h3;have H3:=eZ h3;clear h3 c3
 go_enter func53,ntmps53
 go_wp2_with fail
 refine H1.out.mono ?_;rintro e w1 ⟨rfl,rfl⟩;go_wp2_with fail
 refine H2.out.mono ?_;rintro e w2 ⟨rfl,rfl⟩;go_wp2_with fail
 refine H3.out.mono ?_;rintro e w3 ⟨rfl,rfl⟩;go_wp2_with fail
 go_ret;exact⟨rfl,rfl⟩
def kI(k:Nat):Int:=if k=0 then -1 else(k:Int)
theorem L5(s:ByteArray):Sc.part ((Sc.fw s).drop 3)=Sc.part (Sc.fw (s.extract 3 s.size)):=by rw[Sc.lz]
theorem CF(s:ByteArray)(l:List UInt8)(h3:3<=s.size):((s.extract 0 3).toList=l)↔(Sc.fw s).take 3=l.map UInt8.toNat:=by
 rw[Na,<-Sc.qZ];constructor
 ·intro h;rw[<-h];rfl
 intro h;exact List.map_inj_right (λ_ _=>RJ.1)|>.1 h
theorem UZ(s:ByteArray)(w:World)(hs:s.size<=maxLen):
 Calls prog 80 #[.string s] w λe w'=>e=.returned (.int .i64 (kI (Sc.mark (Sc.fw s))))/\w=w':=by
 have hs2:=hs;unfold maxLen at hs;by_cases h3:s.size<3
 ·have hm:kI (Sc.mark (Sc.fw s))=-1:=by
   have hl:=Sc.gJ s;have:((Sc.fw s).take 3).length<3:=by rw[kD];omega
   unfold Sc.mark;rw[eX (λh=>by rw[h]at this;simp at this),eX (λh=>by rw[h]at this;simp at this)];rfl
  rw[hm];have hlt:(s.size:Int)<3:=by omega
  clear hm h3
  go_enter func80,ntmps80
  go_wp2_with fail
  go_ret;exact⟨rfl,rfl⟩
 have hz:(s.extract 3 s.size).size<=maxLen:=by rw[nV];omega
 have hP:=uM (s.extract 3 s.size) w hz;rw[<-L5]at hP;have hge:¬((s.size:Int)<3):=by omega
 have hlo:(3:Int)<=(s.size:Int):=by omega
 have e1:=CF s [45,45,45] (by omega);have e2:=CF s [46,46,46] (by omega);unfold Sc.mark;cases hp:Sc.part ((Sc.fw s).drop 3)with
 |false=>
  rw[hp]at hP;have HP:=eZ hP;have hr:kI (if(Sc.fw s).take 3=[45,45,45]then(if false=true then 20 else 0)else if(Sc.fw s).take 3=[46,46,46]then(if false=true then 21 else 0)else 0)=-1:=by
   simp[kI]
  rw[hr];clear hP hp hz e1 e2 h3 hr
  go_enter func80,ntmps80
  go_wp2_with fail
  refine HP.out.mono ?_;rintro e w1 ⟨rfl,rfl⟩;go_wp2_with fail
  go_ret;exact⟨rfl,rfl⟩
 |true=>
  rw[hp]at hP;have HP:=eZ hP;by_cases c1:(Sc.fw s).take 3=[45,45,45]
  ·have g1:((s.extract 0 3).toList==[45,45,45])=true:=uD.2 (e1.2 (by rw[c1];rfl));rw[eY c1];clear hP hp hz e1 e2 h3 c1
   go_enter func80,ntmps80
   go_wp2_with fail
   refine HP.out.mono ?_;rintro e w1 ⟨rfl,rfl⟩;go_wp2_with fail
   go_ret;exact⟨rfl,rfl⟩
  have g1:((s.extract 0 3).toList==[45,45,45])=false:=iW.2 λh=>c1 (by rw[e1.1 h];rfl)
  rw[eX c1];by_cases c2:(Sc.fw s).take 3=[46,46,46]
  ·have g2:((s.extract 0 3).toList==[46,46,46])=true:=uD.2 (e2.2 (by rw[c2];rfl));rw[eY c2];clear hP hp hz e1 e2 h3 c1 c2
   go_enter func80,ntmps80
   go_wp2_with fail
   refine HP.out.mono ?_;rintro e w1 ⟨rfl,rfl⟩;go_wp2_with fail
   go_ret;exact⟨rfl,rfl⟩
  have g2:((s.extract 0 3).toList==[46,46,46])=false:=iW.2 λh=>c2 (by rw[e2.1 h];rfl)
  rw[eX c2];clear hP hp hz e1 e2 h3 c1 c2
  go_enter func80,ntmps80
  go_wp2_with fail
  refine HP.out.mono ?_;rintro e w1 ⟨rfl,rfl⟩;go_wp2_with fail
  go_ret;exact⟨rfl,rfl⟩
end
section
open Go.RowKit
open Sg
theorem qW(s:ByteArray)(h:0<s.size):Sc.fw s=(s[0]'h).toNat::Sc.fw (s.extract 1 s.size):=by
 have:=Sc.drop_cons s 0 h;rw[lQ]at this;rw[this,Sc.lL s 0 h,Sc.lz]
theorem uj(s:ByteArray)(k:Nat)(h:s.size<=maxLen):(s.extract k s.size).size<=maxLen:=by rw[nV];omega
theorem U0(s:ByteArray)(i:Nat)(h:i<s.size):(s[i]'h).toNat<256:=KP _
theorem Ww(s:ByteArray)(w:World)(hs:s.size<=100000)(h0:0<s.size):
 Calls prog 88 #[.string s] w λe w'=>e=.returned (.tuple #[.int .i64 (kI (Sc.named (Sc.fw s)).1),.int .i64 (Sc.named (Sc.fw s)).2])/\Below w.heap.size w w':=by
 have hm:s.size<=maxLen:=by unfold maxLen;omega
 have hz:=uj s 1 hm;have hN:=Tg (s.extract 1 s.size) w hz;have hT:=Pj (s.extract 1 s.size) w hz;have hb:=U0 s 0 h0;have hlo:(1:Int)<=(s.size:Int):=by omega
 have rN:=Sc.ni Sc.Dj (Sc.fw (s.extract 1 s.size));have rT:=Sc.ni Sc.Ig (Sc.fw (s.extract 1 s.size));rw[Sc.gJ,nV]at rN rT;rw[qW s h0,Sc.named];generalize Sc.run Sc.Dj (Sc.fw (s.extract 1 s.size))=n at*;generalize Sc.run Sc.Ig (Sc.fw (s.extract 1 s.size))=t at*;have hn2:(n:Int)+1<=100001:=by omega
 have ht2:(t:Int)+1<=100001:=by omega
 clear rN rT hm hz;by_cases c1:(s[0]'h0).toNat=38
 ·rw[eY c1];have g1:(((s[0]'h0).toNat:Int)==38)=true:=by rw[c1];rfl
  have HN:=eZ hN;clear hN hT c1;by_cases hn:n=0
  ·subst hn;rw[eY rfl]
   go_enter func88,ntmps88
   go_wp2_with fail
   refine HN.out.mono ?_;rintro e w1 ⟨rfl,hb⟩;go_wp2_with fail
   go_ret2;exact⟨rfl,hb⟩
  rw[eX hn];have g2:((n:Int)==0)=false:=iW.2 (by omega);clear hn
  go_enter func88,ntmps88
  go_wp2_with fail
  refine HN.out.mono ?_;rintro e w1 ⟨rfl,hb⟩;go_wp2_with fail
  go_ret2;exact⟨by rw[Vh];rfl,hb⟩
 rw[eX c1];have g1:(((s[0]'h0).toNat:Int)==38)=false:=iW.2 (by omega);by_cases c2:(s[0]'h0).toNat=42
 ·rw[eY c2];have g2:(((s[0]'h0).toNat:Int)==42)=true:=by rw[c2];rfl
  have HN:=eZ hN;clear hN hT c1 c2;by_cases hn:n=0
  ·subst hn;rw[eY rfl]
   go_enter func88,ntmps88
   go_wp2_with fail
   refine HN.out.mono ?_;rintro e w1 ⟨rfl,hb⟩;go_wp2_with fail
   go_ret2;exact⟨rfl,hb⟩
  rw[eX hn];have g2:((n:Int)==0)=false:=iW.2 (by omega);clear hn
  go_enter func88,ntmps88
  go_wp2_with fail
  refine HN.out.mono ?_;rintro e w1 ⟨rfl,hb⟩;go_wp2_with fail
  go_ret2;exact⟨by rw[Vh];rfl,hb⟩
 rw[eX c2];have g2:(((s[0]'h0).toNat:Int)==42)=false:=iW.2 (by omega);by_cases c3:(s[0]'h0).toNat=33
 ·rw[eY c3];have g3:(((s[0]'h0).toNat:Int)==33)=true:=by rw[c3];rfl
  have HT:=eZ hT;clear hN hT c1 c2 c3
  go_enter func88,ntmps88
  go_wp2_with fail
  refine HT.out.mono ?_;rintro e w1 ⟨rfl,hb⟩;go_wp2_with fail
  go_ret2;exact⟨by rw[Vh];rfl,hb⟩
 rw[eX c3];have g3:(((s[0]'h0).toNat:Int)==33)=false:=iW.2 (by omega);clear hN hT c1 c2 c3
 go_enter func88,ntmps88
 go_wp2_with fail
 go_ret2;exact⟨rfl,fI _ _⟩
theorem TD(s:ByteArray)(i:Nat)(h:i<s.size):Sc.sQ ((Sc.fw s).drop i)=
 if(s.get! i).toNat=39 then(if i+1<s.size/\(s.get! (i+1)).toNat=39 then Sc.sQ ((Sc.fw s).drop (i+2))+2 else 1)else Sc.sQ ((Sc.fw s).drop (i+1))+1:=by
 rw[Sc.drop_cons s i h];by_cases h1:i+1<s.size
 ·rw[Sc.drop_cons s (i+1) h1,Sc.sQ];by_cases c:(s.get! i).toNat=39
  ·rw[eY c,eY c];by_cases d:(s.get! (i+1)).toNat=39
   ·rw[eY d,eY ⟨h1,d⟩]
   rw[eX d,eX (λx=>d x.2)]
  rw[eX c,eX c]
 rw[Sc.drop_nil s (i+1) (by omega),Sc.sQ];by_cases c:(s.get! i).toNat=39
 ·rw[eY c,eX (λx=>h1 x.1)];rfl
 rw[eX c];rfl
theorem P8(s:ByteArray)(i:Nat)(h:s.size<=i):Sc.sQ ((Sc.fw s).drop i)=0:=by rw[Sc.drop_nil s i h];rfl
theorem TE(s:ByteArray)(i:Nat)(h:i<s.size):Sc.sS ((Sc.fw s).drop i)=
 if(s.get! i).toNat=34 then 1 else if(s.get! i).toNat=92 then(if i+1<s.size then Sc.sS ((Sc.fw s).drop (i+2))+2 else 1)else Sc.sS ((Sc.fw s).drop (i+1))+1:=by
 rw[Sc.drop_cons s i h];by_cases h1:i+1<s.size
 ·rw[Sc.drop_cons s (i+1) h1,Sc.sS];by_cases c:(s.get! i).toNat=34
  ·rw[eY c,eY c]
  rw[eX c,eX c];by_cases d:(s.get! i).toNat=92
  ·rw[eY d,eY d,eY h1]
  rw[eX d,eX d]
 rw[Sc.drop_nil s (i+1) (by omega),Sc.sS];by_cases c:(s.get! i).toNat=34
 ·rw[eY c];rfl
 rw[eX c];by_cases d:(s.get! i).toNat=92
 ·rw[eY d,eX h1];rfl
 rw[eX d];rfl
theorem FZ(s:ByteArray)(i:Nat)(h:s.size<=i):Sc.sS ((Sc.fw s).drop i)=0:=by rw[Sc.drop_nil s i h];rfl
theorem X6(s:ByteArray)(i:Nat)(h:i<s.size):([39,39]:List UInt8).isPrefixOf (s.extract i s.size).data.toList=decide (i+1<s.size/\(s.get! i).toNat=39/\(s.get! (i+1)).toNat=39):=by
 have:=XN (s.extract i s.size) 39 39 (by decide) (by decide);rw[Vz,RO,RO,qI]at this;rw[show([39,39]:List UInt8)=[UInt8.ofNat 39,UInt8.ofNat 39]from rfl,this];congr 1;exact propext ⟨λx=>⟨by omega,x.2⟩,λx=>⟨by omega,x.2⟩⟩
theorem TF(s:ByteArray)(w:World)(hs:s.size<=100000)(h0:0<s.size):
 Calls prog 126 #[.string s] w λe w'=>e=.returned (.int .i64 (Sc.sQ ((Sc.fw s).drop 1)+1:Nat))/\w'=w:=by
 obtain⟨R,hR⟩:=fq (Sc.sQ ((Sc.fw s).drop 1)+1);rw[hR];have HR:=eZ hR;clear hR
 go_enter func126,ntmps126
 go_wp2
 go_loopg [3] s.size (λgf i wr=>∃(p:Nat),i=.int .i64 p/\wr=w/\1<=p/\p<=s.size+1/\s.size<=p+gf/\Hid (R=Sc.sQ ((Sc.fw s).drop p)+min p s.size))
 case atStart=>exact⟨1,rfl,rfl,fB _,by omega,by omega,eZ (by rw[<-HR.out,zG (by omega)])⟩
 case round=>
  obtain⟨p,rfl,rfl,hp1,hp2,hf,HE⟩:=hrel;by_cases hlt:p<s.size
  ·obtain⟨g',rfl⟩:∃g',gk=g'+1:=⟨gk-1,by omega⟩
   have hi:(p:Int)<(s.size:Int):=by omega
   have hA:=TD s p hlt;have hm:min p s.size=p:=zG (by omega);have hP:=zi (s.extract p s.size) ⟨#[39,39]⟩ wr;rw[show((⟨#[39,39]⟩:ByteArray).data.toList.isPrefixOf (s.extract p s.size).data.toList)=_ from X6 s p hlt]at hP;have hE:=HE.out;rw[hA,hm]at hE;by_cases c:p+1<s.size/\(s.get! p).toNat=39/\(s.get! (p+1)).toNat=39
   ·rw[lI c]at hP;rw[eY c.2.1,eY ⟨c.1,c.2.2⟩]at hE;have HP:=eZ hP;have HE2:=eZ (show R=Sc.sQ ((Sc.fw s).drop (p+2))+min (p+2) s.size from by rw[hE,zG (by omega)];omega);have hq:p+2<=s.size+1:=by omega
    clear hA hP hE HE c hm;go_wp2_with fail
    refine HP.out.mono ?_;rintro e w1 ⟨rfl,rfl⟩;go_wp2_with fail
    go_roundg g'
    case measure=>omega
    case rel=>exact⟨p+2,by go_num,rfl,by omega,hq,by omega,HE2⟩
   rw[jE c]at hP;have HP:=eZ hP;have hge:=Sc.lL s p hlt;by_cases d:(s.get! p).toNat=39
   ·rw[eY d,eX (λx=>c ⟨x.1,d,x.2⟩)]at hE;have g:(((s[p]'hlt).toNat:Int)==39)=true:=by rw[hge,d];rfl
    have HE2:=eZ hE;clear hA hP hE HE c hm d hge;go_wp2_with fail
    refine HP.out.mono ?_;rintro e w1 ⟨rfl,rfl⟩;go_wp2_with fail
    go_ret;exact⟨by rw[HE2.out];simp;omega,rfl⟩
   rw[eX d]at hE;have g:(((s[p]'hlt).toNat:Int)==39)=false:=iW.2 (by rw[hge];omega);have HE2:=eZ (show R=Sc.sQ ((Sc.fw s).drop (p+1))+min (p+1) s.size from by rw[hE,zG (by omega)];omega);clear hA hP hE HE c hm d hge;go_wp2_with fail
   refine HP.out.mono ?_;rintro e w1 ⟨rfl,rfl⟩;go_wp2_with fail
   go_roundg g'
   case measure=>omega
   case rel=>exact⟨p+1,by go_num,rfl,by omega,by omega,by omega,HE2⟩
  have hi:¬((p:Int)<(s.size:Int)):=by omega
  have hE:=HE.out;rw[P8 s p (by omega),Vx (by omega),kU]at hE;have HE2:=eZ hE;clear hE HE;go_wp2_with fail
  go_ret;exact⟨by rw[HE2.out];rfl,rfl⟩
theorem TG(s:ByteArray)(w:World)(hs:s.size<=100000)(h0:0<s.size):
 Calls prog 127 #[.string s] w λe w'=>e=.returned (.int .i64 (Sc.sS ((Sc.fw s).drop 1)+1:Nat))/\w'=w:=by
 obtain⟨R,hR⟩:=fq (Sc.sS ((Sc.fw s).drop 1)+1);rw[hR];have HR:=eZ hR;clear hR
 go_enter func127,ntmps127
 go_wp2
 go_loopg [3] s.size (λgf i wr=>∃(p:Nat),i=.int .i64 p/\wr=w/\1<=p/\p<=s.size+1/\s.size<=p+gf/\Hid (R=Sc.sS ((Sc.fw s).drop p)+min p s.size))
 case atStart=>exact⟨1,rfl,rfl,fB _,by omega,by omega,eZ (by rw[<-HR.out,zG (by omega)])⟩
 case round=>
  obtain⟨p,rfl,rfl,hp1,hp2,hf,HE⟩:=hrel;by_cases hlt:p<s.size
  ·obtain⟨g',rfl⟩:∃g',gk=g'+1:=⟨gk-1,by omega⟩
   have hi:(p:Int)<(s.size:Int):=by omega
   have hA:=TE s p hlt;have hm:min p s.size=p:=zG (by omega);have hE:=HE.out;have hge:=Sc.lL s p hlt;rw[hA,hm]at hE;by_cases c:(s.get! p).toNat=34
   ·rw[eY c]at hE;have g:(((s[p]'hlt).toNat:Int)==92)=false:=by rw[hge,c];rfl
    have g2:(((s[p]'hlt).toNat:Int)==34)=true:=by rw[hge,c];rfl
    have HE2:=eZ hE;clear hA hE HE c hm hge;go_wp2_with fail
    go_ret;exact⟨by rw[HE2.out];simp;omega,rfl⟩
   rw[eX c]at hE;have g2:(((s[p]'hlt).toNat:Int)==34)=false:=iW.2 (by rw[hge];omega);by_cases d:(s.get! p).toNat=92
   ·rw[eY d]at hE;have g:(((s[p]'hlt).toNat:Int)==92)=true:=by rw[hge,d];rfl
    have HE2:=eZ (show R=Sc.sS ((Sc.fw s).drop (p+2))+min (p+2) s.size from by
     rw[hE];by_cases q:p+1<s.size
     ·rw[eY q,zG (by omega)];omega
     rw[eX q,Vx (by omega),FZ s _ (by omega)];omega)
    clear hA hE HE c hm d hge;go_wp2_with fail
    go_roundg g'
    case measure=>omega
    case rel=>exact⟨p+2,by go_num,rfl,by omega,by omega,by omega,HE2⟩
   rw[eX d]at hE;have g:(((s[p]'hlt).toNat:Int)==92)=false:=iW.2 (by rw[hge];omega);have HE2:=eZ (show R=Sc.sS ((Sc.fw s).drop (p+1))+min (p+1) s.size from by rw[hE,zG (by omega)];omega);clear hA hE HE c hm d hge;go_wp2_with fail
   go_roundg g'
   case measure=>omega
   case rel=>exact⟨p+1,by go_num,rfl,by omega,by omega,by omega,HE2⟩
  have hi:¬((p:Int)<(s.size:Int)):=by omega
  have hE:=HE.out;rw[FZ s p (by omega),Vx (by omega),kU]at hE;have HE2:=eZ hE;clear hE HE;go_wp2_with fail
  go_ret;exact⟨by rw[HE2.out];rfl,rfl⟩
theorem TH(s:ByteArray)(w:World)(hs:s.size<=100000)(h0:0<s.size):
 Calls prog 89 #[.string s] w λe w'=>e=.returned (.tuple #[.int .i64 (kI (Sc.quoted (Sc.fw s)).1),.int .i64 (Sc.quoted (Sc.fw s)).2])/\w'=w:=by
 have h1:=TF s w hs h0;have h2:=TG s w hs h0;have hb:=U0 s 0 h0;rw[<-Sc.lz]at h1 h2;rw[qW s h0,Sc.quoted];by_cases c1:(s[0]'h0).toNat=39
 ·rw[eY c1];have g1:(((s[0]'h0).toNat:Int)==39)=true:=by rw[c1];rfl
  have H1:=eZ h1;clear h1 h2 c1;generalize Sc.sQ (Sc.fw (s.extract 1 s.size))=n at*
  go_enter func89,ntmps89
  go_wp2_with fail
  refine H1.out.mono ?_;rintro e w1 ⟨rfl,rfl⟩;go_wp2_with fail
  go_ret2;exact⟨rfl,rfl⟩
 rw[eX c1];have g1:(((s[0]'h0).toNat:Int)==39)=false:=iW.2 (by omega);by_cases c2:(s[0]'h0).toNat=34
 ·rw[eY c2];have g2:(((s[0]'h0).toNat:Int)==34)=true:=by rw[c2];rfl
  have H2:=eZ h2;clear h1 h2 c1 c2;generalize Sc.sS (Sc.fw (s.extract 1 s.size))=n at*
  go_enter func89,ntmps89
  go_wp2_with fail
  refine H2.out.mono ?_;rintro e w1 ⟨rfl,rfl⟩;go_wp2_with fail
  go_ret2;exact⟨rfl,rfl⟩
 rw[eX c2];have g2:(((s[0]'h0).toNat:Int)==34)=false:=iW.2 (by omega);clear h1 h2 c1 c2
 go_enter func89,ntmps89
 go_wp2_with fail
 go_ret2;exact⟨rfl,rfl⟩
end
section
open Go.RowKit
open Sg
open Sq
theorem Wx(op:Bool)(s:ByteArray)(h:0<s.size):Sc.key op (Sc.fw s)=(Sc.part (Sc.fw s)||(op&&Sc.EZ (s[0]'h).toNat)):=by
 rw[qW s h];rfl
theorem F3(b op:Nat)(s:ByteArray)(w:World)(hs:s.size<=maxLen)(c5:w.cell? ⟨b,5,none⟩=some (.int .i64 op)):
 Calls prog 123 #[.pointer (some ⟨b,0,none⟩),.string s] w λe w'=>e=.returned (.bool (Sc.key (decide (0<op)) (Sc.fw s)))/\w'=w:=by
 have hP:=uM s w hs;by_cases h0:0<s.size
 ·rw[Wx _ s h0];have hF:=UN (s[0]'h0).toNat w;cases hp:Sc.part (Sc.fw s)with
  |true=>
   rw[hp]at hP;have HP:=eZ hP;clear hP hp hF
   go_enter func123,ntmps123
   go_wp2_with fail
   refine HP.out.mono ?_;rintro e w1 ⟨rfl,rfl⟩;go_wp2_with fail
   go_ret;exact⟨rfl,rfl⟩
  |false=>
   rw[hp]at hP;have HP:=eZ hP;by_cases ho:0<op
   ·have aa:(0:Int)<(op:Int):=by omega
    rw[lI ho];have HF:=eZ hF;generalize Sc.EZ (s[0]'h0).toNat=F at*;clear hP hp hF
    go_enter func123,ntmps123
    go_wp2_with fail
    refine HP.out.mono ?_;rintro e w1 ⟨rfl,rfl⟩;go_wp2_with fail
    refine HF.out.mono ?_;rintro e w1 ⟨rfl,rfl⟩;go_wp2_with fail
    go_ret;exact⟨rfl,rfl⟩
   obtain rfl:op=0:=by omega
   clear hP hp hF ho
   go_enter func123,ntmps123
   go_wp2_with fail
   refine HP.out.mono ?_;rintro e w1 ⟨rfl,rfl⟩;go_wp2_with fail
   go_ret;exact⟨rfl,rfl⟩
 obtain rfl:=wM s (by omega);rw[show Sc.part (Sc.fw ⟨#[]⟩)=true from rfl]at hP;have HP:=eZ hP;clear hP h0
 go_enter func123,ntmps123
 go_wp2_with fail
 refine HP.out.mono ?_;rintro e w1 ⟨rfl,rfl⟩;go_wp2_with fail
 go_ret;exact⟨rfl,rfl⟩
theorem P9(b:Nat)(v:Value)(l:List Tk)(x:Tk)(w:World)(hl:(l++[x]).length<=100000)(c1:w.cell? ⟨b,1,none⟩=some v)(hR:Reads iU w v (l++[x])):
 Calls prog 86 #[.pointer (some ⟨b,0,none⟩)] w λe w'=>e=.returned (.bool (x.1==2||x.1==3))/\Below w.heap.size w w':=by
 obtain⟨a,cap,rfl⟩:=hR.shape;obtain⟨tb,off,rfl,d0,d1,d2⟩:=iZ hR l.length x (by simp);obtain⟨n,hn⟩:=fq (l.length);have hN:(l++[x]).length=n+1:=by simp[hn]
 rw[hn]at d0 d1 d2;rw[hN]at c1 hl;have e1:((n+1:Nat):Int)-1=(n:Int):=by omega
 have i1:(0:Int)<=(n:Int):=by omega
 have i2:(n:Int)<((n+1:Nat):Int):=by omega
 obtain⟨k,f,t⟩:=x;simp only at d0 d1 d2⊢;have hk:((k==2||k==3):Bool)=(((k:Int)==2)||((k:Int)==3)):=by
  rw[nP];simp;omega
 rw[hk];clear hR hn hN d1 d2 hk
 go_enter func86,ntmps86
 go_wp2_with fail
 go_big_quiet (fail)
 have hb:=Ie (fI w.heap.size w) nq;cases g2:((k:Int)==2)
 all_goals
  go_wp2_with fail
  go_ret;exact⟨by rw[g2];rfl,hb⟩
end
section
open Go.RowKit
open Sg
open Sq
def Mem(w:World)(b:Nat)(s:ByteArray)(v:Value)(at' row en op base least:Int)(dash:Bool):Prop:=
 w.heap[b]?=some (.cells #[.string s,v,.int .i64 at',.int .i64 row,.int .i64 en,.int .i64 op,.int .i64 base,.int .i64 least,.bool dash] 67 (0,0))
variable {w w':World}{b:Nat}{s:ByteArray}{v:Value}{at' row en op base least:Int}{dash:Bool}
theorem Mem.c(h:Mem w b s v at' row en op base least dash):w.cell? ⟨b,0,none⟩=some (.string s)/\w.cell? ⟨b,1,none⟩=some v/\w.cell? ⟨b,2,none⟩=some (.int .i64 at')/\w.cell? ⟨b,3,none⟩=some (.int .i64 row)/\w.cell? ⟨b,4,none⟩=some (.int .i64 en)/\w.cell? ⟨b,5,none⟩=some (.int .i64 op)/\w.cell? ⟨b,6,none⟩=some (.int .i64 base)/\w.cell? ⟨b,7,none⟩=some (.int .i64 least)/\w.cell? ⟨b,8,none⟩=some (.bool dash):=
 ⟨(Dh h 0).trans rfl,(Dh h 1).trans rfl,(Dh h 2).trans rfl,(Dh h 3).trans rfl,(Dh h 4).trans rfl,(Dh h 5).trans rfl,(Dh h 6).trans rfl,(Dh h 7).trans rfl,(Dh h 8).trans rfl⟩
theorem Mem.f(h:Mem w b s v at' row en op base least dash)(o:Nat):w.frozen? ⟨b,o,none⟩=false:=nH h o
theorem Mem.lt(h:Mem w b s v at' row en op base least dash):b<w.heap.size:=(xI.1 h).1
theorem Mem.below(h:Mem w b s v at' row en op base least dash)(hb:Below w.heap.size w w'):Mem w' b s v at' row en op base least dash:=(hb.block b h.lt).trans h
theorem Mem.grown{r:Option Nat}(h:Mem w b s v at' row en op base least dash)(hg:w.grownBy w' r)(hne:r≠some b):Mem w' b s v at' row en op base least dash:=(hg.block b h.lt (λe=>hne e.symm)).trans h
theorem Mem.set1(h:Mem w b s v at' row en op base least dash)(u:Value):Mem (w.setCell ⟨b,1,none⟩ u) b s u at' row en op base least dash:=qb h u
theorem Mem.set2(h:Mem w b s v at' row en op base least dash)(u:Int):Mem (w.setCell ⟨b,2,none⟩ (.int .i64 u)) b s v u row en op base least dash:=qb h _
theorem Mem.YO(h:Mem w b s v at' row en op base least dash)(u:Int):Mem (w.setCell ⟨b,3,none⟩ (.int .i64 u)) b s v at' u en op base least dash:=qb h _
theorem Mem.YP(h:Mem w b s v at' row en op base least dash)(u:Int):Mem (w.setCell ⟨b,4,none⟩ (.int .i64 u)) b s v at' row u op base least dash:=qb h _
theorem Mem.KU(h:Mem w b s v at' row en op base least dash)(u:Int):Mem (w.setCell ⟨b,5,none⟩ (.int .i64 u)) b s v at' row en u base least dash:=qb h _
theorem Mem.VK(h:Mem w b s v at' row en op base least dash)(u:Int):Mem (w.setCell ⟨b,6,none⟩ (.int .i64 u)) b s v at' row en op u least dash:=qb h _
theorem Mem.Si(h:Mem w b s v at' row en op base least dash)(u:Int):Mem (w.setCell ⟨b,7,none⟩ (.int .i64 u)) b s v at' row en op base u dash:=qb h _
theorem Mem.Nf(h:Mem w b s v at' row en op base least dash)(u:Bool):Mem (w.setCell ⟨b,8,none⟩ (.bool u)) b s v at' row en op base least u:=qb h _
theorem Qa(k:Nat)(w:World):
 Calls prog 84 #[.int .i64 k] w λe w'=>e=.returned (.bool (Sc.counts k))/\w=w':=by
 go_enter func84,ntmps84
 go_wp2;all_goals
  go_ret;refine⟨?_,rfl⟩;refine congrArg (λb=>Ending.returned (.bool b)) ?_;rw[nP];simp[Sc.counts]at*;try omega
theorem TI(k:Nat)(w:World):
 Calls prog 85 #[.int .i64 k] w λe w'=>e=.returned (.bool (Sc.leaves k))/\w=w':=by
 go_enter func85,ntmps85
 go_wp2;all_goals
  go_ret;refine⟨?_,rfl⟩;refine congrArg (λb=>Ending.returned (.bool b)) ?_;rw[nP];simp[Sc.leaves]at*;try omega
def YQ(b:Nat)(s:ByteArray)(T C k:Nat)(row op:Nat)(en base least:Int)(dash:Bool)(l':List Tk)(w w':World):Prop:=
 ∃(v2:Value)(ag ae aa:Int)(af:Bool),Mem w' b s v2 T row en ag ae aa af/\Row w' b v2 l'/\Below b w w'/\ag=Sc.opens op k/\(aa=if k=18 then(if base=-1 then(C:Int)else base+1)else least)/\(ae=if base=-1/\Sc.counts k=true then(C:Int)else base)/\af=(dash&&Sc.leaves k)
theorem Nt(k n T C:Nat)(at' row op:Nat)(en base least:Int)(dash:Bool)(b:Nat)(s:ByteArray)(v:Value)(l:List Tk)(w:World)(hM:Mem w b s v at' row en op base least dash)(hO:Row w b v l)(hT:at'+n=T)(hC:row+C=at')(ha:T<=100000)(hl:l.length<=100000)(hop:op<=100000)(hb1:-1<=base)(hb2:base<=100000):
 Calls prog 55 #[.pointer (some ⟨b,0,none⟩),.int .i64 k,.int .i64 n] w λe w'=>e=.returned (.tuple #[])/\YQ b s T C k row op en base least dash (l++[(k,at',T)]) w w':=by
 obtain⟨c0,c1,c2,c3,c4,c5,c6,c7,c8⟩:=hM.c;have aQ:((at':Int)-(row:Int))=(C:Int):=by omega
 have hne:v.ownBlock≠some b:=λe=>by have:=(hO.lt b e).1;omega
 obtain⟨HM,HO,az⟩:=jF hM hO (nX hM.lt);clear hM hO
 go_enter func55,ntmps55
 go_wp2_with fail
 go_big_quiet (fail)
 have hbq:=Ie (fI w.heap.size w) nq;have aF:=eZ (HM.out.below hbq);have ai:=eZ (show Row (w.drewN nq) b v l from fQ HO.out hbq);have aj:=eZ hbq;clear hbq c0 c1 c2 c3 c4 c5 c6 c7 c8 HM HO;obtain⟨W,hW⟩:=fq (w.drewN nq);rw[hW]at aF ai aj⊢;clear hW;have hM1:=aF.out;have hlt:=hM1.lt;obtain⟨c0,c1,c2,c3,c4,c5,c6,c7,c8⟩:=hM1.c;have f1:=hM1.f 1;have hne0:b≠W.heap.size:=by omega
 have e1:(at':Int)+(n:Int)=(T:Int):=by omega
 have w1:IntKind.i64.wrap (T:Int)=(T:Int):=YL _ (by omega);have ak:=eZ (Tc W.drew (k,at',T) 45);have aA:=hM1.below ((fI W.heap.size W).drew.alloc (fB _) (.cells #[.int .i64 k,.int .i64 at',.int .i64 (T:Nat)] 45));have aG:=eZ aA;have aH:=eZ ((fI W.heap.size W).drew.alloc (fB _) (.cells #[.int .i64 k,.int .i64 at',.int .i64 (T:Nat)] 45));have d1:W.drew.cell? ⟨b,1,none⟩=some v:=c1;have d2:W.drew.cell? ⟨b,2,none⟩=some (.int .i64 at'):=c2;have x1:=aA.c.2.1;have x2:=aA.c.2.2.1;have x3:=(hM1.below (fo W (.cells #[.int .i64 k,.int .i64 at',.int .i64 (T:Nat)] 45))).c.2.1;have hl1:l.length+1<=maxLen:=by unfold maxLen;omega
 have hl2:(l.length+1)*24<=140737488355328:=by omega
 have hl3:b+1<=(W.drew.alloc (.cells #[.int .i64 k,.int .i64 at',.int .i64 (T:Nat)] 45)).heap.size:=by simp;omega
 obtain⟨aI,HL2,av,aJ,aK⟩:=sP hl1 hl2 hl3 hne hlt;have aL:=eZ (show Row (W.drew.alloc (.cells #[.int .i64 k,.int .i64 at',.int .i64 (T:Nat)] 45)) b v l from World.ownsRow.alloc (w:=W.drew) ai.out _);clear hM1 hlt aA hl1 hl2 hl3 hne hC hT hl;clear c0 c1 c2 c3 c4 c5 c6 c7 c8;go_upto_region 2 with fail
 go_cut [] (λwx=>∃v2,Mem wx b s v2 at' row en op base least dash/\Row wx b v2 (l++[((k,at',T):Tk)])/\Below b W wx)
 case first=>
  go_wp2_with fail
  refine YM (S:=λwx=>wx.cell? ⟨b,2,none⟩=some (.int .i64 at')) (by kernel_rfl) d2 (λhH=>?_);refine gY 0 (.pointer (some ⟨b,0,none⟩)) rfl (by kernel_rfl) rfl fC (λW hW=>by go_simp) hH ?_;refine gY 1 (.pointer (some ⟨b,0,none⟩)) rfl (by kernel_rfl) rfl fC (λW hW=>by go_simp) hH ?_;refine gY 2 (.pointer (some ⟨b,0,none⟩)) rfl (by kernel_rfl) rfl fC (λW hW=>by go_simp) hH ?_;refine gY 3 (.pointer (some ⟨b,1,none⟩)) rfl (by kernel_rfl) rfl fC (λW hW=>by go_simp) hH ?_;refine gY 5 (.int .i64 k) rfl (by kernel_rfl) rfl fC (λW hW=>by go_simp) hH ?_;refine gY 6 (.pointer (some ⟨b,0,none⟩)) rfl (by kernel_rfl) rfl fC (λW hW=>by go_simp) hH ?_;refine gY 7 (.pointer (some ⟨b,0,none⟩)) rfl (by kernel_rfl) rfl fC (λW hW=>by go_simp) hH ?_;refine gY 8 (.pointer (some ⟨b,2,none⟩)) rfl (by kernel_rfl) rfl fC (λW hW=>by go_simp) hH ?_;refine gY 9 (.int .i64 at') rfl (by kernel_rfl) rfl fC (λW hW=>by go_simp) hH ?_;refine gY 10 (.pointer (some ⟨b,0,none⟩)) rfl (by kernel_rfl) rfl fC (λW hW=>by go_simp) hH ?_;refine gY 11 (.pointer (some ⟨b,0,none⟩)) rfl (by kernel_rfl) rfl fC (λW hW=>by go_simp) hH ?_;refine gY 12 (.pointer (some ⟨b,2,none⟩)) rfl (by kernel_rfl) rfl fC (λW hW=>by go_simp) hH ?_;refine gY 13 (.int .i64 at') rfl (by kernel_rfl) rfl fC (λW hW=>by go_simp) hH ?_;refine gY 14 (.int .i64 n) rfl (by kernel_rfl) rfl fC (λW hW=>by go_simp) hH ?_;refine gY 15 (.int .i64 (T:Nat)) rfl (by kernel_rfl) rfl fC (λW hW=>by go_simp) hH ?_;refine gY 16 (.agg #[.int .i64 k,.int .i64 at',.int .i64 (T:Nat)]) rfl (by kernel_rfl) rfl fC (λW hW=>by go_simp) hH ?_;refine Sd (rs:=[4,17]) (by kernel_rfl) (by simp) ?_;refine H7 (o:=⟨_,_,_,_,_,_⟩) rfl (λK hK=>?_) (H7 (o:=⟨_,_,_,_,_,_⟩) rfl (λK hK=>?_) (Se))
  ·skip
   go_simp;refine hK.out _ _ (d2) (λhH2=>?_);clear hK K;try simp only[Act.put,fK,fP,fO]
   refine vB 17 (by kernel_rfl) rfl λK hK=>?_
   go_simp;refine hK.out _ _ (x2) (λhH2=>?_);clear hK K;try simp only[Act.put,fK,fP,fO]
   refine vB 18 (by kernel_rfl) rfl λK hK=>?_
   refine kP Q9 rfl (.tmp 20) (.tmp 33) rfl (b+1) v l rfl aL.out W.heap.size 1 [((k,at',T):Tk)] rfl rfl ak.out aI.out HL2.out av.out ?_;intro v2 w2 hown2 hg2;obtain⟨a2,cap2,rfl⟩:=(Reads.fJ (E:=iU) hown2).shape;have ae:=eZ (aG.out.grown hg2 aJ.out);have y1:=ae.out.c.2.1;have y2:=ae.out.c.2.2.1;have y3:=ae.out.f 1;obtain⟨af,aM⟩:=fT hown2 hg2;clear hown2 hg2;refine hK.out _ _ (y2) (λhH2=>?_);clear hK K;try simp only[Act.put,fK,fP,fO]
   refine gY 19 (.pointer (some ⟨b,0,none⟩)) rfl (by kernel_rfl) rfl fC (λW hW=>by go_simp) hH2 ?_;refine gY 20 (.pointer (some ⟨b,1,none⟩)) rfl (by kernel_rfl) rfl fC (λW hW=>by go_simp) hH2 ?_;refine vB 21 (by kernel_rfl) rfl λK hK=>?_
   go_simp;refine hK.out _ _ (tQ (o:=1) (by decide) y2) (λhH2=>?_);clear hK K;try simp only[Act.put,fK,fP,fO]
   refine XL (by kernel_rfl) ?_ _;go_wp2_with fail
   go_meet
   exact⟨_,ae.out.set1 _,(by rw[show l.length+1=(l++[((k,at',T):Tk)]).length from by simp];exact iw af.out 1 _),iy (Below.grown (aH.out.mono (nX aK.out)) aM.out (RE av.out) (λq hq=>RE (ai.out.lt q hq).1)) (fB b) 1 _⟩
  skip
  go_simp;refine hK.out _ _ (x2) (λhH2=>?_);clear hK K;try simp only[Act.put,fK,fP,fO]
  refine vB 4 (by kernel_rfl) rfl λK hK=>?_
  go_simp;refine hK.out _ _ (x2) (λhH2=>?_);clear hK K;try simp only[Act.put,fK,fP,fO]
  refine vB 18 (by kernel_rfl) rfl λK hK=>?_
  refine kP Q9 rfl (.tmp 20) (.tmp 33) rfl (b+1) v l rfl aL.out W.heap.size 1 [((k,at',T):Tk)] rfl rfl ak.out aI.out HL2.out av.out ?_;intro v2 w2 hown2 hg2;obtain⟨a2,cap2,rfl⟩:=(Reads.fJ (E:=iU) hown2).shape;have ae:=eZ (aG.out.grown hg2 aJ.out);have y1:=ae.out.c.2.1;have y2:=ae.out.c.2.2.1;have y3:=ae.out.f 1;obtain⟨af,aM⟩:=fT hown2 hg2;clear hown2 hg2;refine hK.out _ _ (y2) (λhH2=>?_);clear hK K;try simp only[Act.put,fK,fP,fO]
  refine gY 19 (.pointer (some ⟨b,0,none⟩)) rfl (by kernel_rfl) rfl fC (λW hW=>by go_simp) hH2 ?_;refine gY 20 (.pointer (some ⟨b,1,none⟩)) rfl (by kernel_rfl) rfl fC (λW hW=>by go_simp) hH2 ?_;refine vB 21 (by kernel_rfl) rfl λK hK=>?_
  go_simp;refine hK.out _ _ (tQ (o:=1) (by decide) y2) (λhH2=>?_);clear hK K;try simp only[Act.put,fK,fP,fO]
  refine XL (by kernel_rfl) ?_ _;go_wp2_with fail
  go_meet
  exact⟨_,ae.out.set1 _,(by rw[show l.length+1=(l++[((k,at',T):Tk)]).length from by simp];exact iw af.out 1 _),iy (Below.grown (aH.out.mono (nX aK.out)) aM.out (RE av.out) (λq hq=>RE (ai.out.lt q hq).1)) (fB b) 1 _⟩
 case rest=>
  obtain⟨v2,hM2,hO2,hB2⟩:=hcut;obtain⟨ae,af,HB2⟩:=jF hM2 hO2 hB2;obtain⟨c0,c1,c2,c3,c4,c5,c6,c7,c8⟩:=hM2.c;have f2:=hM2.f 2;have f5:=hM2.f 5;have f7:=hM2.f 7;have aR:(0:Int)<=(op:Int):=by omega
  have aS:(op:Int)<=100000:=by omega
  clear hM2 hO2 hB2 aF ai ak aG aH aI HL2 av aJ aK aL d1 d2 x1 x2 x3 w1 hne0 f1 c0 c1 c3 c4 c8
  go_upto_block 0 with fail
  go_cut [] (λwx=>∃ag aa:Int,Mem wx b s v2 T row en ag base aa dash/\Row wx b v2 (l++[((k,at',T):Tk)])/\Below b W wx/\Hid (ag=Sc.opens op k/\aa=if k=18 then(if base=-1 then(C:Int)else base+1)else least))
  case first=>
   by_cases k8:k=8
   ·subst k8;go_wp2_with fail
    go_meet
    exact⟨_,_,(ae.out.set2 T).KU _,iw (iw af.out 2 _) 5 _,iy (iy HB2.out (fB b) 2 _) (fB b) 5 _,eZ (⟨by simp[Sc.opens],rfl⟩)⟩
   by_cases k9:k=9
   ·subst k9;go_wp2_with fail
    go_meet
    exact⟨_,_,(ae.out.set2 T).KU _,iw (iw af.out 2 _) 5 _,iy (iy HB2.out (fB b) 2 _) (fB b) 5 _,eZ (⟨by simp[Sc.opens],rfl⟩)⟩
   by_cases k10:k=10
   ·subst k10;have hmx:max ((op:Int)-1) 0=((op-1:Nat):Int):=by omega
    go_wp2_with fail
    go_meet
    exact⟨_,_,(ae.out.set2 T).KU _,iw (iw af.out 2 _) 5 _,iy (iy HB2.out (fB b) 2 _) (fB b) 5 _,eZ (⟨by simp[Sc.opens],rfl⟩)⟩
   by_cases k11:k=11
   ·subst k11;have hmx:max ((op:Int)-1) 0=((op-1:Nat):Int):=by omega
    go_wp2_with fail
    go_meet
    exact⟨_,_,(ae.out.set2 T).KU _,iw (iw af.out 2 _) 5 _,iy (iy HB2.out (fB b) 2 _) (fB b) 5 _,eZ (⟨by simp[Sc.opens],rfl⟩)⟩
   by_cases k20:k=20
   ·subst k20;go_wp2_with fail
    go_meet
    exact⟨_,_,(ae.out.set2 T).KU _,iw (iw af.out 2 _) 5 _,iy (iy HB2.out (fB b) 2 _) (fB b) 5 _,eZ (⟨by simp[Sc.opens],rfl⟩)⟩
   by_cases k21:k=21
   ·subst k21;go_wp2_with fail
    go_meet
    exact⟨_,_,(ae.out.set2 T).KU _,iw (iw af.out 2 _) 5 _,iy (iy HB2.out (fB b) 2 _) (fB b) 5 _,eZ (⟨by simp[Sc.opens],rfl⟩)⟩
   by_cases k18:k=18
   ·subst k18;by_cases hbs:base=-1
    ·subst hbs;go_wp2_with fail
     go_meet
     exact⟨_,_,((ae.out.set2 T).Si _).Si _,iw (iw (iw af.out 2 _) 7 _) 7 _,iy (iy (iy HB2.out (fB b) 2 _) (fB b) 7 _) (fB b) 7 _,eZ (⟨by simp[Sc.opens],by simp⟩)⟩
    have gb:(base==-1)=false:=iW.2 hbs;go_wp2_with fail
    go_meet
    exact⟨_,_,(ae.out.set2 T).Si _,iw (iw af.out 2 _) 7 _,iy (iy HB2.out (fB b) 2 _) (fB b) 7 _,eZ (⟨by simp[Sc.opens],by simp[hbs]⟩)⟩
   have g8:((k:Int)==8)=false:=iW.2 (by omega);have g9:((k:Int)==9)=false:=iW.2 (by omega);have g10:((k:Int)==10)=false:=iW.2 (by omega);have g11:((k:Int)==11)=false:=iW.2 (by omega);have g20:((k:Int)==20)=false:=iW.2 (by omega);have g21:((k:Int)==21)=false:=iW.2 (by omega);have g18:((k:Int)==18)=false:=iW.2 (by omega);go_wp2_with fail
   go_meet
   exact⟨_,_,(ae.out.set2 T),iw af.out 2 _,iy HB2.out (fB b) 2 _,eZ (⟨by simp[Sc.opens,k8,k9,k10,k11,k20,k21],by simp[k18]⟩)⟩
  case rest=>
   obtain⟨ag,aa,aB,hO3,hB3,HS⟩:=hcut;obtain⟨aN,aO,HB3⟩:=jF aB hO3 hB3;obtain⟨c0,c1,c2,c3,c4,c5,c6,c7,c8⟩:=aB.c;have f6:=aB.f 6;clear aB hO3 hB3 ae af HB2 f2 f5 f7 f6 c0 c1 c2 c3 c4 c5 c7 c8;go_upto_region 17 with fail
   go_cut [101] (λq wx=>q=.bool (base==-1&&Sc.counts k)/\Mem wx b s v2 T row en ag base aa dash/\Row wx b v2 (l++[((k,at',T):Tk)])/\Below b W wx)
   case first=>
    have HC:=eZ (λW'=>Qa k W');cases hbs:(base==-1)with
    |true=>
     go_wp2_with fail
     refine(HC.out _).mono ?_;rintro e w5 ⟨rfl,rfl⟩;go_wp2_with fail
     go_meet
     exact⟨by rw[hbs];rfl,aN.out,aO.out,HB3.out⟩
    |false=>
     go_wp2_with fail
     go_meet
     exact⟨by rw[hbs];rfl,aN.out,aO.out,HB3.out⟩
   case rest=>
    obtain⟨rfl,ax,hO4,hB4⟩:=hcut;obtain⟨ah,aC,aD⟩:=jF ax hO4 hB4;obtain⟨c0,c1,c2,c3,c4,c5,c6,c7,c8⟩:=ax.c;have f6:=ax.f 6;have f8:=ax.f 8;have HL:=eZ (λW'=>TI k W');have aP:((base==-1&&Sc.counts k)=true)↔(base=-1/\Sc.counts k=true):=by simp
    have HQ:=eZ aP;clear ax hO4 hB4 aN aO HB3 aP c0 c1 c2 c3 c4 c5 c7;cases hq:(base==-1&&Sc.counts k)with
    |true=>
     have ay:=eZ (HQ.out.1 hq);cases hd:dash with
     |false=>
      rw[hd]at c8 ah;go_wp2_with fail
      go_end0
      exact⟨rfl,v2,ag,C,aa,false,(ah.out.VK _).Nf _,iw (iw aC.out 6 _) 8 _,aj.out.mE az.out (iy (iy aD.out (fB b) 6 _) (fB b) 8 _),HS.out.1,HS.out.2,by rw[eY ay.out],by rw[hd];rfl⟩
     |true=>
      rw[hd]at c8 ah;go_wp2_with fail
      refine(HL.out _).mono ?_;rintro e w5 ⟨rfl,rfl⟩;go_wp2_with fail
      go_end0
      exact⟨rfl,v2,ag,C,aa,_,(ah.out.VK _).Nf _,iw (iw aC.out 6 _) 8 _,aj.out.mE az.out (iy (iy aD.out (fB b) 6 _) (fB b) 8 _),HS.out.1,HS.out.2,by rw[eY ay.out],by rw[hd];rfl⟩
    |false=>
     have ay:=eZ (λh=>Bool.false_ne_true (hq.symm.trans (HQ.out.2 h)));cases hd:dash with
     |false=>
      rw[hd]at c8 ah;go_wp2_with fail
      go_end0
      exact⟨rfl,v2,ag,base,aa,false,ah.out.Nf _,iw aC.out 8 _,aj.out.mE az.out (iy aD.out (fB b) 8 _),HS.out.1,HS.out.2,by rw[eX ay.out],by rw[hd];rfl⟩
     |true=>
      rw[hd]at c8 ah;go_wp2_with fail
      refine(HL.out _).mono ?_;rintro e w5 ⟨rfl,rfl⟩;go_wp2_with fail
      go_end0
      exact⟨rfl,v2,ag,base,aa,_,ah.out.Nf _,iw aC.out 8 _,aj.out.mE az.out (iy aD.out (fB b) 8 _),HS.out.1,HS.out.2,by rw[eX ay.out],by rw[hd];rfl⟩
end
section
open Go.RowKit
open Sg
theorem TJ(n b0 b1 b2 b3:Nat):zB (min n 4) b0 b1 b2 b3=zB n b0 b1 b2 b3:=by
 have e0:(min n 4=0)=(n=0):=propext ⟨λh=>by omega,λh=>by omega⟩;have e1:(1<min n 4)=(1<n):=propext ⟨λh=>by omega,λh=>by omega⟩;have e2:(2<min n 4)=(2<n):=propext ⟨λh=>by omega,λh=>by omega⟩;have e3:(3<min n 4)=(3<n):=propext ⟨λh=>by omega,λh=>by omega⟩;unfold zB Lib.decodeN;simp only[e0,e1,e2,e3]
theorem J9(s:ByteArray)(i:Nat)(h:s.size<=i):(s.get! i).toNat=0:=by
 rw[<-BD,yI,rC (by rw[<-rE];exact h)];rfl
theorem Qb(s:ByteArray)(m:Nat)(hm:m=min s.size 4):nx (s.extract 0 m) 0=nx s 0:=by
 have hz:(s.extract 0 m).size=m:=by rw[ext_size s 0 m (by omega)];omega
 have hg:∀j,j<=3->((s.extract 0 m).get! j).toNat=(s.get! j).toNat:=by
  intro j hj;by_cases h:j<m
  ·have:=ext_get s 0 m j (by omega);rw[this,kU]
  rw[J9 _ _ (by omega),J9 _ _ (by omega)]
 unfold nx;rw[hz,BC,BC,hg 0 (by omega),hg (0+1) (by omega),hg (0+2) (by omega),hg (0+3) (by omega),hm,TJ]
theorem Wy(s:ByteArray):Sc.bad (Sc.fw s)=decide ((nx s 0).1<0):=by
 have:=Sc.wH s 0;rw[lQ]at this;rw[Sc.bad,<-this]
theorem XO(s:ByteArray)(w:World)(hs:s.size<=100000)(h0:0<s.size)(hT:oO w):
 Calls prog 91 #[.string s] w λe w'=>e=.returned (.bool (Sc.bad (Sc.fw s)))/\Below w.heap.size w w':=by
 rw[Wy];obtain⟨m,hm⟩:∃m,m=min s.size 4:=⟨_,rfl⟩
 have hmin:min (s.size:Int) 4=(m:Int):=by omega
 have hle:(m:Int)<=(s.size:Int):=by omega
 have hm0:(0:Int)<=(m:Int):=by omega
 have hF:=Qb s m hm;have hz:(s.extract 0 m).size=m:=by rw[ext_size s 0 m (by omega)];omega
 obtain⟨F,aa⟩:=fq (s.extract 0 m);rw[aa]at hF hz;rw[<-hF];obtain⟨cap,w1,hcv,hrow,hb⟩:=wV F w (by unfold maxLen;omega);have hN:=Ct F F.size w.heap.size 0 cap w1 rfl (hT.below hb) (λj hj=>by rw[kU];exact hrow.cell j hj);obtain⟨r,hr⟩:=fq ((nx F 0).1);obtain⟨k,hk⟩:=fq ((nx F 0).2);rw[hr,hk]at hN;rw[hr];obtain⟨HN,HB⟩:=fT hN hb;clear hF hz hrow hb hN hr hk hT hm
 go_enter func91,ntmps91
 go_wp2_with fail
 refine HN.out.mono ?_;rintro e w2 ⟨rfl,hb2⟩;go_wp2_with fail
 go_ret;exact⟨rfl,HB.out.trans (hb2.mono HB.out.size)⟩
end
end Go.Proofs.YtmkkdjpebbdikaaGreatDoor

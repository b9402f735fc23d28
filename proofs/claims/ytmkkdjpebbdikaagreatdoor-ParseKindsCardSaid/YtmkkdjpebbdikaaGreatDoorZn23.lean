import Derived.Test.YtmkkdjpebbdikaaGreatDoorZn12
import Derived.Test.YtmkkdjpebbdikaaGreatDoorZn14
set_option linter.all false
set_option maxHeartbeats 16000000
set_option maxRecDepth 100000
namespace Go.Proofs.YtmkkdjpebbdikaaGreatDoor
open Go.RowKit Go.Proofs.Tryz
def VO:=@cell_one_new
section
open Go.RowKit
open Sg
theorem G9(s:ByteArray)(b off cap:Nat)(w:World)(hT:oO w)(hm:s.size<=1000000)(hcap:s.size<=cap)(hcm:cap<=maxLen)(hp:∀j,j<s.size->w.cell? ⟨b,off+j,none⟩=some (.int .u8 (s.get! j).toNat)):
 Calls prog 42 #[.slice (some ⟨b,off,none⟩) s.size cap] w λe w'=>∃v,e=.returned v/\w'.ownsRow w.heap.size 3 1 v (bad s).length (places (bad s))/\Below w.heap.size w w':=by
 obtain⟨i0,hi,hz0,hz1,hz2⟩:=M8 JK;have hcv:=AR b off cap s w hp;have hm2:s.size<=9223372036854775807:=by omega
 simp only[maxLen]at hcm
 go_enter func42,ntmps42
 go_wp2;clear hcv
 go_loopg [3] s.size (λgf v wr=>∃(pos:Nat)(acc:List Nat),wr.ownsRow w.heap.size 3 1 v acc.length (places acc)/\wr.heap[w.heap.size]?=some (.stringIter s pos)/\Below w.heap.size w wr/\acc++mW s gf pos=bad s/\s.size<=pos+gf/\acc.length<=pos/\pos<=s.size)
 case atStart=>exact⟨0,[],H6 _ _ _ _,xM w s 0,(fI _ w).alloc (fB _) _,by simp[bad],by omega,fB _,ic _⟩
 case round=>
  obtain⟨pos,acc,hown,hit,hb,hc,hf,ha,hps⟩:=hrel;by_cases hlt:pos<s.size
  ·obtain⟨g',rfl⟩:∃g',gk=g'+1:=⟨gk-1,by omega⟩
   have hnx:∀ty,(Instr.next (.pointer (some ⟨w.heap.size,0,none⟩)) true ty).run prog wr=_:=λty=>BF wr w.heap.size s pos ty hit hlt
   have hwd:=xS s pos hlt;have hwn:=E6 s pos hlt;have hlo:=XR s pos;have aa:=NP s pos hlt;rw[K4 s g' pos hlt]at hc;rw[<-pK s pos hlt]at hnx;have af:nx (s.extract pos s.size) 0=nx s pos:=by rw[Sm,qI]
   obtain⟨K,hK⟩:=fq ((nx s pos).2);obtain⟨X,hX⟩:=fq ((nx s pos).1);obtain⟨R,hR⟩:=fq ((Utf8.decode s pos).1);rw[hX]at hlo aa hc;rw[hR]at aa;rw[hK,hR]at hnx;rw[hK]at hwd hwn hc;have hit2:=vI wr w.heap.size s pos (pos+K) hit;have hb2:=qK hb (k:=w.heap.size) (fB _) s (pos+K);have hown2:=own_iterAt hown hit (pos+K);obtain⟨W,hWd⟩:=fq (wr.iterAt w.heap.size s (pos+K));rw[hWd]at hnx hit2 hb2 hown2;have ag:oO W:=hT.below hb2
   have hN:=Ct (s.extract pos s.size) (s.size-pos) b (off+pos) (cap-pos) W (Vz s pos) ag (λj hj=>by
    have hc0:=hp (pos+j) (by omega);have hblt:b<w.heap.size:=lt_of_cell hc0
    rw[RO,hb2.cell (p:=⟨b,off+pos+j,none⟩) hblt,<-hc0,RB])
   rw[af,hK,hX]at hN;obtain⟨HN,HC⟩:=fT hN hc;have hpi:(pos:Int)<=(cap:Int):=by omega
   have hpi2:(pos:Int)<(s.size:Int):=by omega
   clear hK hR hX hWd hit hb hc hN ag hown af hp hT;by_cases hr:R=65533
   ·subst hr;clear aa;by_cases hx:X=-1
    ·subst hx;go_wp2_with fail
     refine HN.out.mono ?_;rintro e W1 ⟨rfl,hb3⟩;have hlt2:w.heap.size<W.heap.size:=(xI.1 hit2).1
     have hown3:=fQ hown2 hb3;have hit3:=(hb3.block _ hlt2).trans hit2;have hb4:=hb2.trans (hb3.mono hb2.size);clear hb3 hb2 hit2 hown2;go_wp2_with (at_builtin;go_must (refine RQ _ rfl (.tmp 24) (.tmp 26) 22 rfl w.heap.size 3 i0 (.int .i64 0) 1 8 underlying22 hi hz0 hz1 hz2 rfl (by decide) _ _ _ rfl (hown3.alloc _) ⟨W1.heap.size,0,none⟩ 1 1 [.int .i64 (pos:Int)] rfl rfl (VO _ _ _) (by intro u hu;simp at hu;subst hu;rfl) (by unfold maxLen;omega) (by omega) (by have:=hb4.size;simp;omega) ?_;intro v3 w3 ae hgrow hnil))
     go_roundg g'
     case measure=>omega
     case rel=>
      have hX:=hown3.alloc (.cells #[.int .i64 (pos:Int)] 3);have hc:=HC.out;rw[eY (by omega),<-nQ]at hc;refine⟨pos+K,acc++[pos],?_,?_,?_,hc,by omega,by simp;omega,hwn⟩
      ·rw[iJ,yP];exact ae
      ·have hlt3:w.heap.size<W1.heap.size:=(xI.1 hit3).1
       exact(hgrow.block w.heap.size (by simp;omega) (own_ne_iter hown3 hit3)).trans ((Below.heap_alloc _ _ _ hlt3).trans hit3)
      exact(hb4.alloc hb4.size _).grown hgrow (by have:=hb4.size;simp;omega) (λj hj=>(hX.lt j hj).1)
    have hxb:((X:Int)==-1)=false:=by simp;omega
    go_wp2_with fail
    refine HN.out.mono ?_;rintro e W1 ⟨rfl,hb3⟩;have hlt2:w.heap.size<W.heap.size:=(xI.1 hit2).1
    have hown3:=fQ hown2 hb3;have hit3:=(hb3.block _ hlt2).trans hit2;have hb4:=hb2.trans (hb3.mono hb2.size);clear hb3 hb2 hit2 hown2;go_wp2
    go_roundg g'
    case measure=>omega
    case rel=>
     have hc:=HC.out;rw[eX (by omega)]at hc;exact⟨pos+K,acc,hown3,hit3,hb4,hc,by omega,by omega,hwn⟩
   have ah:=aa hr;have hrb:((R:Int)==65533)=false:=by simp;omega
   clear aa hr;go_wp2
   go_roundg g'
   case measure=>omega
   case rel=>
    have hc:=HC.out;rw[eX (by omega)]at hc;exact⟨pos+K,acc,hown2,hit2,hb2,hc,by omega,by omega,hwn⟩
  have hnx:∀ty,(Instr.next (.pointer (some ⟨w.heap.size,0,none⟩)) true ty).run prog wr=_:=λty=>xN wr w.heap.size s pos ty hit hlt
  rw[Fp s gk pos hlt,mP]at hc;subst hc;go_wp2;go_ret;exact⟨_,rfl,hown,hb⟩
theorem EE(w:World):
 Calls prog 42 #[.slice none 0 0] w λe w'=>∃v,e=.returned v/\w'.ownsRow w.heap.size 3 1 v 0 []/\Below w.heap.size w w':=by
 have hcv:=Fz w 0;have hnx:∀ty,(Instr.next (.pointer (some ⟨w.heap.size,0,none⟩)) true ty).run prog (w.iter ⟨#[]⟩ 0)=_:=λty=>run_next_end w ⟨#[]⟩ 0 ty (by decide)
 go_enter func42,ntmps42
 go_wp2;refine wp_loop_rounds 1 ?_;rw[rounds_succ];go_wp2;go_ret;exact⟨_,rfl,H6 _ _ _ _,(fI _ w).alloc (fB _) _⟩
theorem Qz(s:ByteArray)(v:Value)(w:World)(h:xF w v s)(hT:oO w)(hm:s.size<=1000000):
 Calls prog 42 #[v] w λe w'=>∃v,e=.returned v/\w'.ownsRow w.heap.size 3 1 v (bad s).length (places (bad s))/\Below w.heap.size w w':=by
 rcases h with⟨rfl,h⟩|⟨b,off,cap,rfl,h2,h3,h4⟩
 ·have e:bad s=[]:=Fp s _ _ (by omega);rw[e];exact EE w
 exact G9 s b off cap w hT hm h2 h3 h4
end
namespace Ps
open Ar Fl
open Rw (R E)
def zw(x:Dg):Bool:=(decide (5<=x.code)&&decide (x.code<=8))||x.code==10
def over(g:Nat×Nat)(x:Dg):Bool:=zw x&&(x.f==g.1&&x.t==g.2)
theorem IB:∀(f p:Nat)(l:List Nat),∀x∈mW f p l,x<p+l.length
 |0,p,l=>λx hx=>by cases hx
 |f+1,p,l=>λx hx=>by
  rw[mW]at hx;by_cases hl:l=[]
  ·rw[eY hl]at hx;cases hx
  rw[eX hl]at hx;have hpos:0<l.length:=Ro.2 hl
  have key:∀n,∀x∈mW f (p+n) (l.drop n),x<p+l.length:=by
   intro n x hx;have:=IB f _ _ x hx;rw[iT]at this;by_cases h:n<=l.length
   ·omega
   rw[mI (by omega)]at hx;cases f with
   |zero=>cases hx
   |succ f=>rw[mW,eY rfl]at hx;cases hx
  split at hx
  ·rcases l5.1 hx with rfl|hx
   ·omega
   exact key _ x hx
  exact key _ x hx
theorem NA:∀(f p:Nat)(l:List UInt8),∀x∈(Qo.zC f p l).2.1,x<p+l.length
 |0,_,_=>λx hx=>by cases hx
 |_+1,_,[]=>λx hx=>by cases hx
 |f+1,p,c::r=>λx hx=>by
  rw[Qo.zC]at hx;by_cases q:c=34
  ·rw[eY q]at hx;cases hx
  rw[eX q]at hx;have h1:x∈(Qo.zC f (p+1) r).2.1->x<p+(c::r).length:=by
   intro h;have:=NA f _ _ x h;rw[jh];omega
  by_cases q2:c=92
  ·rw[eY q2]at hx;cases he:Es.esc (c::r)with
   |none=>
    rw[he]at hx;dsimp only at hx;rcases l5.1 hx with rfl|hx
    ·rw[jh];omega
    exact h1 hx
   |some y=>
    obtain⟨v,k⟩:=y;rw[he]at hx;dsimp only at hx;have hk:=Qo.wK he;have:=NA f _ _ x hx;rw[iT]at this;omega
  rw[eX q2]at hx;exact h1 hx
theorem Au(kind:Int)(l:List UInt8):∀x∈(Qo.ma kind l).2.1,x<l.length:=by
 intro x hx;unfold Qo.ma at hx;by_cases h0:l=[]
 ·rw[eY h0]at hx;cases hx
 rw[eX h0]at hx;have hpos:0<l.length:=Ro.2 h0
 split at hx
 ·cases hx
 split at hx
 ·cases hx
 split at hx
 ·have:=NA _ _ _ x hx;rw[iT]at this;omega
 cases hx
theorem Uh(b:List Nat):∀x∈nM b (Sc.tokens b),x.f<=x.t/\x.t<=b.length/\x.code<=4:=by
 intro x hx;have ht:=Rw.kW b;unfold nM at hx;rw[mU,mU]at hx;rcases hx with(hx|hx)|hx
 ·obtain⟨p,hp,rfl⟩:=xJ.1 hx;have:=IB _ _ _ p hp;exact⟨by show p<=p+1;omega,by show p+1<=_;omega,by show 1<=4;omega⟩
 ·obtain⟨r,_,hx⟩:=KL.1 hx;unfold tabs at hx;split at hx
  ·obtain⟨i,_,hx⟩:=List.mem_filterMap.1 hx;split at hx
   ·rename_i hc;injection hx with hx
    subst hx;have hi:=N6 (l:=Sc.tokens b) (i:=r.from'+i) (by omega);have hg:(Sc.tokens b)[r.from'+i]?=some (Sc.tokens b)[r.from'+i]:=mR hi;have h1:=(ht.le _ _ hg).2;have h2:=vk b _ (List.getElem_mem hi);refine⟨?_,?_,by show 2<=4;omega⟩
    ·show mM _ _<=too _ _;unfold mM too;rw[hg];dsimp only;omega
    show too _ _<=_;unfold too;rw[hg];exact h2.2
   cases hx
  cases hx
 obtain⟨k,hk,hx⟩:=KL.1 hx;obtain⟨j,hj⟩:=lh hk;have h1:=(ht.le j k hj).2;have h2:=vk b k hk;unfold je at hx;split at hx
 ·rcases mU.1 hx with hx|hx
  ·split at hx
   ·cases hx
   obtain rfl:=vF.1 hx;exact⟨by show k.2.1<=k.2.2;omega,h2.2,by show 3<=4;omega⟩
  obtain⟨q,hq,rfl⟩:=xJ.1 hx;have:=Au _ _ q hq;unfold part at this;rw[jD,kD,iT]at this;exact⟨by show k.2.1+q<=k.2.1+q+1;omega,by show k.2.1+q+1<=_;omega,by show 4<=4;omega⟩
 cases hx
theorem Mm(d:List Dg)(hd:∀x∈d,5<=x.code/\x.code<=10)(g:Nat×Nat):Fe.told d g=d.countP (over g):=by
 unfold Fe.told;refine List.countP_congr (λx hx=>?_);have:=hd x hx;unfold over zw;by_cases h9:x.code=9
 ·rw[h9];simp
 rw[show(x.code !=9)=true by simpa using h9];have:((decide (5<=x.code)&&decide (x.code<=8))||x.code==10)=true:=by
  simp;omega
 rw[this]
end Ps
section
open Go.RowKit
open Sg
theorem xm(s:ByteArray)(h0:0<s.size):Sc.sZ (Sc.fw (s.extract 1 s.size))=if 1<s.size/\((s.get! 1).toNat=43\/(s.get! 1).toNat=45)then 2 else 1:=by
 rw[Sc.lz];by_cases h1:1<s.size
 ·rw[Sc.drop_cons s 1 h1,Sc.sZ];by_cases a:(s.get! 1).toNat=43
  ·rw[eY a,eY ⟨h1,.inl a⟩]
  rw[eX a];by_cases b:(s.get! 1).toNat=45
  ·rw[eY b,eY ⟨h1,.inr b⟩]
  rw[eX b,eX (λx=>x.2.elim a b)]
 rw[Sc.drop_nil s 1 (by omega),eX (λx=>h1 x.1)];rfl
theorem Eh(s:ByteArray)(k n:Nat)(hk:k<=s.size)(hn:Sc.run Sc.blk (Sc.fw (s.extract k s.size))=n):
 Sc.Dn ((Sc.fw s).drop k)=(decide (((s.extract k s.size).extract n (s.extract k s.size).size).size=0)||(Sc.part (Sc.fw (s.extract k s.size))&&Sc.hsh (Sc.fw ((s.extract k s.size).extract n (s.extract k s.size).size)))):=by
 unfold Sc.Dn;rw[<-Sc.lz,hn,<-Sc.lz (s.extract k s.size) n];congr 1;rw[nP,uD,M4];exact⟨λh=>by rw[<-Sc.gJ,h];rfl,λh=>oC (by rw[Sc.gJ];exact h)⟩
theorem DK(s:ByteArray)(h:0<s.size):Sc.hsh (Sc.fw s)=((s[0]'h).toNat==35):=by
 rw[qW s h];rfl
theorem uk(s:ByteArray)(h0:0<s.size)(k:Nat)(hk:Sc.sZ (Sc.fw (s.extract 1 s.size))=k):Sc.kF (Sc.fw s)=if(s[0]'h0).toNat=124\/(s[0]'h0).toNat=62 then(if Sc.Dn ((Sc.fw s).drop k)=true then k else 0)else 0:=by
 subst hk;have:=qW s h0;rw[this,Sc.kF]
def Yg(x:Nat):Prop:=((x:Int) !=124)=false\/(((x:Int) !=124)=true/\((x:Int) !=62)=false)
theorem xn{x:Nat}(c:x=124\/x=62):Yg x:=by
 rcases c with c|c
 ·left;rw[c];rfl
 right;rw[c];exact⟨rfl,rfl⟩
theorem WR(s:ByteArray)(w:World)(hs:s.size<=100000)(h0:0<s.size)(c:(s[0]'h0).toNat=124\/(s[0]'h0).toNat=62)(h1:s.size=1):
 Calls prog 90 #[.string s] w λe w'=>e=.returned (.int .i64 (Sc.kF (Sc.fw s)))/\Below w.heap.size w w':=by
 have hS:Sc.sZ (Sc.fw (s.extract 1 s.size))=1:=by rw[xm s h0];rw[eX (λx=>by omega)]
 have hres:=uk s h0 1 hS;rw[eY c,Sc.drop_nil s 1 (by omega)]at hres;have hR:Sc.kF (Sc.fw s)=1:=by rw[hres];rfl
 rw[hR];have hI1:¬((1:Int)<(s.size:Int)):=by omega
 have aa:(1:Int)<=(s.size:Int):=by omega
 have HB:=eZ (qU ByteArray.empty w (by decide));have gF:=xn c;clear hS hres hR c;rcases gF with gA|⟨gA,gB⟩
 all_goals
  go_enter func90,ntmps90
  go_wp2_with fail
  refine HB.out.mono ?_;rintro e w1 ⟨rfl,hbw⟩;go_wp2_with fail
  go_ret;exact⟨rfl,hbw⟩
theorem WS(s:ByteArray)(w:World)(hs:s.size<=100000)(h0:0<s.size)(c:(s[0]'h0).toNat=124\/(s[0]'h0).toNat=62)(h1:1<s.size)(a:(s[1]'h1).toNat≠43)(b:(s[1]'h1).toNat≠45):
 Calls prog 90 #[.string s] w λe w'=>e=.returned (.int .i64 (Sc.kF (Sc.fw s)))/\Below w.heap.size w w':=by
 have hm:s.size<=maxLen:=by unfold maxLen;omega
 have hS:Sc.sZ (Sc.fw (s.extract 1 s.size))=1:=by rw[xm s h0];rw[<-Sc.lL s 1 h1,eX (λx=>x.2.elim a b)]
 have hres:=uk s h0 1 hS;rw[eY c]at hres;have hz:=uj s 1 hm;have hrb:=qU (s.extract 1 s.size) w hz;have hle:=Sc.ni Sc.blk (Sc.fw (s.extract 1 s.size));rw[Sc.gJ]at hle;obtain⟨n,hn⟩:=fq (Sc.run Sc.blk (Sc.fw (s.extract 1 s.size)));have hok:=Eh s 1 n (by omega) hn;rw[hn]at hrb hle;obtain⟨rest,hrest⟩:=fq (s.extract 1 s.size);have hrz:rest.size<=100000:=by rw[<-hrest,nV];omega
 rw[hrest]at hrb hle hok hz;have hpt:=λW=>uM rest W hz
 have hlo:(n:Int)<=(rest.size:Int):=by omega
 have ah:(1:Int)<=(s.size:Int):=by omega
 obtain⟨bh,af⟩:=fq (rest.extract n rest.size);rw[af]at hok;have gF:=xn c;have hI1:(1:Int)<(s.size:Int):=by omega
 have ga:(((s[1]'h1).toNat:Int)==43)=false:=iW.2 (by omega);have gb:(((s[1]'h1).toNat:Int)==45)=false:=iW.2 (by omega);clear a b;have HB:=eZ hrb;clear hn hz hS c hle hrb hs hm;by_cases hb0:bh.size=0
 ·obtain rfl:=wM bh hb0;have hR:Sc.kF (Sc.fw s)=1:=by rw[hres,hok];rfl
  rw[hR];clear hres hok hpt hb0 hR;rcases gF with gA|⟨gA,gB⟩
  all_goals
   go_enter func90,ntmps90
   go_wp2_with fail
   refine HB.out.mono ?_;rintro e w1 ⟨rfl,hbw⟩;go_wp2_with fail
   go_ret;exact⟨rfl,hbw⟩
 have hb1:0<bh.size:=by omega
 have hE:bh.toList.isEmpty=false:=by rw[Na];exact zf bh hb1
 have ae:decide (bh.size=0)=false:=jE hb0;have hh:=DK bh hb1;rw[ae,Vg]at hok;clear ae hb0;cases hp:Sc.part (Sc.fw rest)with
 |false=>
  have hR:Sc.kF (Sc.fw s)=0:=by rw[hres,hok,hp];rfl
  rw[hR];have HP:=eZ (λW=>by have:=hpt W;rw[hp]at this;exact this);clear hres hok hpt hp hh hR;rcases gF with gA|⟨gA,gB⟩
  all_goals
   go_enter func90,ntmps90
   go_wp2_with fail
   refine HB.out.mono ?_;rintro e w1 ⟨rfl,hbw⟩;go_wp2_with fail
   refine(HP.out _).mono ?_;rintro e w2 ⟨rfl,rfl⟩;go_wp2_with fail
   go_ret;exact⟨rfl,hbw⟩
 |true=>
  have HP:=eZ (λW=>by have:=hpt W;rw[hp]at this;exact this);by_cases aa:(bh[0]'hb1).toNat=35
  ·have hR:Sc.kF (Sc.fw s)=1:=by rw[hres,hok,hp,hh,aa];rfl
   rw[hR];have ag:(((bh[0]'hb1).toNat:Int)==35)=true:=by rw[aa];rfl
   clear hres hok hpt hp hh hR aa;rcases gF with gA|⟨gA,gB⟩
   all_goals
    go_enter func90,ntmps90
    go_wp2_with fail
    refine HB.out.mono ?_;rintro e w1 ⟨rfl,hbw⟩;go_wp2_with fail
    refine(HP.out _).mono ?_;rintro e w2 ⟨rfl,rfl⟩;go_wp2_with fail
    go_ret;exact⟨rfl,hbw⟩
  have hR:Sc.kF (Sc.fw s)=0:=by
   rw[hres,hok,hp,hh,iW.2 aa];rfl
  rw[hR];have ag:(((bh[0]'hb1).toNat:Int)==35)=false:=iW.2 (by omega);clear hres hok hpt hp hh hR aa;rcases gF with gA|⟨gA,gB⟩
  all_goals
   go_enter func90,ntmps90
   go_wp2_with fail
   refine HB.out.mono ?_;rintro e w1 ⟨rfl,hbw⟩;go_wp2_with fail
   refine(HP.out _).mono ?_;rintro e w2 ⟨rfl,rfl⟩;go_wp2_with fail
   go_ret;exact⟨rfl,hbw⟩
theorem WT(s:ByteArray)(w:World)(hs:s.size<=100000)(h0:0<s.size)(c:(s[0]'h0).toNat=124\/(s[0]'h0).toNat=62)(h1:1<s.size)(a:(s[1]'h1).toNat=43):
 Calls prog 90 #[.string s] w λe w'=>e=.returned (.int .i64 (Sc.kF (Sc.fw s)))/\Below w.heap.size w w':=by
 have hm:s.size<=maxLen:=by unfold maxLen;omega
 have hS:Sc.sZ (Sc.fw (s.extract 1 s.size))=2:=by rw[xm s h0];rw[<-Sc.lL s 1 h1,eY ⟨h1,.inl a⟩]
 have hres:=uk s h0 2 hS;rw[eY c]at hres;have hz:=uj s 2 hm;have hrb:=qU (s.extract 2 s.size) w hz;have hle:=Sc.ni Sc.blk (Sc.fw (s.extract 2 s.size));rw[Sc.gJ]at hle;obtain⟨n,hn⟩:=fq (Sc.run Sc.blk (Sc.fw (s.extract 2 s.size)));have hok:=Eh s 2 n (by omega) hn;rw[hn]at hrb hle;obtain⟨rest,hrest⟩:=fq (s.extract 2 s.size);have hrz:rest.size<=100000:=by rw[<-hrest,nV];omega
 rw[hrest]at hrb hle hok hz;have hpt:=λW=>uM rest W hz
 have hlo:(n:Int)<=(rest.size:Int):=by omega
 have ah:(2:Int)<=(s.size:Int):=by omega
 obtain⟨bh,af⟩:=fq (rest.extract n rest.size);rw[af]at hok;have gF:=xn c;have hI1:(1:Int)<(s.size:Int):=by omega
 have ga:(((s[1]'h1).toNat:Int)==43)=true:=by rw[a];rfl
 clear a;have HB:=eZ hrb;clear hn hz hS c hle hrb hs hm;by_cases hb0:bh.size=0
 ·obtain rfl:=wM bh hb0;have hR:Sc.kF (Sc.fw s)=2:=by rw[hres,hok];rfl
  rw[hR];clear hres hok hpt hb0 hR;rcases gF with gA|⟨gA,gB⟩
  all_goals
   go_enter func90,ntmps90
   go_wp2_with fail
   refine HB.out.mono ?_;rintro e w1 ⟨rfl,hbw⟩;go_wp2_with fail
   go_ret;exact⟨rfl,hbw⟩
 have hb1:0<bh.size:=by omega
 have hE:bh.toList.isEmpty=false:=by rw[Na];exact zf bh hb1
 have ae:decide (bh.size=0)=false:=jE hb0;have hh:=DK bh hb1;rw[ae,Vg]at hok;clear ae hb0;cases hp:Sc.part (Sc.fw rest)with
 |false=>
  have hR:Sc.kF (Sc.fw s)=0:=by rw[hres,hok,hp];rfl
  rw[hR];have HP:=eZ (λW=>by have:=hpt W;rw[hp]at this;exact this);clear hres hok hpt hp hh hR;rcases gF with gA|⟨gA,gB⟩
  all_goals
   go_enter func90,ntmps90
   go_wp2_with fail
   refine HB.out.mono ?_;rintro e w1 ⟨rfl,hbw⟩;go_wp2_with fail
   refine(HP.out _).mono ?_;rintro e w2 ⟨rfl,rfl⟩;go_wp2_with fail
   go_ret;exact⟨rfl,hbw⟩
 |true=>
  have HP:=eZ (λW=>by have:=hpt W;rw[hp]at this;exact this);by_cases aa:(bh[0]'hb1).toNat=35
  ·have hR:Sc.kF (Sc.fw s)=2:=by rw[hres,hok,hp,hh,aa];rfl
   rw[hR];have ag:(((bh[0]'hb1).toNat:Int)==35)=true:=by rw[aa];rfl
   clear hres hok hpt hp hh hR aa;rcases gF with gA|⟨gA,gB⟩
   all_goals
    go_enter func90,ntmps90
    go_wp2_with fail
    refine HB.out.mono ?_;rintro e w1 ⟨rfl,hbw⟩;go_wp2_with fail
    refine(HP.out _).mono ?_;rintro e w2 ⟨rfl,rfl⟩;go_wp2_with fail
    go_ret;exact⟨rfl,hbw⟩
  have hR:Sc.kF (Sc.fw s)=0:=by
   rw[hres,hok,hp,hh,iW.2 aa];rfl
  rw[hR];have ag:(((bh[0]'hb1).toNat:Int)==35)=false:=iW.2 (by omega);clear hres hok hpt hp hh hR aa;rcases gF with gA|⟨gA,gB⟩
  all_goals
   go_enter func90,ntmps90
   go_wp2_with fail
   refine HB.out.mono ?_;rintro e w1 ⟨rfl,hbw⟩;go_wp2_with fail
   refine(HP.out _).mono ?_;rintro e w2 ⟨rfl,rfl⟩;go_wp2_with fail
   go_ret;exact⟨rfl,hbw⟩
theorem WU(s:ByteArray)(w:World)(hs:s.size<=100000)(h0:0<s.size)(c:(s[0]'h0).toNat=124\/(s[0]'h0).toNat=62)(h1:1<s.size)(a:(s[1]'h1).toNat=45):
 Calls prog 90 #[.string s] w λe w'=>e=.returned (.int .i64 (Sc.kF (Sc.fw s)))/\Below w.heap.size w w':=by
 have hm:s.size<=maxLen:=by unfold maxLen;omega
 have hS:Sc.sZ (Sc.fw (s.extract 1 s.size))=2:=by rw[xm s h0];rw[<-Sc.lL s 1 h1,eY ⟨h1,.inr a⟩]
 have hres:=uk s h0 2 hS;rw[eY c]at hres;have hz:=uj s 2 hm;have hrb:=qU (s.extract 2 s.size) w hz;have hle:=Sc.ni Sc.blk (Sc.fw (s.extract 2 s.size));rw[Sc.gJ]at hle;obtain⟨n,hn⟩:=fq (Sc.run Sc.blk (Sc.fw (s.extract 2 s.size)));have hok:=Eh s 2 n (by omega) hn;rw[hn]at hrb hle;obtain⟨rest,hrest⟩:=fq (s.extract 2 s.size);have hrz:rest.size<=100000:=by rw[<-hrest,nV];omega
 rw[hrest]at hrb hle hok hz;have hpt:=λW=>uM rest W hz
 have hlo:(n:Int)<=(rest.size:Int):=by omega
 have ah:(2:Int)<=(s.size:Int):=by omega
 obtain⟨bh,af⟩:=fq (rest.extract n rest.size);rw[af]at hok;have gF:=xn c;have hI1:(1:Int)<(s.size:Int):=by omega
 have ga:(((s[1]'h1).toNat:Int)==43)=false:=by rw[a];rfl
 have gb:(((s[1]'h1).toNat:Int)==45)=true:=by rw[a];rfl
 clear a;have HB:=eZ hrb;clear hn hz hS c hle hrb hs hm;by_cases hb0:bh.size=0
 ·obtain rfl:=wM bh hb0;have hR:Sc.kF (Sc.fw s)=2:=by rw[hres,hok];rfl
  rw[hR];clear hres hok hpt hb0 hR;rcases gF with gA|⟨gA,gB⟩
  all_goals
   go_enter func90,ntmps90
   go_wp2_with fail
   refine HB.out.mono ?_;rintro e w1 ⟨rfl,hbw⟩;go_wp2_with fail
   go_ret;exact⟨rfl,hbw⟩
 have hb1:0<bh.size:=by omega
 have hE:bh.toList.isEmpty=false:=by rw[Na];exact zf bh hb1
 have ae:decide (bh.size=0)=false:=jE hb0;have hh:=DK bh hb1;rw[ae,Vg]at hok;clear ae hb0;cases hp:Sc.part (Sc.fw rest)with
 |false=>
  have hR:Sc.kF (Sc.fw s)=0:=by rw[hres,hok,hp];rfl
  rw[hR];have HP:=eZ (λW=>by have:=hpt W;rw[hp]at this;exact this);clear hres hok hpt hp hh hR;rcases gF with gA|⟨gA,gB⟩
  all_goals
   go_enter func90,ntmps90
   go_wp2_with fail
   refine HB.out.mono ?_;rintro e w1 ⟨rfl,hbw⟩;go_wp2_with fail
   refine(HP.out _).mono ?_;rintro e w2 ⟨rfl,rfl⟩;go_wp2_with fail
   go_ret;exact⟨rfl,hbw⟩
 |true=>
  have HP:=eZ (λW=>by have:=hpt W;rw[hp]at this;exact this);by_cases aa:(bh[0]'hb1).toNat=35
  ·have hR:Sc.kF (Sc.fw s)=2:=by rw[hres,hok,hp,hh,aa];rfl
   rw[hR];have ag:(((bh[0]'hb1).toNat:Int)==35)=true:=by rw[aa];rfl
   clear hres hok hpt hp hh hR aa;rcases gF with gA|⟨gA,gB⟩
   all_goals
    go_enter func90,ntmps90
    go_wp2_with fail
    refine HB.out.mono ?_;rintro e w1 ⟨rfl,hbw⟩;go_wp2_with fail
    refine(HP.out _).mono ?_;rintro e w2 ⟨rfl,rfl⟩;go_wp2_with fail
    go_ret;exact⟨rfl,hbw⟩
  have hR:Sc.kF (Sc.fw s)=0:=by
   rw[hres,hok,hp,hh,iW.2 aa];rfl
  rw[hR];have ag:(((bh[0]'hb1).toNat:Int)==35)=false:=iW.2 (by omega);clear hres hok hpt hp hh hR aa;rcases gF with gA|⟨gA,gB⟩
  all_goals
   go_enter func90,ntmps90
   go_wp2_with fail
   refine HB.out.mono ?_;rintro e w1 ⟨rfl,hbw⟩;go_wp2_with fail
   refine(HP.out _).mono ?_;rintro e w2 ⟨rfl,rfl⟩;go_wp2_with fail
   go_ret;exact⟨rfl,hbw⟩
theorem WV(s:ByteArray)(w:World)(hs:s.size<=100000)(h0:0<s.size)(c:¬((s[0]'h0).toNat=124\/(s[0]'h0).toNat=62)):
 Calls prog 90 #[.string s] w λe w'=>e=.returned (.int .i64 (Sc.kF (Sc.fw s)))/\Below w.heap.size w w':=by
 have hR:Sc.kF (Sc.fw s)=0:=by rw[uk s h0 _ rfl,eX c]
 rw[hR];have gA:(((s[0]'h0).toNat:Int) !=124)=true:=by simp;omega
 have gB:(((s[0]'h0).toNat:Int) !=62)=true:=by simp;omega
 clear hR c
 go_enter func90,ntmps90
 go_wp2_with fail
 go_ret;exact⟨rfl,fI _ _⟩
theorem Yh(s:ByteArray)(w:World)(hs:s.size<=100000)(h0:0<s.size):
 Calls prog 90 #[.string s] w λe w'=>e=.returned (.int .i64 (Sc.kF (Sc.fw s)))/\Below w.heap.size w w':=by
 by_cases c:(s[0]'h0).toNat=124\/(s[0]'h0).toNat=62
 ·by_cases h1:1<s.size
  ·by_cases a:(s[1]'h1).toNat=43
   ·exact WT s w hs h0 c h1 a
   by_cases b:(s[1]'h1).toNat=45
   ·exact WU s w hs h0 c h1 b
   exact WS s w hs h0 c h1 a b
  exact WR s w hs h0 c (by omega)
 exact WV s w hs h0 c
end
section
open Go.RowKit
open Sg
theorem Kq(op:Nat)(dash:Bool)(s:ByteArray)(h:0<s.size)(c:Nat)(hc:(s[0]'h).toNat=c):Sc.sign op dash (Sc.fw s)=
 if c=91 then 8 else if c=123 then 9 else if c=93 then 10 else if c=125 then 11
 else if c=44 then(if 0<op then 7 else 0)
 else if c=45 then(if op=0 then(if dash=true then(if Sc.part (Sc.fw (s.extract 1 s.size))=true then 5 else 0)else 0)else 0)
 else if c=58 then(if Sc.key (decide (0<op)) (Sc.fw (s.extract 1 s.size))=true then 6 else 0)else 0:=by
 rw[qW s h,hc,Sc.sign]
theorem Yi(b op:Nat)(dash:Bool)(s:ByteArray)(w:World)(hs:s.size<=100000)(h0:0<s.size)(c5:w.cell? ⟨b,5,none⟩=some (.int .i64 op))(c8:w.cell? ⟨b,8,none⟩=some (.bool dash)):
 Calls prog 87 #[.pointer (some ⟨b,0,none⟩),.string s] w λe w'=>e=.returned (.int .i64 (kI (Sc.sign op dash (Sc.fw s))))/\w'=w:=by
 have hm:s.size<=maxLen:=by unfold maxLen;omega
 have hz:=uj s 1 hm;have hP:=uM (s.extract 1 s.size) w hz;have hK:=F3 b op (s.extract 1 s.size) w hz c5;have hlo:(1:Int)<=(s.size:Int):=by omega
 obtain⟨c,hc⟩:=fq ((s[0]'h0).toNat);have hA:=Kq op dash s h0 c hc;have hcI:((s[0]'h0).toNat:Int)=(c:Int):=by rw[hc]
 obtain⟨R,hR⟩:=fq (Sc.sign op dash (Sc.fw s));rw[hR]at hA⊢;clear hR hm hz;by_cases ax:c=91
 ·subst ax;have af:(((s[0]'h0).toNat:Int)==91)=true:=by rw[hcI];rfl
  have aa:(((s[0]'h0).toNat:Int)==123)=false:=by rw[hcI];rfl
  have ag:(((s[0]'h0).toNat:Int)==93)=false:=by rw[hcI];rfl
  have ae:(((s[0]'h0).toNat:Int)==125)=false:=by rw[hcI];rfl
  have ah:(((s[0]'h0).toNat:Int)==44)=false:=by rw[hcI];rfl
  have ai:(((s[0]'h0).toNat:Int)==45)=false:=by rw[hcI];rfl
  have aj:(((s[0]'h0).toNat:Int)==58)=false:=by rw[hcI];rfl
  obtain rfl:R=8:=by rw[hA];rfl
  clear hA hc hcI hP hK
  go_enter func87,ntmps87
  go_wp2_with fail
  go_ret;exact⟨rfl,rfl⟩
 by_cases ak:c=123
 ·subst ak;have af:(((s[0]'h0).toNat:Int)==91)=false:=by rw[hcI];rfl
  have aa:(((s[0]'h0).toNat:Int)==123)=true:=by rw[hcI];rfl
  have ag:(((s[0]'h0).toNat:Int)==93)=false:=by rw[hcI];rfl
  have ae:(((s[0]'h0).toNat:Int)==125)=false:=by rw[hcI];rfl
  have ah:(((s[0]'h0).toNat:Int)==44)=false:=by rw[hcI];rfl
  have ai:(((s[0]'h0).toNat:Int)==45)=false:=by rw[hcI];rfl
  have aj:(((s[0]'h0).toNat:Int)==58)=false:=by rw[hcI];rfl
  obtain rfl:R=9:=by rw[hA];rfl
  clear hA hc hcI hP hK
  go_enter func87,ntmps87
  go_wp2_with fail
  go_ret;exact⟨rfl,rfl⟩
 by_cases ay:c=93
 ·subst ay;have af:(((s[0]'h0).toNat:Int)==91)=false:=by rw[hcI];rfl
  have aa:(((s[0]'h0).toNat:Int)==123)=false:=by rw[hcI];rfl
  have ag:(((s[0]'h0).toNat:Int)==93)=true:=by rw[hcI];rfl
  have ae:(((s[0]'h0).toNat:Int)==125)=false:=by rw[hcI];rfl
  have ah:(((s[0]'h0).toNat:Int)==44)=false:=by rw[hcI];rfl
  have ai:(((s[0]'h0).toNat:Int)==45)=false:=by rw[hcI];rfl
  have aj:(((s[0]'h0).toNat:Int)==58)=false:=by rw[hcI];rfl
  obtain rfl:R=10:=by rw[hA];rfl
  clear hA hc hcI hP hK
  go_enter func87,ntmps87
  go_wp2_with fail
  go_ret;exact⟨rfl,rfl⟩
 by_cases av:c=125
 ·subst av;have af:(((s[0]'h0).toNat:Int)==91)=false:=by rw[hcI];rfl
  have aa:(((s[0]'h0).toNat:Int)==123)=false:=by rw[hcI];rfl
  have ag:(((s[0]'h0).toNat:Int)==93)=false:=by rw[hcI];rfl
  have ae:(((s[0]'h0).toNat:Int)==125)=true:=by rw[hcI];rfl
  have ah:(((s[0]'h0).toNat:Int)==44)=false:=by rw[hcI];rfl
  have ai:(((s[0]'h0).toNat:Int)==45)=false:=by rw[hcI];rfl
  have aj:(((s[0]'h0).toNat:Int)==58)=false:=by rw[hcI];rfl
  obtain rfl:R=11:=by rw[hA];rfl
  clear hA hc hcI hP hK
  go_enter func87,ntmps87
  go_wp2_with fail
  go_ret;exact⟨rfl,rfl⟩
 by_cases az:c=44
 ·subst az;have af:(((s[0]'h0).toNat:Int)==91)=false:=by rw[hcI];rfl
  have aa:(((s[0]'h0).toNat:Int)==123)=false:=by rw[hcI];rfl
  have ag:(((s[0]'h0).toNat:Int)==93)=false:=by rw[hcI];rfl
  have ae:(((s[0]'h0).toNat:Int)==125)=false:=by rw[hcI];rfl
  have ah:(((s[0]'h0).toNat:Int)==44)=true:=by rw[hcI];rfl
  have ai:(((s[0]'h0).toNat:Int)==45)=false:=by rw[hcI];rfl
  have aj:(((s[0]'h0).toNat:Int)==58)=false:=by rw[hcI];rfl
  by_cases ho:0<op
  ·obtain rfl:R=7:=by rw[hA];simp[ho]
   have aC:(0:Int)<(op:Int):=by omega
   clear hA hc hcI hP hK
   go_enter func87,ntmps87
   go_wp2_with fail
   go_ret;exact⟨rfl,rfl⟩
  obtain rfl:op=0:=by omega
  obtain rfl:R=0:=by rw[hA];simp
  clear hA hc hcI hP hK;clear ho
  go_enter func87,ntmps87
  go_wp2_with fail
  go_ret;exact⟨rfl,rfl⟩
 by_cases aA:c=45
 ·subst aA;have af:(((s[0]'h0).toNat:Int)==91)=false:=by rw[hcI];rfl
  have aa:(((s[0]'h0).toNat:Int)==123)=false:=by rw[hcI];rfl
  have ag:(((s[0]'h0).toNat:Int)==93)=false:=by rw[hcI];rfl
  have ae:(((s[0]'h0).toNat:Int)==125)=false:=by rw[hcI];rfl
  have ah:(((s[0]'h0).toNat:Int)==44)=false:=by rw[hcI];rfl
  have ai:(((s[0]'h0).toNat:Int)==45)=true:=by rw[hcI];rfl
  have aj:(((s[0]'h0).toNat:Int)==58)=false:=by rw[hcI];rfl
  by_cases ho:0<op
  ·obtain rfl:R=0:=by rw[hA];simp;omega
   have aC:((op:Int)==0)=false:=iW.2 (by omega);clear hA hc hcI hP hK
   go_enter func87,ntmps87
   go_wp2_with fail
   go_ret;exact⟨rfl,rfl⟩
  obtain rfl:op=0:=by omega
  cases hd:dash with
  |false=>
   rw[hd]at hA c8;obtain rfl:R=0:=by rw[hA];simp
   clear hA hc hcI hP hK;clear ho
   go_enter func87,ntmps87
   go_wp2_with fail
   go_ret;exact⟨rfl,rfl⟩
  |true=>
   rw[hd]at hA c8;cases hp:Sc.part (Sc.fw (s.extract 1 s.size))with
   |true=>
    rw[hp]at hA hP;obtain rfl:R=5:=by rw[hA];simp
    have HP:=eZ hP;clear hA hc hcI hP hK;clear ho hp
    go_enter func87,ntmps87
    go_wp2_with fail
    refine HP.out.mono ?_;rintro e w1 ⟨rfl,rfl⟩;go_wp2_with fail
    go_ret;exact⟨rfl,rfl⟩
   |false=>
    rw[hp]at hA hP;obtain rfl:R=0:=by rw[hA];simp
    have HP:=eZ hP;clear hA hc hcI hP hK;clear ho hp
    go_enter func87,ntmps87
    go_wp2_with fail
    refine HP.out.mono ?_;rintro e w1 ⟨rfl,rfl⟩;go_wp2_with fail
    go_ret;exact⟨rfl,rfl⟩
 by_cases aB:c=58
 ·subst aB;have af:(((s[0]'h0).toNat:Int)==91)=false:=by rw[hcI];rfl
  have aa:(((s[0]'h0).toNat:Int)==123)=false:=by rw[hcI];rfl
  have ag:(((s[0]'h0).toNat:Int)==93)=false:=by rw[hcI];rfl
  have ae:(((s[0]'h0).toNat:Int)==125)=false:=by rw[hcI];rfl
  have ah:(((s[0]'h0).toNat:Int)==44)=false:=by rw[hcI];rfl
  have ai:(((s[0]'h0).toNat:Int)==45)=false:=by rw[hcI];rfl
  have aj:(((s[0]'h0).toNat:Int)==58)=true:=by rw[hcI];rfl
  cases hp:Sc.key (decide (0<op)) (Sc.fw (s.extract 1 s.size))with
  |true=>
   rw[hp]at hA hK;obtain rfl:R=6:=by rw[hA];simp
   have HK:=eZ hK;clear hA hc hcI hP hK;clear hp
   go_enter func87,ntmps87
   go_wp2_with fail
   refine HK.out.mono ?_;rintro e w1 ⟨rfl,rfl⟩;go_wp2_with fail
   go_ret;exact⟨rfl,rfl⟩
  |false=>
   rw[hp]at hA hK;obtain rfl:R=0:=by rw[hA];simp
   have HK:=eZ hK;clear hA hc hcI hP hK;clear hp
   go_enter func87,ntmps87
   go_wp2_with fail
   refine HK.out.mono ?_;rintro e w1 ⟨rfl,rfl⟩;go_wp2_with fail
   go_ret;exact⟨rfl,rfl⟩
 have af:(((s[0]'h0).toNat:Int)==91)=false:=by rw[hcI];exact iW.2 (by omega)
 have aa:(((s[0]'h0).toNat:Int)==123)=false:=by rw[hcI];exact iW.2 (by omega)
 have ag:(((s[0]'h0).toNat:Int)==93)=false:=by rw[hcI];exact iW.2 (by omega)
 have ae:(((s[0]'h0).toNat:Int)==125)=false:=by rw[hcI];exact iW.2 (by omega)
 have ah:(((s[0]'h0).toNat:Int)==44)=false:=by rw[hcI];exact iW.2 (by omega)
 have ai:(((s[0]'h0).toNat:Int)==45)=false:=by rw[hcI];exact iW.2 (by omega)
 have aj:(((s[0]'h0).toNat:Int)==58)=false:=by rw[hcI];exact iW.2 (by omega)
 obtain rfl:R=0:=by rw[hA,eX ax,eX ak,eX ay,eX av,eX az,eX aA,eX aB]
 clear hA hc hcI hP hK;clear ax ak ay av az aA aB
 go_enter func87,ntmps87
 go_wp2_with fail
 go_ret;exact⟨rfl,rfl⟩
end
section
open Go.RowKit
open Sg
theorem vK(s:ByteArray)(w:World)(hs:s.size<=100000):
 Calls prog 129 #[.string s,.string ⟨#[32,9]⟩] w λe w'=>∃t:ByteArray,e=.returned (.string t)/\t.size=Sc.trim (Sc.fw s)/\Below w.heap.size w w':=by
 have h:=Any.strings_TrimRight_laid (L:=S9) (by kernel_rfl) s ⟨#[32,9]⟩ w (by omega) (by decide) (ascii_of_all (by decide));refine De h ?_;rintro e w' ⟨rfl,hb⟩;refine⟨_,rfl,?_,hb⟩;rw[size_at];exact Sc.OV _
def UI(op:Bool)(s:ByteArray):Nat:=(nx s 0).2+Sc.vw op (s.get! ((nx s 0).2-1)).toNat ((Sc.fw s).drop (nx s 0).2)
theorem WW(op:Bool)(s:ByteArray):Sc.rJ op (Sc.fw s)=Sc.trim ((Sc.fw s).take (UI op s)):=by
 have h:=Sc.wH s 0;rw[lQ]at h;rw[Sc.yg,<-h,Sc.jo];rfl
def At(op:Bool)(s:ByteArray)(N p:Nat):Prop:=p=0\/(0<p/\N=p+Sc.vw op (s.get! (p-1)).toNat ((Sc.fw s).drop p))
theorem Yj(op:Bool)(s:ByteArray)(p:Nat)(h:p<s.size)(hA:At op s (UI op s) p)(hs:0<p->Sc.stop op (Sc.blk (s.get! (p-1)).toNat) ((Sc.fw s).drop p)=false):At op s (UI op s) (p+(nx s p).2):=by
 have hk:=xS s p h;rcases hA with rfl|⟨h1,h2⟩
 ·right;rw[kU];exact⟨by omega,rfl⟩
 right;refine⟨by omega,?_⟩;rw[h2,Sc.OQ _ _ _ (hs h1),<-Sc.wH,Sc.qY,mQ,show p+((nx s p).2-1)=p+(nx s p).2-1 from by omega,RB]
theorem Ui(op:Bool)(s:ByteArray)(p:Nat)(hp:0<p)(hA:At op s (UI op s) p)(hs:Sc.stop op (Sc.blk (s.get! (p-1)).toNat) ((Sc.fw s).drop p)=true):UI op s=p:=by
 rcases hA with rfl|⟨h1,h2⟩
 ·omega
 rw[Sc.AM _ _ _ hs]at h2;exact h2
theorem at_end(op:Bool)(s:ByteArray)(h0:0<s.size)(hA:At op s (UI op s) s.size):UI op s=s.size:=by
 rcases hA with h|⟨h1,h2⟩
 ·omega
 rw[Sc.drop_nil s s.size (fB _),Sc.AM _ _ _ rfl]at h2;exact h2
theorem Gi(s:ByteArray)(p:Nat):Sc.fw (s.extract p s.size)=(Sc.fw s).drop p:=Sc.lz s p
structure Yk(op:Bool)(s:ByteArray)(p R:Nat):Prop where
 bad:R≠65533->Sc.bad ((Sc.fw s).drop p)=false
 high:R=65533->128<=(s.get! p).toNat
 colon:R=58↔(s.get! p).toNat=58
 hash:R=35↔(s.get! p).toNat=35
theorem tests(op:Bool)(s:ByteArray)(p:Nat)(h:p<s.size):Yk op s p (Utf8.decode s p).1:=by
 refine⟨λhR=>?_,λhR=>?_,tK s p 58 h (by decide),tK s p 35 h (by decide)⟩
 ·rw[Sc.NQ,zN s p h,eX (λx=>hR x.1)];exact jE (by dsimp only;omega)
 rcases kS (s.get! p).toNat 128 with hl|hl
 ·have:=(tK s p (s.get! p).toNat h hl).2 rfl;omega
 exact hl
theorem yG{a b c d e f g:Bool}(h1:a=false)(h2:b=false\/c=false)(h3:d=false\/e=false)(h4:f=false\/g=false):(a||(b&&c)||(d&&e)||(f&&g))=false:=by
 subst h1;rcases h2 with rfl|rfl<;>rcases h3 with rfl|rfl<;>rcases h4 with rfl|rfl<;>simp
theorem Y2{a b c d e f g:Bool}(h:a=true):(a||(b&&c)||(d&&e)||(f&&g))=true:=by subst h;simp
theorem Y3{a b c d e f g:Bool}(h:b=true)(h2:c=true):(a||(b&&c)||(d&&e)||(f&&g))=true:=by subst h;subst h2;simp
theorem Y4{a b c d e f g:Bool}(h:d=true)(h2:e=true):(a||(b&&c)||(d&&e)||(f&&g))=true:=by subst h;subst h2;simp
theorem Y5{a b c d e f g:Bool}(h:f=true)(h2:g=true):(a||(b&&c)||(d&&e)||(f&&g))=true:=by subst h;subst h2;simp
theorem QA(c:Nat)(h:128<=c):Sc.EZ c=false:=by simp[Sc.EZ];omega
theorem WY(b op:Nat)(s:ByteArray)(w:World)(hs:s.size<=100000)(h0:0<s.size)(hT:oO w)(c5:w.cell? ⟨b,5,none⟩=some (.int .i64 op))
 (n1:Sc.bad (Sc.fw s)=false) (n2:¬((s.get! 0).toNat=58/\Sc.key (decide (0<op)) ((Sc.fw s).drop 1)=true)) (n3:0<op->Sc.EZ (s.get! 0).toNat=false):
 Calls prog 92 #[.pointer (some ⟨b,0,none⟩),.string s] w λe w'=>e=.returned (.int .i64 (Sc.rJ (decide (0<op)) (Sc.fw s)))/\Below w.heap.size w w':=by
 rw[WW];have HT:=eZ (λW (hb:Below w.heap.size w W)=>hT.below hb);have ah:=eZ (λW (hb:Below w.heap.size w W)=>fu hb c5);have aP:=eZ (λp W (hb:Below w.heap.size w W)(hp:p<s.size)=>XO (s.extract p s.size) W (by rw[nV];omega) (by rw[nV];omega) (hT.below hb));have aQ:=eZ (λp W (hb:Below w.heap.size w W)=>F3 b op (s.extract p s.size) W (by unfold maxLen;rw[nV];omega) (fu hb c5));have aR:=eZ (λp h hA hst=>Yj (decide (0<op)) s p h hA hst);have ai:=eZ (λp hp hA hst=>Ui (decide (0<op)) s p hp hA hst);have aM:=eZ (λhA=>at_end (decide (0<op)) s h0 hA);have aK:=eZ (λN W (hN:N<=s.size)=>vK (s.extract 0 N) W (by rw[nV];omega));have aS:=eZ (λW=>vK s W hs);obtain⟨aW,aX,aY⟩:=jF n1 n2 n3;have aZ:=eZ (λpb p hp=>Sc.Sr (decide (0<op)) pb s p hp);have bf:=eZ (λp hp=>tests (decide (0<op)) s p hp);obtain⟨N,hN⟩:=fq (UI (decide (0<op)) s);have aF:Hid (op=0\/0<op):=eZ (by omega);rw[hN]at aR ai aM⊢;clear hN hT c5 n1 n2 n3
 go_enter func92,ntmps92
 go_wp2_with fail
 go_step3
 go_wp2_with fail
 go_step3
 go_wp2_with fail
 go_loopg [5] s.size (λgf z wr=>∃(p:Nat),z=.int .i64 s.size/\wr.heap[w.heap.size]?=some (.stringIter s p)/\Below w.heap.size w wr/\p<=s.size/\s.size<=p+gf/\Hid (At (decide (0<op)) s N p))
 case atStart=>exact⟨0,rfl,xM w s 0,(fI _ w).alloc (fB _) _,ic _,by omega,eZ (.inl rfl)⟩
 case round=>
  obtain⟨p,rfl,hit,hb,hps,hf,HA⟩:=hrel;by_cases hlt:p<s.size
  ·obtain⟨g',rfl⟩:∃g',gk=g'+1:=⟨gk-1,by omega⟩
   have hnx:∀ty,(Instr.next (.pointer (some ⟨w.heap.size,0,none⟩)) true ty).run prog wr=_:=λty=>BF wr w.heap.size s p ty hit hlt
   have hwd:=xS s p hlt;have hwn:=E6 s p hlt;have hts:=bf.out p hlt;have hon:=aR.out p hlt HA.out;rw[<-pK s p hlt]at hnx;obtain⟨K,hK⟩:=fq ((nx s p).2);obtain⟨R,hR⟩:=fq ((Utf8.decode s p).1);rw[hK,hR]at hnx;rw[hK]at hwd hwn hon;rw[hR]at hts;have hit2:=vI wr w.heap.size s p (p+K) hit;have hb2:=qK hb (k:=w.heap.size) (fB _) s (p+K);obtain⟨W,hWd⟩:=fq (wr.iterAt w.heap.size s (p+K));rw[hWd]at hnx hit2 hb2;have hst:=λpb=>aZ.out pb p hlt
   have hge:=Sc.lL s p hlt;have bA:(p:Int)<(s.size:Int):=by omega
   have bB:(p:Int)<=(s.size:Int):=by omega
   have hp1:((p:Int)+1)<=(s.size:Int):=by omega
   have hp0:(0:Int)<=(p:Int):=by omega
   obtain⟨aj,HST,aB,ag,ak⟩:=sP hon hst hts hit2 hge;have hbad:=aP.out p W hb2 hlt;rw[Gi]at hbad;have hkey:=fun(W':World)(hb':Below w.heap.size w W')=>aQ.out (p+1) W' hb'
   rw[Gi]at hkey;have aN:=λW'=>UN (s[p]'hlt).toNat W'
   obtain⟨aG,bg,aC⟩:=jF hbad hkey aN;clear hit hb hK hR hWd hon hst hts hit2 hge hbad hkey aN;by_cases k1:R=65533
   ·subst k1;have hhi:=aB.out.high rfl;have aO:Sc.EZ (s[p]'hlt).toNat=false:=by rw[ak.out];exact QA _ hhi
    have aA:((s.get! p).toNat==58)=false:=iW.2 (by omega);have az:((s.get! p).toNat==35)=false:=iW.2 (by omega);cases hbd:Sc.bad ((Sc.fw s).drop p)with
    |true=>
     rw[hbd]at aG;have ae:0<p:=by
      rcases uB p with h|h
      ·subst h;rw[lQ,aW.out]at hbd;cases hbd
      exact h
     have av:=eZ (ai.out p ae HA.out (by rw[HST.out];exact Y2 hbd));go_wp2_with fail
     refine(aG.out).mono ?_;rintro e w1 ⟨rfl,hc1⟩;have hb3:=hb2.trans (hc1.mono hb2.size);have aa:=eZ ((hc1.block _ (xI.1 ag.out).1).trans ag.out);clear hc1;go_wp2_with fail
     refine(aK.out p _ hps).mono ?_;rintro e w9 ⟨t,rfl,htz,ax⟩;have ay:=eZ htz;clear htz;go_wp2_with fail
     try rw[vJ]
     go_ret;refine⟨?_,hb3.trans (ax.mono hb3.size)⟩;rw[av.out,<-Sc.qZ,<-ay.out];rfl
    |false=>
     rw[hbd]at aG;rcases aF.out with ho|ho
     ·subst ho;have af:=eZ (aj.out (λae=>by rw[HST.out];exact yG hbd (.inl aA) (.inl az) (.inl rfl)));go_wp2_with fail
      refine aG.out.mono ?_;rintro e w1 ⟨rfl,hc1⟩;have hb3:=hb2.trans (hc1.mono hb2.size);have aa:=eZ ((hc1.block _ (xI.1 ag.out).1).trans ag.out);have c5:=ah.out _ hb3;clear hc1;go_wp2_with fail
      go_roundg g'
      case measure=>omega
      case rel=>exact⟨p+K,rfl,aa.out,hb3,by omega,by omega,af⟩
     have aL:(0:Int)<(op:Int):=by omega
     have HF:=eZ (λW'=>by have:=aC.out W';rw[aO]at this;exact this);have af:=eZ (aj.out (λae=>by rw[HST.out];exact yG hbd (.inl aA) (.inl az) (.inr (by rw[<-ak.out];exact aO))));go_wp2_with fail
     refine aG.out.mono ?_;rintro e w1 ⟨rfl,hc1⟩;have hb3:=hb2.trans (hc1.mono hb2.size);have aa:=eZ ((hc1.block _ (xI.1 ag.out).1).trans ag.out);have c5:=ah.out _ hb3;clear hc1;go_wp2_with fail
     refine(HF.out _).mono ?_;rintro e w2 ⟨rfl,rfl⟩;go_wp2_with fail
     go_roundg g'
     case measure=>omega
     case rel=>exact⟨p+K,rfl,aa.out,hb3,by omega,by omega,af⟩
   have hbd:=aB.out.bad k1;have aV:((R:Int)==65533)=false:=iW.2 (by omega);by_cases k2:R=58
   ·subst k2;have hch:=aB.out.colon.1 rfl;have az:((s.get! p).toNat==35)=false:=iW.2 (by omega);have aH:=eZ (bg.out W hb2);cases aD:Sc.key (decide (0<op)) ((Sc.fw s).drop (p+1))with
    |true=>
     rw[aD]at aH;have ae:0<p:=by
      rcases uB p with h|h
      ·subst h;exact absurd ⟨hch,aD⟩ aX.out
      exact h
     have av:=eZ (ai.out p ae HA.out (by rw[HST.out];exact Y3 (uD.2 hch) aD));go_wp2_with fail
     refine(aH.out).mono ?_;rintro e w1 ⟨rfl,rfl⟩;go_wp2_with fail
     refine(aK.out p _ hps).mono ?_;rintro e w9 ⟨t,rfl,htz,ax⟩;have ay:=eZ htz;clear htz;go_wp2_with fail
     try rw[vJ]
     go_ret;refine⟨?_,hb2.trans (ax.mono hb2.size)⟩;rw[av.out,<-Sc.qZ,<-ay.out];rfl
    |false=>
     rw[aD]at aH;rcases aF.out with ho|ho
     ·subst ho;have aa:=ag;have c5:=ah.out _ hb2;have af:=eZ (aj.out (λae=>by rw[HST.out];exact yG hbd (.inr aD) (.inl az) (.inl rfl)));go_wp2_with fail
      refine(aH.out).mono ?_;rintro e w1 ⟨rfl,rfl⟩;go_wp2_with fail
      go_roundg g'
      case measure=>omega
      case rel=>exact⟨p+K,rfl,aa.out,hb2,by omega,by omega,af⟩
     have aL:(0:Int)<(op:Int):=by omega
     have hod:decide (0<op)=true:=lI ho;have hfl:Sc.EZ (s[p]'hlt).toNat=false:=by rw[ak.out,hch];rfl
     have HF:=eZ (λW'=>by have:=aC.out W';rw[hfl]at this;exact this);have aa:=ag;have c5:=ah.out _ hb2;have af:=eZ (aj.out (λae=>by rw[HST.out];exact yG hbd (.inr aD) (.inl az) (.inr (by rw[<-ak.out];exact hfl))));go_wp2_with fail
     refine(aH.out).mono ?_;rintro e w1 ⟨rfl,rfl⟩;go_wp2_with fail
     refine(HF.out _).mono ?_;rintro e w2 ⟨rfl,rfl⟩;go_wp2_with fail
     go_roundg g'
     case measure=>omega
     case rel=>exact⟨p+K,rfl,aa.out,hb2,by omega,by omega,af⟩
   have bC:((R:Int)==58)=false:=iW.2 (by omega);have aA:((s.get! p).toNat==58)=false:=iW.2 (λh=>k2 (aB.out.colon.2 h));by_cases k3:R=35
   ·subst k3;have hch:=aB.out.hash.1 rfl;have hfl:Sc.EZ (s[p]'hlt).toNat=false:=by rw[ak.out,hch];rfl
    by_cases aI:0<p
    ·have aT:(0:Int)<(p:Int):=by omega
     have hpr:p-1<s.size:=by omega
     have bn:(p:Int)-1=((p-1:Nat):Int):=by omega
     have bq:(0:Int)<=((p-1:Nat):Int):=by omega
     have bz:((p-1:Nat):Int)<(s.size:Int):=by omega
     have aJ:=eZ (λW'=>Dx (s[p-1]'hpr).toNat W');have aU:=eZ (Sc.lL s (p-1) hpr);cases hbk:Sc.blk (s[p-1]'hpr).toNat with
     |true=>
      rw[hbk]at aJ;have ae:=aI;rw[aU.out]at hbk;have av:=eZ (ai.out p ae HA.out (by rw[HST.out];exact Y4 (uD.2 hch) hbk));go_wp2_with fail
      refine(aJ.out _).mono ?_;rintro e w1 ⟨rfl,rfl⟩;go_wp2_with fail
      refine(aK.out p _ hps).mono ?_;rintro e w9 ⟨t,rfl,htz,ax⟩;have ay:=eZ htz;clear htz;go_wp2_with fail
      try rw[vJ]
      go_ret;refine⟨?_,hb2.trans (ax.mono hb2.size)⟩;rw[av.out,<-Sc.qZ,<-ay.out];rfl
     |false=>
      rw[hbk]at aJ;rw[aU.out]at hbk;rcases aF.out with ho|ho
      ·subst ho;have aa:=ag;have c5:=ah.out _ hb2;have af:=eZ (aj.out (λae=>by rw[HST.out];exact yG hbd (.inl aA) (.inr hbk) (.inl rfl)));go_wp2_with fail
       refine(aJ.out _).mono ?_;rintro e w1 ⟨rfl,rfl⟩;go_wp2_with fail
       go_roundg g'
       case measure=>omega
       case rel=>exact⟨p+K,rfl,aa.out,hb2,by omega,by omega,af⟩
      have aL:(0:Int)<(op:Int):=by omega
      have hod:decide (0<op)=true:=lI ho;have hfl:=hfl;have HF:=eZ (λW'=>by have:=aC.out W';rw[hfl]at this;exact this);have aa:=ag;have c5:=ah.out _ hb2;have af:=eZ (aj.out (λae=>by rw[HST.out];exact yG hbd (.inl aA) (.inr hbk) (.inr (by rw[<-ak.out];exact hfl))));go_wp2_with fail
      refine(aJ.out _).mono ?_;rintro e w1 ⟨rfl,rfl⟩;go_wp2_with fail
      refine(HF.out _).mono ?_;rintro e w2 ⟨rfl,rfl⟩;go_wp2_with fail
      go_roundg g'
      case measure=>omega
      case rel=>exact⟨p+K,rfl,aa.out,hb2,by omega,by omega,af⟩
    have aT:¬((0:Int)<(p:Int)):=by omega
    rcases aF.out with ho|ho
    ·subst ho;have aa:=ag;have c5:=ah.out _ hb2;have af:=eZ (aj.out (λae=>absurd ae aI));go_wp2_with fail
     go_roundg g'
     case measure=>omega
     case rel=>exact⟨p+K,rfl,aa.out,hb2,by omega,by omega,af⟩
    have aL:(0:Int)<(op:Int):=by omega
    have aa:=ag;have c5:=ah.out _ hb2;have HF:=eZ (λW'=>by have:=aC.out W';rw[hfl]at this;exact this);have af:=eZ (aj.out (λae=>absurd ae aI));go_wp2_with fail
    refine(HF.out _).mono ?_;rintro e w2 ⟨rfl,rfl⟩;go_wp2_with fail
    go_roundg g'
    case measure=>omega
    case rel=>exact⟨p+K,rfl,aa.out,hb2,by omega,by omega,af⟩
   have bD:((R:Int)==35)=false:=iW.2 (by omega);have az:((s.get! p).toNat==35)=false:=iW.2 (λh=>k3 (aB.out.hash.2 h));rcases aF.out with ho|ho
   ·subst ho;have aa:=ag;have c5:=ah.out _ hb2;have af:=eZ (aj.out (λae=>by rw[HST.out];exact yG hbd (.inl aA) (.inl az) (.inl rfl)));go_wp2_with fail
    go_roundg g'
    case measure=>omega
    case rel=>exact⟨p+K,rfl,aa.out,hb2,by omega,by omega,af⟩
   have aL:(0:Int)<(op:Int):=by omega
   have hod:decide (0<op)=true:=lI ho;cases hfl:Sc.EZ (s[p]'hlt).toNat with
   |false=>
    have HF:=eZ (λW'=>by have:=aC.out W';rw[hfl]at this;exact this);have aa:=ag;have c5:=ah.out _ hb2;have af:=eZ (aj.out (λae=>by rw[HST.out];exact yG hbd (.inl aA) (.inl az) (.inr (by rw[<-ak.out];exact hfl))));go_wp2_with fail
    refine(HF.out _).mono ?_;rintro e w1 ⟨rfl,rfl⟩;go_wp2_with fail
    go_roundg g'
    case measure=>omega
    case rel=>exact⟨p+K,rfl,aa.out,hb2,by omega,by omega,af⟩
   |true=>
    have ae:0<p:=by
     rcases uB p with h|h
     ·subst h;rw[ak.out,aY.out ho]at hfl;cases hfl
     exact h
    have HF:=eZ (λW'=>by have:=aC.out W';rw[hfl]at this;exact this);have c5:=ah.out _ hb2;have av:=eZ (ai.out p ae HA.out (by rw[HST.out];exact Y5 hod (by rw[<-ak.out];exact hfl)));go_wp2_with fail
    refine(HF.out _).mono ?_;rintro e w1 ⟨rfl,rfl⟩;go_wp2_with fail
    refine(aK.out p _ hps).mono ?_;rintro e w9 ⟨t,rfl,htz,ax⟩;have ay:=eZ htz;clear htz;go_wp2_with fail
    try rw[vJ]
    go_ret;refine⟨?_,hb2.trans (ax.mono hb2.size)⟩;rw[av.out,<-Sc.qZ,<-ay.out];rfl
  have hnx:∀ty,(Instr.next (.pointer (some ⟨w.heap.size,0,none⟩)) true ty).run prog wr=_:=λty=>xN wr w.heap.size s p ty hit hlt
  obtain rfl:p=s.size:=by omega
  have av:=eZ (aM.out HA.out);clear hlt hps hf hit;go_wp2_with fail
  with_reducible refine(aS.out _).mono ?_
  rintro e w9 ⟨t,rfl,htz,ax⟩;have ay:=eZ htz;clear htz;go_wp2_with fail
  try rw[vJ]
  go_ret;refine⟨?_,hb.trans (ax.mono hb.size)⟩;rw[av.out,xK (by rw[Sc.gJ];exact fB _),<-ay.out];rfl
end
section
open Go.RowKit
open Sg
open Sq
theorem zU(k:Nat)(h:0<k):kI k=(k:Int):=by unfold kI;rw[eX (by omega)]
theorem zx(k:Nat):(kI k !=-1)=decide (0<k):=by
 by_cases h:0<k
 ·rw[lI h,zU k h];exact KR.2 (by omega)
 obtain rfl:k=0:=by omega
 rfl
def pr(p:Nat×Nat):Value:=.tuple #[.int .i64 p.1,.int .i64 p.2]
theorem Uj(op:Nat)(dash blank f:Bool)(l:List Nat)(m rs rb n:Nat)(h:Bool)(wd:Nat×Nat)(hm:Sc.mark l=m)(hrs:Sc.run Sc.xX l=rs)(hrb:Sc.run Sc.blk l=rb)(hh:Sc.hsh l=h)(hn:l.length=n)(hw:Sc.word op dash l=wd):
 Sc.next op dash blank f l=if f=true/\0<m then(m,3)else if f=true/\0<rs then(2,rs)else if 0<rb then(3,rb)else if h=true/\(f=true\/blank=true)then(4,n)else wd:=by
 subst hm hrs hrb hh hn hw;rfl
theorem Uk(op:Nat)(dash:Bool)(l:List Nat)(sg hd pl:Nat)(nm qt:Nat×Nat)(bd:Bool)(h1:Sc.sign op dash l=sg)(h2:Sc.named l=nm)(h3:Sc.quoted l=qt)(h4:Sc.kF l=hd)(h5:Sc.bad l=bd)(h6:Sc.rJ (decide (0<op)) l=pl):
 Sc.word op dash l=if 0<sg then(sg,1)else if 0<nm.1 then nm else if 0<qt.1 then qt else if op=0/\0<hd then(18,hd)else if bd=true then(22,1)else(15,pl):=by
 subst h1 h2 h3 h4 h5 h6;rfl
theorem CZ(op:Nat)(dash:Bool)(s:ByteArray)(h:0<s.size)(h0:Sc.sign op dash (Sc.fw s)=0):(¬((s.get! 0).toNat=58/\Sc.key (decide (0<op)) ((Sc.fw s).drop 1)=true))/\(0<op->Sc.EZ (s.get! 0).toNat=false):=by
 rw[<-Sc.lL s 0 h];obtain⟨c,hc⟩:=fq ((s[0]'h).toNat);rw[Kq op dash s h c hc]at h0;rw[hc,<-Sc.lz];constructor
 ·rintro⟨rfl,hk⟩;rw[hk]at h0;simp at h0
 intro ho;rw[KG];intro hf;simp[Sc.EZ]at hf;rcases hf with((((rfl|rfl)|rfl)|rfl)|rfl)
 ·simp at h0;omega
 ·simp at h0
 ·simp at h0
 ·simp at h0
 simp at h0
theorem Yl(b:Nat)(s:ByteArray)(v:Value)(at' row en op:Nat)(base least:Int)(dash blank f:Bool)(l:List Tk)(w:World)(hM:Mem w b s v at' row en op base least dash)(hO:Row w b v l)(hT:oO w)(hs:s.size<=100000)(hl:l.length<=100000)(h1:row<=at')(h2:at'<en)(h3:en<=s.size)
 (hf:f=decide (at'=row)) (hbl:f=false->∃l0 x,l=l0++[x]/\blank=(x.1==2||x.1==3)):
 Calls prog 56 #[.pointer (some ⟨b,0,none⟩)] w λe w'=>e=.returned (pr (Sc.next op dash blank f (Sc.fw (s.extract at' en))))/\Below w.heap.size w w':=by
 obtain⟨r,hr⟩:=fq (s.extract at' en);have hz:r.size=en-at':=by rw[<-hr,nV];omega
 have hz0:0<r.size:=by omega
 have hz1:r.size<=100000:=by omega
 have ak:r.size<=maxLen:=by unfold maxLen;omega
 rw[hr];have aT:(((at':Int))==((row:Int)))=f:=by rw[hf,nP];simp;omega
 have hln:=Sc.gJ r;have av:=DK r hz0;obtain⟨m,hm⟩:=fq (Sc.mark (Sc.fw r));obtain⟨rs,hrs⟩:=fq (Sc.run Sc.xX (Sc.fw r));obtain⟨rb,hrb⟩:=fq (Sc.run Sc.blk (Sc.fw r));obtain⟨h,hh⟩:=fq (Sc.hsh (Sc.fw r));obtain⟨wd,hwd⟩:=fq (Sc.word op dash (Sc.fw r));obtain⟨sg,hsg⟩:=fq (Sc.sign op dash (Sc.fw r));obtain⟨nm,hnm⟩:=fq (Sc.named (Sc.fw r));obtain⟨qt,ax⟩:=fq (Sc.quoted (Sc.fw r));obtain⟨hd,hhd⟩:=fq (Sc.kF (Sc.fw r));obtain⟨bd,hbd⟩:=fq (Sc.bad (Sc.fw r));obtain⟨pl,hpl⟩:=fq (Sc.rJ (decide (0<op)) (Sc.fw r));have HN:=eZ (Uj op dash blank f (Sc.fw r) m rs rb r.size h wd hm hrs hrb hh hln hwd);have HW:=eZ (hwd.symm.trans (Uk op dash (Sc.fw r) sg hd pl nm qt bd hsg hnm ax hhd hbd hpl));obtain⟨N,hN⟩:=fq (Sc.next op dash blank f (Sc.fw r));rw[hN]at HN⊢;rw[hh]at av;have aU:(((r[0]'hz0).toNat:Int)==35)=h:=by rw[av,nP];simp;omega
 have az:=eZ (λW=>by have:=UZ r W ak;rw[hm]at this;exact this);have aA:=eZ (λW=>by have:=FB r W ak;rw[hrs]at this;exact this);have aB:=eZ (λW=>by have:=qU r W ak;rw[hrb]at this;exact this);have HM:=eZ (λW (hb:Below w.heap.size w W)=>hM.below hb);have aV:=eZ (λW (hb:Below w.heap.size w W)=>Reads.fJ (fQ hO hb));have aW:=eZ (λW (hb:Below w.heap.size w W)=>hT.below hb);have aL:=eZ (λW (hb:Below w.heap.size w W)=>by have:=Yi b op dash r W hz1 hz0 (hM.below hb).c.2.2.2.2.2.1 (hM.below hb).c.2.2.2.2.2.2.2.2;rw[hsg]at this;exact this);have aM:=eZ (λW=>by have:=Ww r W hz1 hz0;rw[hnm]at this;exact this);have aN:=eZ (λW=>by have:=TH r W hz1 hz0;rw[ax]at this;exact this);have aO:=eZ (λW=>by have:=Yh r W hz1 hz0;rw[hhd]at this;exact this);have aP:=eZ (λW (hb:Below w.heap.size w W)=>by have:=XO r W hz1 hz0 (hT.below hb);rw[hbd]at this;exact this);have aQ:=eZ (λW (hb:Below w.heap.size w W)(q1:bd=false)(q2:sg=0)=>by have:=WY b op r W hz1 hz0 (hT.below hb) (hM.below hb).c.2.2.2.2.2.1 (by rw[hbd];exact q1) (CZ op dash r hz0 (by rw[hsg];exact q2)).1 (CZ op dash r hz0 (by rw[hsg];exact q2)).2;rw[hpl]at this;exact this);have aC:∀W,Below w.heap.size w W->f=false->Calls prog 86 #[.pointer (some ⟨b,0,none⟩)] W λe w'=>e=.returned (.bool blank)/\Below W.heap.size W w':=by
  intro W hb q;obtain⟨l0,x,rfl,hx⟩:=hbl q;have:=P9 b v l0 x W hl (hM.below hb).c.2.1 (Reads.fJ (fQ hO hb));rw[<-hx]at this;exact this
 have ay:=eZ aC;clear aC;obtain⟨c0,c1,c2,c3,c4,c5,c6,c7,c8⟩:=hM.c;have i1:(at':Int)<=(en:Int):=by omega
 have i2:(en:Int)<=(s.size:Int):=by omega
 have i3:(0:Int)<=(at':Int):=by omega
 have hz2:(0:Int)<(r.size:Int):=by omega
 clear hz hM hO hT hm hrs hrb hh hwd hsg hnm ax hhd hbd hpl hN av hf hbl hln c1 c5 c6 c7 c8
 go_enter func56,ntmps56
 go_wp2_with fail
 go_big_quiet (fail)
 have hb1:=Ie (fI w.heap.size w) nq;obtain⟨W1,hW1⟩:=fq (w.drewN nq);rw[hW1]at hb1⊢;have c2:=(HM.out W1 hb1).c.2.2.1;have c3:=(HM.out W1 hb1).c.2.2.2.1;clear hW1 c0 c4;go_wp2_with fail
 go_big_quiet (fail)
 have hb2:=Ie hb1 nq;obtain⟨W2,hW2⟩:=fq (W1.drewN nq);rw[hW2]at hb2⊢;clear hW2 c2 c3 hb1 hr i1 i2 i3;go_wp2_with fail
 refine(az.out _).mono ?_;rintro e w1 ⟨rfl,rfl⟩;have hk1:=zx m;go_upto_region 4 with fail
 go_cut [34] (λq wx=>q=.bool (f&&decide (0<m))/\wx=W2)
 case first=>
  cases f with
  |true=>
   go_wp2_with fail
   go_meet
   exact⟨rfl,rfl⟩
  |false=>
   go_wp2_with fail
   go_meet
   exact⟨rfl,rfl⟩
 case rest=>
  obtain⟨rfl,rfl⟩:=hcut;clear hk1;cases q1:(f&&decide (0<m))with
  |true=>
   have hq:f=true/\0<m:=by simpa using q1
   have HE:=eZ (show N=(m,3)from by rw[HN.out,eY hq]);have hkp:=zU m hq.2;go_wp2_with fail
   go_ret2;exact⟨by rw[HE.out,hkp];rfl,hb2⟩
  |false=>
   have af:=eZ (show¬(f=true/\0<m)from by simpa using q1);clear q1;go_wp2_with fail
   refine(aA.out _).mono ?_;rintro e w2 ⟨rfl,hc⟩;have hb3:=hb2.trans (hc.mono hb2.size);clear hc;have hr1:decide ((0:Int)<(rs:Int))=decide (0<rs):=by rw[nP];simp
   go_upto_region 7 with fail
   go_cut [42] (λq wx=>q=.bool (f&&decide (0<rs))/\wx=w2)
   case first=>
    by_cases aD:0<rs
    ·have hI:(0:Int)<(rs:Int):=by omega
     cases f with
     |true=>
      go_wp2_with fail
      go_meet
      exact⟨by simp[aD],rfl⟩
     |false=>
      go_wp2_with fail
      go_meet
      exact⟨rfl,rfl⟩
    obtain rfl:rs=0:=by omega
    cases f with
    |true=>
     go_wp2_with fail
     go_meet
     exact⟨rfl,rfl⟩
    |false=>
     go_wp2_with fail
     go_meet
     exact⟨rfl,rfl⟩
   case rest=>
    obtain⟨rfl,rfl⟩:=hcut;clear hr1;cases q2:(f&&decide (0<rs))with
    |true=>
     have HE:=eZ (show N=(2,rs)from by rw[HN.out,eX af.out,eY (by simpa using q2)]);go_wp2_with fail
     go_ret2;exact⟨by rw[HE.out];rfl,hb3⟩
    |false=>
     have ai:=eZ (show¬(f=true/\0<rs)from by simpa using q2);clear q2;go_wp2_with fail
     refine(aB.out _).mono ?_;rintro e w4 ⟨rfl,hc⟩;have hb4:=hb3.trans (hc.mono hb3.size);clear hc;by_cases aF:0<rb
     ·have hI:(0:Int)<(rb:Int):=by omega
      have HE:=eZ (show N=(3,rb)from by rw[HN.out,eX af.out,eX ai.out,eY aF]);go_wp2_with fail
      go_ret2;exact⟨by rw[HE.out];rfl,hb4⟩
     obtain rfl:rb=0:=by omega
     go_upto_region 12 with fail
     go_cut [58] (λq wx=>q=.bool (h&&(f||blank))/\Below w.heap.size w wx)
     case first=>
      cases h with
      |true=>
       cases f with
       |true=>
        go_wp2_with fail
        go_meet
        exact⟨rfl,hb4⟩
       |false=>
        have HB2:=eZ (ay.out _ hb4 rfl);clear ay;go_wp2_with fail
        refine HB2.out.mono ?_;rintro e w5 ⟨rfl,hc⟩;have hb5:=hb4.trans (hc.mono hb4.size);clear hc;go_wp2_with fail
        go_meet
        exact⟨rfl,hb5⟩
      |false=>
       go_wp2_with fail
       go_meet
       exact⟨rfl,hb4⟩
     case rest=>
      obtain⟨rfl,hb5⟩:=hcut;clear hb4 hb3 hb2;cases q3:(h&&(f||blank))with
      |true=>
       have HE:=eZ (show N=(4,r.size)from by rw[HN.out,eX af.out,eX ai.out,eX (by omega),eY (by simpa using q3)]);go_wp2_with fail
       go_ret2;exact⟨by rw[HE.out];rfl,hb5⟩
      |false=>
       have HE:=eZ (show N=wd from by rw[HN.out,eX af.out,eX ai.out,eX (by omega),eX (by simpa using q3)]);clear q3 af ai HN az aA aB ay;go_wp2_with fail
       refine(aL.out _ hb5).mono ?_;rintro e w6 ⟨rfl,rfl⟩;have hk5:=zx sg;by_cases ag:0<sg
       ·rw[lI ag]at hk5;have HE2:=eZ (show N=(sg,1)from by rw[HE.out,HW.out,eY ag]);have hkp:=zU sg ag;go_wp2_with fail
        go_ret2;exact⟨by rw[HE2.out];simp only[pr];first|rfl|(rw[<-hkp];rfl),hb5⟩
       obtain rfl:sg=0:=by omega
       clear hk5;go_wp2_with fail
       refine(aM.out _).mono ?_;rintro e w7 ⟨rfl,hc⟩;have hb6:=hb5.trans (hc.mono hb5.size);clear hc;have aG:=zx nm.1;by_cases aa:0<nm.1
       ·rw[lI aa]at aG;have HE2:=eZ (show N=nm from by rw[HE.out,HW.out,eX (by omega),eY aa]);have hkp:=zU nm.1 aa;go_wp2_with fail
        go_ret2;exact⟨by rw[HE2.out];simp only[pr];first|rfl|(rw[<-hkp];rfl),hb6⟩
       rw[jE aa]at aG;clear hb5;go_wp2_with fail
       refine(aN.out _).mono ?_;rintro e w8 ⟨rfl,rfl⟩;have aH:=zx qt.1;by_cases ae:0<qt.1
       ·rw[lI ae]at aH;have HE2:=eZ (show N=qt from by rw[HE.out,HW.out,eX (by omega),eX aa,eY ae]);have hkp:=zU qt.1 ae;go_wp2_with fail
        go_ret2;exact⟨by rw[HE2.out];simp only[pr];first|rfl|(rw[<-hkp];rfl),hb6⟩
       rw[jE ae]at aH;go_wp2_with fail
       refine(aO.out _).mono ?_;rintro e w9 ⟨rfl,hc⟩;have ah:=hb6.trans (hc.mono hb6.size);clear hc hb6;have c5:=(HM.out _ ah).c.2.2.2.2.2.1;go_upto_region 24 with fail
       go_cut [95] (λq wx=>q=.bool (decide (op=0/\0<hd))/\wx=w9)
       case first=>
        by_cases ho:op=0
        ·subst ho;by_cases hh0:0<hd
         ·have hI:(0:Int)<(hd:Int):=by omega
          go_wp2_with fail
          go_meet
          exact⟨by simp[hh0],rfl⟩
         obtain rfl:hd=0:=by omega
         go_wp2_with fail
         go_meet
         exact⟨rfl,rfl⟩
        have ho2:((op:Int)==0)=false:=iW.2 (by omega);go_wp2_with fail
        go_meet
        exact⟨by simp[ho],rfl⟩
       case rest=>
        obtain⟨rfl,rfl⟩:=hcut;clear c5;by_cases q4:op=0/\0<hd
        ·have q5:=lI q4;have HE2:=eZ (show N=(18,hd)from by rw[HE.out,HW.out,eX (by omega),eX aa,eX ae,eY q4]);rw[q5];clear q4;go_wp2_with fail
         go_ret2;exact⟨by rw[HE2.out];rfl,ah⟩
        have q5:=jE q4;rw[q5];obtain⟨aI,aJ,aK⟩:=jF q4 aa ae;clear q4 aa ae;go_wp2_with fail
        refine(aP.out _ ah).mono ?_;rintro e wa ⟨rfl,hc⟩;have aj:=ah.trans (hc.mono ah.size);clear hc;cases hbv:bd with
        |true=>
         have HE2:=eZ (show N=(22,1)from by rw[HE.out,HW.out,eX (by omega),eX aJ.out,eX aK.out,eX aI.out,eY hbv]);go_wp2_with fail
         go_ret2;exact⟨by rw[HE2.out];rfl,aj⟩
        |false=>
         have HE2:=eZ (show N=(15,pl)from by rw[HE.out,HW.out,eX (by omega),eX aJ.out,eX aK.out,eX aI.out,eX (by rw[hbv];simp)]);have aR:=eZ (aQ.out _ aj hbv trivial);go_wp2_with fail
         refine aR.out.mono ?_;rintro e wb ⟨rfl,hc⟩;have aS:=aj.trans (hc.mono aj.size);clear hc;go_wp2_with fail
         go_ret2;exact⟨by rw[HE2.out];rfl,aS⟩
end
end Go.Proofs.YtmkkdjpebbdikaaGreatDoor

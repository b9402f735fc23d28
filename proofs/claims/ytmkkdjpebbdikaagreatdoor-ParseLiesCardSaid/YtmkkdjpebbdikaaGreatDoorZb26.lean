import Derived.Test.YtmkkdjpebbdikaaGreatDoorZb14
import Derived.Test.YtmkkdjpebbdikaaGreatDoorZb15
import Derived.ArgAppend
import Derived.Deep.DeepHandedRow
import Derived.LaidSub
import Derived.Lib.AppendStr
import Derived.Lib.ConvBytes
import Derived.Lib.EndianMore
import Derived.Lib.LaidU8T
import Derived.Lib.OwnKind
import Derived.Lib.SlBytesConst
import Derived.OpenShut
import Derived.ProofKit
import Derived.Shelf.SlSortCmp.NoneTotal
import Derived.Shelf.Spec.DecodeRune
import Derived.Shelf.Spec.NilArms
import Derived.Test.YtmkkdjpebbdikaaGreatDoorRows
set_option linter.all false
set_option maxHeartbeats 16000000
set_option maxRecDepth 100000
namespace Go.Proofs.YtmkkdjpebbdikaaGreatDoor
open Go.RowKit Go.Proofs.Tryz
def aim:=@cell_one_new
def al2:=@Below.heap_alloc
section
open Go.Shelf
def af7:Go.Shelf.Ren:=⟨fun|32=>104|49=>134|n=>n,fun|0=>0|3=>3|4=>4|5=>5|21=>21|25=>108|30=>23|33=>102|66=>177|68=>179|69=>180|n=>n,fun|2=>0|3=>1|n=>n⟩
theorem acW:Lays7.n32 prog af7:={
 mixed:=dV,
 f32:=func104.trans (congrArg some dV),
 f49:=func134.trans (congrArg some dV),
 t0:=underlying0,
 a0:=isAgg0,
 z0:=sizeOf0,
 v0:=zeroValue0,
 i0:=dV,
 t3:=underlying3,
 a3:=isAgg3,
 z3:=sizeOf3,
 v3:=zeroValue3,
 i3:=dV,
 t4:=underlying4,
 a4:=isAgg4,
 z4:=sizeOf4,
 v4:=zeroValue4,
 i4:=dV,
 t5:=underlying5,
 a5:=isAgg5,
 z5:=sizeOf5,
 v5:=zeroValue5,
 i5:=dV,
 t21:=underlying21,
 a21:=isAgg21,
 z21:=sizeOf21,
 v21:=zeroValue21,
 i21:=dV,
 t25:=underlying108,
 a25:=isAgg108,
 z25:=sizeOf108,
 v25:=zeroValue108,
 i25:=dV,
 t30:=underlying23,
 a30:=isAgg23,
 z30:=sizeOf23,
 v30:=zeroValue23,
 i30:=dV,
 t33:=underlying102,
 a33:=isAgg102,
 z33:=sizeOf102,
 v33:=zeroValue102,
 i33:=dV,
 t66:=underlying177,
 a66:=isAgg177,
 z66:=sizeOf177,
 t68:=underlying179,
 a68:=isAgg179,
 z68:=sizeOf179,
 v68:=zeroValue179,
 i68:=dV,
 t69:=underlying180,
 a69:=isAgg180,
 z69:=sizeOf180,
 v69:=zeroValue180,
 i69:=dV,
 g2:=dV,
 g3:=dV}
end
section
open Go.RowKit
open Sg
def oZ(w:World):Prop:=Lib.Utf8Tabs 0 1 w
theorem Sy(s:ByteArray)(b off cap:Nat)(w:World)(hT:oZ w)(hp:∀j,j<s.size->w.cell? ⟨b,off+j,none⟩=some (.int .u8 (s.get! j).toNat)):
 Calls prog 104 #[.slice (some ⟨b,off,none⟩) s.size cap] w λe w'=>e=.returned (.tuple #[.int .i32 (Lib.decodeGo s).1,.int .i64 (Lib.decodeGo s).2])/\Below w.heap.size w w' :=
 Any7.utf8_DecodeRune acW s b off cap w hT hp
theorem ak0(s:ByteArray):nx s 0=if(Lib.decodeGo s).1=65533/\(Lib.decodeGo s).2<2 then(-1,(Lib.decodeGo s).2)else(((Lib.decodeGo s).1:Int),(Lib.decodeGo s).2):=by
 unfold nx Dj Lib.decodeGo;rw[Gn];by_cases h:s.size=0
 ·rw[dX h,dX h,dX eG]
 ·rw[dW h,dW h,Lib.decode_at];rfl
theorem ahp(s:ByteArray):(Lib.decodeGo s).1<=1114111/\(Lib.decodeGo s).2<=4:=by
 unfold Lib.decodeGo;by_cases h:s.size=0
 ·rw[dX h];simp
 ·rw[dW h,Lib.decode_at];generalize (s.get! 0).toNat=b0,(s.get! (0+1)).toNat=b1,(s.get! (0+2)).toNat=b2,(s.get! (0+3)).toNat=b3;unfold Lib.decodeN
  exact JP
theorem Lg(v:Value)(r k:Nat)(Q:World->World->Prop)(w:World)(hr:r<=1114111)(hk:k<=4)
 (c:Calls prog 104 #[v] w λe w'=>e=.returned (.tuple #[.int .i32 r,.int .i64 k])/\Q w w'):
 Calls prog 69 #[v] w λe w'=>e=.returned (.tuple #[.int .i32 (if r=65533/\k<2 then(-1,k)else((r:Int),k)).1,.int .i64 (if r=65533/\k<2 then(-1,k)else((r:Int),k)).2])/\Q w w':=by
 have C:=dY c;clear c;by_cases h1:r=65533
 ·subst h1;by_cases h2:k<2
  ·rw[dX ⟨rfl,h2⟩]
   exact QO
  ·rw[dW (λh=>h2 h.2)]
   exact QO
 ·rw[dW (λh=>h1 h.1)];have hb:((r:Int)==65533)=false:=by simp;omega
  clear h1
  exact QO
theorem Ie(s:ByteArray)(n b off cap:Nat)(w:World)(hn:s.size=n)(hT:oZ w)(hp:∀j,j<n->w.cell? ⟨b,off+j,none⟩=some (.int .u8 (s.get! j).toNat)):
 Calls prog 69 #[.slice (some ⟨b,off,none⟩) n cap] w λe w'=>e=.returned (.tuple #[.int .i32 (nx s 0).1,.int .i64 (nx s 0).2])/\Below w.heap.size w w':=by
 subst hn;rw[ak0];exact Lg _ _ _ (λw w'=>Below w.heap.size w w') w (ahp s).1 (ahp s).2 (Sy s b off cap w hT hp)
theorem oZ.below{w w':World}(h:oZ w)(hb:Below w.heap.size w w'):oZ w':=by
 refine⟨λc hc=>?_,λi hi=>⟨?_,?_⟩⟩
 ·have h0:=h.1 c hc;rw[hb.cell (p:=⟨0,c,none⟩) (lt_of_cell h0)];exact h0
 ·have h0:=(h.2 i hi).1;rw[hb.cell (p:=⟨1,2*i,none⟩) (lt_of_cell h0)];exact h0
 ·have h0:=(h.2 i hi).2;rw[hb.cell (p:=⟨1,2*i+1,none⟩) (lt_of_cell h0)];exact h0
end
section
open Go.RowKit
open Sg
theorem Oy(s:ByteArray)(b off cap:Nat)(w:World)(hT:oZ w)(hm:s.size<=1000000)(hcap:s.size<=cap)(hcm:cap<=maxLen)(hp:∀j,j<s.size->w.cell? ⟨b,off+j,none⟩=some (.int .u8 (s.get! j).toNat)):
 Calls prog 42 #[.slice (some ⟨b,off,none⟩) s.size cap] w λe w'=>∃v,e=.returned v/\w'.ownsRow w.heap.size 3 1 v (bad s).length (places (bad s))/\Below w.heap.size w w':=by
 obtain⟨i0,hi,hz0,hz1,hz2⟩:=Pe TZ;have hcv:=Fx b off cap s w hp;have hm2:s.size<=9223372036854775807:=dS
 simp only[maxLen]at hcm
 go_enter func42,ntmps42
 go_wp2;clear hcv
 go_loopg [3] s.size (λgf v wr=>∃(pos:Nat)(acc:List Nat),wr.ownsRow w.heap.size 3 1 v acc.length (places acc)/\wr.heap[w.heap.size]?=some (.stringIter s pos)/\Below w.heap.size w wr/\acc++lQ s gf pos=bad s/\s.size<=pos+gf/\acc.length<=pos/\pos<=s.size)
 case atStart=>exact⟨0,[],Pd _ _ _ _,AL w s 0,(fD _ w).alloc (eO _) _,by simp[bad],dS,eO _,fP _⟩
 case round=>
  obtain⟨pos,acc,hown,hit,hb,hc,hf,ha,hps⟩:=hrel;by_cases hlt:pos<s.size
  ·obtain⟨g',rfl⟩:∃g',gk=g'+1:=⟨gk-1,dS⟩
   have hnx:∀ty,(Instr.next (.pointer (some ⟨w.heap.size,0,none⟩)) true ty).run prog wr=_:=λty=>Gs wr w.heap.size s pos ty hit hlt
   have hwd:=Bd s pos hlt;have hwn:=Md s pos hlt;have hlo:=akG s pos;have aa:=aaW s pos hlt;rw[Vr s g' pos hlt]at hc;rw[<-rq s pos hlt]at hnx;have af:nx (s.extract pos s.size) 0=nx s pos:=by rw[ae8,oW]
   obtain⟨K,hK⟩:=eu ((nx s pos).2);obtain⟨X,hX⟩:=eu ((nx s pos).1);obtain⟨R,hR⟩:=eu ((Utf8.decode s pos).1);rw[hX]at hlo aa hc;rw[hR]at aa;rw[hK,hR]at hnx;rw[hK]at hwd hwn hc;have hit2:=yI wr w.heap.size s pos (pos+K) hit;have hb2:=tJ hb (k:=w.heap.size) (eO _) s (pos+K);have hown2:=own_iterAt hown hit (pos+K);obtain⟨W,hWd⟩:=eu (wr.iterAt w.heap.size s (pos+K));rw[hWd]at hnx hit2 hb2 hown2;have ag:oZ W:=hT.below hb2
   have hN:=Ie (s.extract pos s.size) (s.size-pos) b (off+pos) (cap-pos) W (aid s pos) ag (λj hj=>by
    have hc0:=hp (pos+j) dS;have hblt:b<w.heap.size:=lt_of_cell hc0
    rw[aeK,hb2.cell (p:=⟨b,off+pos+j,none⟩) hblt,<-hc0,aeB])
   rw[af,hK,hX]at hN;obtain⟨HN,HC⟩:=fw hN hc;have hpi:(pos:Int)<=(cap:Int):=dS
   have hpi2:(pos:Int)<(s.size:Int):=dS
   clear hK hR hX hWd hit hb hc hN ag hown af hp hT;by_cases hr:R=65533
   ·subst hr;clear aa;by_cases hx:X=-1
    ·subst hx;go_wp2_with fail
     refine HN.out.mono ?_;rintro e W1 ⟨rfl,hb3⟩;have hlt2:w.heap.size<W.heap.size:=(Dl.1 hit2).1
     have hown3:=eZ hown2 hb3;have hit3:=(hb3.block _ hlt2).trans hit2;have hb4:=hb2.trans (hb3.mono hb2.size);clear hb3 hb2 hit2 hown2;go_wp2_with (at_builtin;go_must (refine aeH _ rfl (.tmp 24) (.tmp 26) 22 rfl w.heap.size 3 i0 (.int .i64 0) 1 8 underlying22 hi hz0 hz1 hz2 rfl dU _ _ _ rfl (hown3.alloc _) ⟨W1.heap.size,0,none⟩ 1 1 [.int .i64 (pos:Int)] rfl rfl (aim _ _ _) Qf pg dS (by have:=hb4.size;simp;omega) ?_;intro v3 w3 ae hgrow hnil))
     go_roundg g'
     case measure=>omega
     case rel=>
      have hX:=hown3.alloc (.cells #[.int .i64 (pos:Int)] 3);have hc:=HC.out;rw[dX dS,<-pI]at hc;refine⟨pos+K,acc++[pos],?_,?_,?_,hc,dS,eQ,hwn⟩
      ·rw[iK,Cj];exact ae
      ·have hlt3:w.heap.size<W1.heap.size:=(Dl.1 hit3).1
       exact(hgrow.block w.heap.size eQ (own_ne_iter hown3 hit3)).trans ((al2 _ _ _ hlt3).trans hit3)
      ·exact(hb4.alloc hb4.size _).grown hgrow (by have:=hb4.size;simp;omega) (λj hj=>(hX.lt j hj).1)
    ·have hxb:((X:Int)==-1)=false:=by simp;omega
     go_wp2_with fail
     refine HN.out.mono ?_;rintro e W1 ⟨rfl,hb3⟩;have hlt2:w.heap.size<W.heap.size:=(Dl.1 hit2).1
     have hown3:=eZ hown2 hb3;have hit3:=(hb3.block _ hlt2).trans hit2;have hb4:=hb2.trans (hb3.mono hb2.size);clear hb3 hb2 hit2 hown2;go_wp2
     go_roundg g'
     case measure=>omega
     case rel=>
      have hc:=HC.out;rw[dW dS]at hc;exact⟨pos+K,acc,hown3,hit3,hb4,hc,dS,dS,hwn⟩
   ·have ah:=aa hr;have hrb:((R:Int)==65533)=false:=by simp;omega
    clear aa hr;go_wp2
    go_roundg g'
    case measure=>omega
    case rel=>
     have hc:=HC.out;rw[dW dS]at hc;exact⟨pos+K,acc,hown2,hit2,hb2,hc,dS,dS,hwn⟩
  ·have hnx:∀ty,(Instr.next (.pointer (some ⟨w.heap.size,0,none⟩)) true ty).run prog wr=_:=λty=>Dv wr w.heap.size s pos ty hit hlt
   rw[Ms s gk pos hlt,nJ]at hc;subst hc;go_wp2;go_ret;exact⟨_,rfl,hown,hb⟩
theorem Lh(w:World):
 Calls prog 42 #[.slice none 0 0] w λe w'=>∃v,e=.returned v/\w'.ownsRow w.heap.size 3 1 v 0 []/\Below w.heap.size w w':=by
 have hcv:=MB w 0;have hnx:∀ty,(Instr.next (.pointer (some ⟨w.heap.size,0,none⟩)) true ty).run prog (w.iter ⟨#[]⟩ 0)=_:=λty=>run_next_end w ⟨#[]⟩ 0 ty dU
 go_enter func42,ntmps42
 go_wp2;refine wp_loop_rounds 1 ?_;rw[rounds_succ];go_wp2;go_ret;exact⟨_,rfl,Pd _ _ _ _,(fD _ w).alloc (eO _) _⟩
theorem acX(s:ByteArray)(v:Value)(w:World)(h:qR w v s)(hT:oZ w)(hm:s.size<=1000000):
 Calls prog 42 #[v] w λe w'=>∃v,e=.returned v/\w'.ownsRow w.heap.size 3 1 v (bad s).length (places (bad s))/\Below w.heap.size w w':=by
 rcases h with⟨rfl,h⟩|⟨b,off,cap,rfl,h2,h3,h4⟩
 ·have e:bad s=[]:=Ms s _ _ dS;rw[e];exact Lh w
 ·exact Oy s b off cap w hT hm h2 h3 h4
end
namespace Ps
open Ar Fl
theorem Yn{l:List Nd}{n:Int}(h:Ck l n){c i:Nat}(ho:On l c i):∀(x y:Nd),l[c]?=some x->l[i]?=some y->y.f<=x.f/\x.t<=y.t:=by
 induction ho with
 |self=>intro x y hx hy;rw[hx]at hy;injection hy with hy;subst hy;omega
 |out d q i w hd hq h00 ho ih=>
  intro x y hx hy;rw[hd]at hx;injection hx with hx;subst hx
  have aa:=h.up d w h00 hd;obtain⟨z,hz⟩:∃z,l[q]?=some z:=⟨_,fu (by have:=(eY.1 hd).1;omega)⟩
  have hm:=Fe.zJ h hd hq h00 hz;obtain⟨j,w',hj,_,hw',_,g1,g2,g3⟩:=h.kid q z hz _ hm;obtain rfl:j=d:=dS
  rw[hd]at hw';injection hw' with hw';subst hw'
  have g3:=g3.elim id False.elim;have:=ih z y hz hy;omega
theorem UF{l:List Nd}{c i:Nat}(ho:On l c i):c=i\/∃q w,On l c q/\l[q]?=some w/\w.u=(i:Int)/\0<q:=by
 induction ho with
 |self=>exact .inl rfl
 |out d q i w hd hq h00 ho ih=>
  rcases ih with rfl|⟨q',w',g1,g2,g3,g4⟩
  ·exact .inr ⟨d,w,.self _,hd,hq,h00⟩
  ·exact .inr ⟨q',w',.out d q q' w hd hq h00 g1,g2,g3,g4⟩
theorem acY{α:Type}{P:α->α->Prop}{l:List α}(h:l.Pairwise P){a b:α}(ha:a∈l)(hb:b∈l)(hab:a≠b):P a b\/P b a:=by
 induction l with
 |nil=>cases ha
 |cons x r ih=>
  rw[vI]at h;rcases kY.1 ha with rfl|ha2
  ·rcases kY.1 hb with rfl|hb2
   ·exact absurd rfl hab
   ·exact .inl (h.1 b hb2)
  ·rcases kY.1 hb with rfl|hb2
   ·exact .inr (h.1 a ha2)
   ·exact ih h.2 ha2 hb2
theorem apart{l:List Nd}{n:Int}(h:Ck l n):∀(m i j:Nat)(x y:Nd),i+j<=m->i<j->l[i]?=some x->l[j]?=some y->¬On l i j->¬On l j i->x.t<=y.f\/y.t<=x.f
 |0,i,j,x,y=>λh1 h2=>dS
 |m+1,i,j,x,y=>λh1 h2 hx hy hij hji=>by
  have hu:=h.up j y dS hy;obtain⟨p,hp⟩:∃p:Nat,y.u=(p:Int):=⟨y.u.toNat,dS⟩
  have hjl:=(eY.1 hy).1;obtain⟨z,hz⟩:∃z,l[p]?=some z:=⟨_,fu dS⟩
  have hjp:On l j p:=.out j p p y hy hp dS (.self _);have hin:=Yn h hjp y z hy hz;have hpi:¬On l p i:=λho=>hji (.out j p i y hy hp dS ho)
  have hne:p≠i:=λe=>hpi (by rw[e];exact .self _)
  by_cases aa:On l i p
  ·rcases UF aa with e|⟨q,w,g1,g2,g3,g4⟩
   ·exact absurd e.symm hne
   ·have hqj:q≠j:=λe=>hij (by rw[<-e];exact g1)
    have k1:=Fe.zJ h g2 g3 g4 hz;have k2:=Fe.zJ h hy hp dS hz;have ae:=Yn h g1 x w hx g2;rcases acY (h.ord p z hz) k1 k2 dS with hA|hA
    ·have:=hA.2 w y (by rw[jd];exact g2) AO;left;omega
    ·have:=hA.2 y w AO (by rw[jd];exact g2);right;omega
  ·rcases O3 i p with hlt|heq|hgt
   ·rcases apart h m i p x z dS hlt hx hz aa hpi with g|g
    ·left;omega
    ·right;omega
   ·exact absurd heq.symm hne
   ·rcases apart h m p i z x dS hgt hz hx hpi aa with g|g
    ·right;omega
    ·left;omega
theorem ahq{l:List Nd}{n:Int}(h:Ck l n)(hl:Fe.Lf l){i j:Nat}{y:Nd}(hy:l[j]?=some y)(hk:y.k=11)(hij:i≠j):¬On l i j:=by
 intro ho;rcases UF ho with e|⟨q,w,g1,g2,g3,g4⟩
 ·exact hij e
 ·have:=Fe.zJ h g2 g3 g4 hy;rw[(hl j y hy hk).1]at this;cases this
theorem SA{l:List Nd}{n:Int}(h:Ck l n)(hl:Fe.Lf l){i j:Nat}{x y:Nd}(hij:i≠j)(hx:l[i]?=some x)(hy:l[j]?=some y)(hxk:x.k=11)(hyk:y.k=11):x.f<y.f\/y.f<x.f:=by
 have h1:=ahq h hl hy hyk hij;have h2:=ahq h hl hx hxk (λe=>hij e.symm);have hx1:=(hl i x hx hxk).2;have hy1:=(hl j y hy hyk).2;rcases mD i j with hlt|hge
 ·rcases apart h _ i j x y (eO _) hlt hx hy h1 h2 with g|g
  ·left;omega
  ·right;omega
 ·rcases apart h _ j i y x (eO _) dS hy hx h2 h1 with g|g
  ·right;omega
  ·left;omega
theorem count_one{α:Type}(p:α->Bool):∀(l:List α)(i:Nat)(x:α),l[i]?=some x->p x=true->(∀j y,l[j]?=some y->p y=true->j=i)->l.countP p=1
 |[],i,x=>λh=>jQ
 |a::r,0,x=>λh hp hu=>by
  have h:a=x:=kU
  subst h;rw[qH,dX hp];have:r.countP p=0:=by
   rw[Gg];intro y hy hpy;obtain⟨j,hj⟩:=jy hy;have:=hu (j+1) y (by simpa using hj) hpy;omega
  omega
 |a::r,i+1,x=>λh hp hu=>by
  rw[qH,dW (λha=>by have:=hu 0 a rfl ha;omega)];have:=count_one p r i x kU hp (λj y hj hpy=>by have:=hu (j+1) y (by simpa using hj) hpy;omega);omega
theorem aby{l:List Tk}(ht:Rw.jO 0 l){a b:Nat}(h1:a<b)(h2:b<l.length):kW l a<kW l b:=by
 have ha:l[a]?=some l[a]:=fu dS;have hb:l[b]?=some l[b]:=fu h2;have g1:=ht.lt a b _ _ h1 ha hb;have g2:=(ht.le a _ ha).2;unfold kW;rw[ha,hb];dsimp only;omega
theorem Yo{l:List Nd}{n:Int}(h:Ck l n){i:Nat}{x:Nd}(hx:l[i]?=some x):0<=x.f/\x.t<=n:=by
 obtain⟨z,h0,h1,h2,h3⟩:=h.zero;have key:∀i x,l[i]?=some x->On l i 0:=by
  intro i
  induction i using Nat.strongRecOn with
  |ind i ih=>
   intro x hx;rcases rP i with rfl|hi
   ·exact .self _
   ·have hu:=h.up i x hi hx;have hl:=(eY.1 hx).1;obtain⟨y,hy⟩:∃y,l[x.u.toNat]?=some y:=⟨_,fu dS⟩
    exact .out i x.u.toNat 0 x hx dS hi (ih _ dS y hy)
 have:=Yn h (key i x hx) x z hx h0;omega
theorem EX{tk:List Tk}{l:List Nd}(ht:Rw.jO 0 tk)(h:Ck l tk.length)(hl:Fe.Lf l){i:Nat}{x:Nd}(hx:l[i]?=some x)(hk:x.k=11):
 Fe.errs tk l (kW tk x.f.toNat,too tk (x.t-1).toNat)=1:=by
 unfold Fe.errs;refine count_one _ l i x hx (by simp[hk]) (λj y hy hp=>?_);simp at hp;by_cases hij:i=j
 ·exact hij.symm
 ·exfalso;have hx1:=(hl i x hx hk).2;have hy1:=(hl j y hy hp.1).2;have bx:=Yo h hx;have bY:=Yo h hy;rcases SA h hl hij hx hy hk hp.1 with g|g
  ·have:=aby ht (a:=x.f.toNat) (b:=y.f.toNat) dS dS;omega
  ·have:=aby ht (a:=y.f.toNat) (b:=x.f.toNat) dS dS;omega
end Ps
namespace Ps
open Ar Fl
open Rw (R E)
def iX(x:Dg):Bool:=(decide (5<=x.code)&&decide (x.code<=8))||x.code==10
def over(g:Nat×Nat)(x:Dg):Bool:=iX x&&(x.f==g.1&&x.t==g.2)
theorem Rn:∀(f p:Nat)(l:List Nat),∀x∈lQ f p l,x<p+l.length
 |0,p,l=>λx hx=>qU
 |f+1,p,l=>λx hx=>by
  rw[lQ]at hx;by_cases hl:l=[]
  ·rw[dX hl]at hx;cases hx
  ·rw[dW hl]at hx;have hpos:0<l.length:=aes.2 hl
   have key:∀n,∀x∈lQ f (p+n) (l.drop n),x<p+l.length:=by
    intro n x hx;have:=Rn f _ _ x hx;rw[ky]at this;by_cases h:n<=l.length
    ·omega
    ·rw[oG dS]at hx;cases f with
     |zero=>cases hx
     |succ f=>rw[lQ,dX rfl]at hx;cases hx
   split at hx
   ·rcases kY.1 hx with rfl|hx
    ·omega
    ·exact key _ x hx
   ·exact key _ x hx
theorem Yp:∀(f p:Nat)(l:List UInt8),∀x∈(Qo.Dk f p l).2.1,x<p+l.length
 |0,_,_=>λx hx=>qU
 |_+1,_,[]=>λx hx=>qU
 |f+1,p,c::r=>λx hx=>by
  rw[Qo.Dk]at hx;by_cases q:c=34
  ·rw[dX q]at hx;cases hx
  ·rw[dW q]at hx;have h1:x∈(Qo.Dk f (p+1) r).2.1->x<p+(c::r).length:=by
    intro h;have:=Yp f _ _ x h;rw[iR];omega
   by_cases q2:c=92
   ·rw[dX q2]at hx;cases he:Es.esc (c::r)with
    |none=>
     rw[he]at hx;dsimp only at hx;rcases kY.1 hx with rfl|hx
     ·rw[iR];omega
     ·exact h1 hx
    |some y=>
     obtain⟨v,k⟩:=y;rw[he]at hx;dsimp only at hx;have hk:=Qo.zK he;have:=Yp f _ _ x hx;rw[ky]at this;omega
   ·rw[dW q2]at hx;exact h1 hx
theorem Ae(kind:Int)(l:List UInt8):∀x∈(Qo.mI kind l).2.1,x<l.length:=by
 intro x hx;unfold Qo.mI at hx;by_cases h0:l=[]
 ·rw[dX h0]at hx;cases hx
 ·rw[dW h0]at hx;have hpos:0<l.length:=aes.2 h0
  split at hx
  ·cases hx
  ·split at hx
   ·cases hx
   ·split at hx
    ·have:=Yp _ _ _ x hx;rw[ky]at this;omega
    ·cases hx
theorem zQ(b:List Nat):∀x∈jA b (Sc.tokens b),x.f<=x.t/\x.t<=b.length/\x.code<=4:=by
 intro x hx;have ht:=Rw.iZ b;unfold jA at hx;rw[kC,kC]at hx;rcases hx with(hx|hx)|hx
 ·obtain⟨p,hp,rfl⟩:=tC.1 hx;have:=Rn _ _ _ p hp;exact⟨by show p<=p+1;omega,by show p+1<=_;omega,by show 1<=4;omega⟩
 ·obtain⟨r,_,hx⟩:=Ce.1 hx;unfold tabs at hx;split at hx
  ·obtain⟨i,_,hx⟩:=ahP.1 hx;split at hx
   ·rename_i hc;injection hx with hx
    subst hx;have hi:=Rb (l:=Sc.tokens b) (i:=r.from'+i) dS;have hg:(Sc.tokens b)[r.from'+i]?=some (Sc.tokens b)[r.from'+i]:=fu hi;have h1:=(ht.le _ _ hg).2;have h2:=mJ b _ (OZ hi);refine⟨?_,?_,by show 2<=4;omega⟩
    ·show kW _ _<=too _ _;unfold kW too;rw[hg];dsimp only;omega
    ·show too _ _<=_;unfold too;rw[hg];exact h2.2
   ·cases hx
  ·cases hx
 ·obtain⟨k,hk,hx⟩:=Ce.1 hx;obtain⟨j,hj⟩:=jy hk;have h1:=(ht.le j k hj).2;have h2:=mJ b k hk;unfold iF at hx;split at hx
  ·rcases kC.1 hx with hx|hx
   ·split at hx
    ·cases hx
    ·obtain rfl:=tF.1 hx;exact⟨by show k.2.1<=k.2.2;omega,h2.2,by show 3<=4;omega⟩
   ·obtain⟨q,hq,rfl⟩:=tC.1 hx;have:=Ae _ _ q hq;unfold part at this;rw[jl,mX,ky]at this;exact⟨by show k.2.1+q<=k.2.1+q+1;omega,by show k.2.1+q+1<=_;omega,by show 4<=4;omega⟩
  ·cases hx
theorem Ig(d:List Dg)(hd:∀x∈d,5<=x.code/\x.code<=10)(g:Nat×Nat):Fe.told d g=d.countP (over g):=by
 unfold Fe.told;refine XK (λx hx=>?_);have:=hd x hx;unfold over iX;by_cases h9:x.code=9
 ·rw[h9];simp
 ·rw[show(x.code !=9)=true by simpa using h9];have:((decide (5<=x.code)&&decide (x.code<=8))||x.code==10)=true:=by
   simp;omega
  rw[this]
end Ps
section
open Go.RowKit
open Sg
theorem qR.fo{w:World}{base:Nat}{v:Value}{s:ByteArray}(h:w.ownsRow base 5 1 v s.size (s.data.toList.map fun(x:UInt8)=>Value.int .u8 x.toNat)):qR w v s:=by
 rcases h.2 with⟨h1,h2⟩|⟨g,cap,cur,h1,h2,h3,h4,h5,h6,h7⟩
 ·exact .inl ⟨h1,h2⟩
 ·refine .inr ⟨g,0,cap,h1,h4,h5,λj hj=>?_⟩;have hj':j<s.data.toList.length:=by rw[<-vL];exact hj
  have hc:=h.cells (g:=g) (by rw[h1];rfl) j (.int .u8 ((s.data.toList[j]).toNat:Int)) (by rw[kS,fu hj'];rfl);rw[addr_add]at hc;rw[hc,<-AJ,xC,fu hj'];rfl
theorem infoByte:(prog.info? 5).map (λi=>(i.zero,i.size,i.bytes))=some (some (.int .u8 0),1,1):=dV
theorem af8{w:World}{b off:Nat}{s:ByteArray}(h:∀j,j<s.size->w.cell? ⟨b,off+j,none⟩=some (.int .u8 (s.get! j).toNat)):
 ∀j u,(s.data.toList.map fun(x:UInt8)=>Value.int .u8 x.toNat)[j]?=some u->w.cell? ((⟨b,off,none⟩:Addr).add j)=some u:=by
 intro j u hu;rw[kS]at hu;obtain⟨x,hx,rfl⟩:=akn.1 hu;have hj:j<s.data.toList.length:=(eY.1 hx).1
 rw[addr_add,h j (by rw[vL];exact hj),<-AJ,xC,hx];rfl
theorem acZ(s:ByteArray):(s.data.toList.map fun(x:UInt8)=>Value.int .u8 (x.toNat:Int)).length=s.size:=by rw[jl,<-vL]
theorem ac0(s:ByteArray):∀u∈(s.data.toList.map fun(x:UInt8)=>Value.int .u8 (x.toNat:Int)),u.oneCell'=true:=by
 intro u hu;obtain⟨x,_,rfl⟩:=tC.1 hu;rfl
def cellsOf(s:ByteArray):List Value:=s.data.toList.map fun(x:UInt8)=>Value.int .u8 (x.toNat:Int)
theorem oP{w:World}{ops:Array Oper}{rest:List Oper}{o:Oper}{a:Act}{Q:Exit->Act->World->Prop}(hgd:o.guard=none)(x y:Operand)
 (ho:o.op=.call {callee:=.builtin .append,args:=#[x,y],argTypes:=#[23,23]})
 (base:Nat) (v:Value) (n:Nat) (xs:List Value) (hs:a.eval x=v) (hown:w.ownsRow base 5 1 v n xs) (yv:Value) (s:ByteArray) (hy:a.eval y=yv) (hb:qR w yv s)
 (hlen:n+s.size<=140737488355328) (hbase:base<=w.heap.size)
 (h:∀v' w',w'.ownsRow base 5 1 v' (n+s.size) (xs++cellsOf s)->w.grownBy w' v.ownBlock->wpList prog ops Q rest (a.put o.dst v') w'):wpList prog ops Q (o::rest) a w:=by
 obtain⟨i0,hi,hz0,hz1,hz2⟩:=Pe infoByte;rcases hb with⟨rfl,hz⟩|⟨b,off,cap,rfl,h2,h3,h4⟩
 ·refine wpList_append_own_none hgd x y 23 ho base 5 i0 1 underlying23 hi v n xs hs hown hy ?_;have e:cellsOf s=[]:=by
   have:s.data.toList.length=0:=by rw[<-vL];exact hz
   rw[cellsOf,l9 this];rfl
  refine h v w ?_ ⟨rfl,rfl,rfl,eO _,λ_ _ _=>rfl⟩;rw[e,hz,nJ,oW];exact hown
 ·exact aeH w hgd x y 23 ho base 5 i0 (.int .u8 0) 1 1 underlying23 hi hz0 hz1 hz2 rfl dU v n xs hs hown ⟨b,off,none⟩ s.size cap (cellsOf s) hy (by rw[cellsOf,acZ,Nat.mul_one]) (af8 h4) (ac0 s) qV dS hbase (λv' w' q1 q2 _=>h v' w' q1 q2)
theorem qR.shape{w:World}{v:Value}{s:ByteArray}(h:qR w v s):∃a cap,v=.slice a s.size cap:=by
 rcases h with⟨h1,h2⟩|⟨b,off,cap,h1,_⟩
 ·exact⟨none,0,by rw[h1,h2]⟩
 ·exact⟨_,_,h1⟩
end
section
open Go.RowKit
structure Ro(w:World)(g:Nat)(s:ByteArray)(cap:Nat):Prop where
 le:s.size<=cap
 max:cap<=maxLen
 at':∃C fr,w.heap[g]?=some (.cells C 5 fr)/\C.size=cap/\C.size<=fr.1
 cell:∀j,j<s.size->w.cell? ⟨g,j,none⟩=some (.int .u8 (s.get! j).toNat)
theorem Ro.bys{w:World}{g:Nat}{s:ByteArray}{cap:Nat}(h:Ro w g s cap):qR w (.slice (some ⟨g,0,none⟩) s.size cap) s:=
 .inr ⟨g,0,cap,rfl,h.le,h.max,λj hj=>by rw[jY];exact h.cell j hj⟩
theorem Af(s:ByteArray)(w:World)(hs:s.size<=maxLen):
 ∃cap w',(convert 9 23 (.string s)).run prog w=.ok (.slice (some ⟨w.heap.size,0,none⟩) s.size cap) w'/\Ro w' w.heap.size s cap/\Below w.heap.size w w':=by
 refine⟨grownCap w s.size 0 5,Lib.bytesWorld w 5 s,Lib.run_convert_string_bytes w 9 23 5 s underlying9 underlying23 underlying5,?_,?_⟩
 ·have hge:=grownCap_ge w s.size 0 5;have hC:(Lib.bytesCells w 5 s).size=grownCap w s.size 0 5:=by
   have e:s.data.size=s.size:=rfl;simp[Lib.bytesCells,e];omega
  refine⟨hge,grownCap_le_maxLen _ _ _ _ hs,⟨_,_,Lib.bytesWorld_at_new w 5 s,hC,eO _⟩,λj hj=>?_⟩;rw[Lib.bytesWorld_cell w 5 s j hj,AJ]
 ·exact⟨rfl,rfl,rfl,by rw[Lib.bytesWorld_size];omega,λi hi=>Lib.bytesWorld_at_old w 5 s i hi⟩
end
section
open Go.RowKit
open Sg
theorem UG{w:World}{a:Option Addr}{s:ByteArray}{cap lo hi:Nat}(h:qR w (.slice a s.size cap) s)(h1:lo<=hi)(h2:hi<=s.size):
 qR w (.slice (if cap=lo then a else a.map λx=>x.add lo) (hi-lo) (cap-lo)) (s.extract lo hi):=by
 have hz:=ext_size s lo hi h2;rcases h with⟨hv,h0⟩|⟨b,off,cap',hv,g2,g3,g4⟩
 ·obtain⟨rfl,-,rfl⟩:=lX hv;obtain rfl:lo=0:=by omega
  obtain rfl:hi=0:=dS
  exact .inl ⟨rfl,hz⟩
 ·obtain⟨rfl,-,rfl⟩:=lX hv;by_cases hc:cap=lo
  ·rw[dX hc];refine .inr ⟨b,off,cap-lo,by rw[hz],dS,dS,λj hj=>?_⟩;rw[hz]at hj;omega
  ·rw[dW hc];refine .inr ⟨b,off+lo,cap-lo,?_,dS,dS,λj hj=>?_⟩
   ·rw[hz,AB,addr_add]
   ·rw[hz]at hj;rw[ext_get s lo hi j dS,aeB];exact g4 (lo+j) dS
theorem uq{w:World}{v:Value}{s:ByteArray}(h:qR w v s):(convert 23 9 v).run prog w=.ok (.string s) w:=by
 rcases h with⟨rfl,h⟩|⟨b,off,cap,rfl,h2,h3,h4⟩
 ·rw[MB];have:s=⟨#[]⟩:=by
   cases s with
   |mk d=>simp[ByteArray.size]at h;rw[h]
  rw[this]
 ·exact Fx b off cap s w h4
theorem qR.wL{w:World}{a:Option Addr}{s:ByteArray}{cap:Nat}(h:qR w (.slice a s.size cap) s):s.size<=cap/\cap<=maxLen:=by
 rcases h with⟨hv,h0⟩|⟨b,off,cap',hv,g2,g3,g4⟩
 ·obtain⟨rfl,-,rfl⟩:=lX hv;exact⟨dS,fP _⟩
 ·obtain⟨rfl,-,rfl⟩:=lX hv;exact⟨g2,g3⟩
theorem FN:prog.underlying 23=some (.slice (prog.elem 23)):=dV
theorem size_bytes(w:World):(sizeOf (prog.elem 23)).run prog w=.ok 1 w:=dV
theorem af9{w:World}{a:Option Addr}{s:ByteArray}{cap lo hi:Nat}(h:qR w (.slice a s.size cap) s)(h1:lo<=hi)(h2:hi<=s.size):
 ∃v,(∀W:World,(Instr.slice 23 (.slice a s.size cap) (some (.int .i64 (lo:Int))) (some (.int .i64 (hi:Int))) none).run prog W=.ok v W)/\qR w v (s.extract lo hi):=by
 have hb:=UG h h1 h2;have hc:=h.wL;refine⟨_,λW=>?_,hb⟩;rw[run_slice_lh W _ a s.size cap FN .i64 .i64 lo hi dS dS dS,size_bytes];simp[Result.andThen,sliced]
end
section
open Go.RowKit
open Sg
theorem Cq(a b:ByteArray):cellsOf (a++b)=cellsOf a++cellsOf b:=by simp[cellsOf]
end
section
open Go.RowKit
theorem wpList_append_text{w:World}{ops:Array Oper}{rest:List Oper}{o:Oper}{a:Act}{Q:Exit->Act->World->Prop}(hgd:o.guard=none)(x y:Operand)
 (ho:o.op=.call {callee:=.builtin .append,args:=#[x,y],argTypes:=#[23,9]})
 (base:Nat) (v:Value) (n:Nat) (xs:List Value) (hs:a.eval x=v) (hown:w.ownsRow base 5 1 v n xs) (s:ByteArray) (hy:a.eval y=.string s)
 (hlen:n+s.size<=140737488355328) (hbase:base<=w.heap.size)
 (h:∀v' w',w'.ownsRow base 5 1 v' (n+s.size) (xs++cellsOf s)->w.grownBy w' v.ownBlock->wpList prog ops Q rest (a.put o.dst v') w'):wpList prog ops Q (o::rest) a w:=by
 obtain⟨i0,hi,hz0,hz1,hz2⟩:=Pe infoByte;refine wpList_plain hgd λK hK=>?_
 obtain⟨v',w',hr,h2,h3,h4⟩:=Lib.run_append_own_string (P:=prog) (w:=w) base 23 9 o.type 5 i0 underlying23 dV hi hz0 hz1 hz2 v n xs hown s qV hlen hbase;unfold Oper.wp execOp;simp only[ho,resolve,invoke,builtin,ah1,ah2,aeG,ahN,yG,O0,hs,hy,hr];exact hK _ _ (h v' w' h2 h3)
theorem EY{W:World}{B:Nat}{v:Value}{out x:ByteArray}(h:W.ownsRow B 5 1 v (out.size+x.size) (cellsOf out++cellsOf x)):W.ownsRow B 5 1 v (out++x).size (cellsOf (out++x)):=by
 rw[Sg.ni,Cq];exact h
theorem yh{a w w':World}{B:Nat}{row:Option Nat}(h:Below B a w)(hg:w.grownBy w' row)(hr:∀k,row=some k->B<=k)(hB:B<=w.heap.size):Below B a w':=h.grown hg hB hr
end
section
open Go.Shelf Go.RowKit
def ajt:Go.Shelf.Ren:=⟨fun|6=>46|14=>74|15=>75|20=>107|21=>108|22=>109|23=>110|24=>111|25=>112|26=>113|27=>114|28=>115|29=>116|46=>139|47=>140|48=>141|49=>142|50=>143|57=>161|n=>n,fun|0=>0|1=>1|2=>2|3=>3|4=>4|5=>5|6=>6|7=>7|8=>8|9=>9|10=>10|11=>11|12=>12|13=>13|14=>14|15=>15|16=>16|17=>17|18=>18|19=>19|20=>20|21=>21|22=>32|23=>79|24=>40|25=>81|27=>22|29=>35|37=>106|38=>107|39=>108|42=>48|44=>135|45=>136|46=>137|47=>138|48=>139|49=>140|50=>141|51=>142|52=>143|53=>144|54=>145|55=>146|66=>163|67=>164|68=>165|69=>166|70=>167|71=>168|76=>182|77=>87|78=>183|81=>197|82=>198|83=>199|84=>200|85=>201|86=>202|87=>101|88=>203|89=>204|90=>205|91=>206|92=>207|93=>208|94=>209|95=>210|96=>211|n=>n,λn=>n⟩
theorem UH:SlLaysF0.n6 prog ajt:={
 mixed:=dV,
 f6:=⟨ "slices.SortFunc[[]corrector/api.Diag,corrector/api.Diag]",dU,func46.trans (congrArg some dV)⟩,
 f14:=⟨ "slices.pdqsortCmpFunc[corrector/api.Diag]",dU,func74.trans (congrArg some dV)⟩,
 f15:=func75.trans (congrArg some dV),
 f20:=⟨ "slices.insertionSortCmpFunc[corrector/api.Diag]",dU,func107.trans (congrArg some dV)⟩,
 f21:=⟨ "slices.heapSortCmpFunc[corrector/api.Diag]",dU,func108.trans (congrArg some dV)⟩,
 f22:=⟨ "slices.breakPatternsCmpFunc[corrector/api.Diag]",dU,func109.trans (congrArg some dV)⟩,
 f23:=⟨ "slices.choosePivotCmpFunc[corrector/api.Diag]",dU,func110.trans (congrArg some dV)⟩,
 f24:=⟨ "slices.reverseRangeCmpFunc[corrector/api.Diag]",dU,func111.trans (congrArg some dV)⟩,
 f25:=⟨ "slices.partialInsertionSortCmpFunc[corrector/api.Diag]",dU,func112.trans (congrArg some dV)⟩,
 f26:=⟨ "slices.partitionEqualCmpFunc[corrector/api.Diag]",dU,func113.trans (congrArg some dV)⟩,
 f27:=⟨ "slices.partitionCmpFunc[corrector/api.Diag]",dU,func114.trans (congrArg some dV)⟩,
 f28:=func115.trans (congrArg some dV),
 f29:=func116.trans (congrArg some dV),
 f46:=⟨ "slices.siftDownCmpFunc[corrector/api.Diag]",dU,func139.trans (congrArg some dV)⟩,
 f47:=func140.trans (congrArg some dV),
 f48:=func141.trans (congrArg some dV),
 f49:=⟨ "slices.medianAdjacentCmpFunc[corrector/api.Diag]",dU,func142.trans (congrArg some dV)⟩,
 f50:=⟨ "slices.medianCmpFunc[corrector/api.Diag]",dU,func143.trans (congrArg some dV)⟩,
 f57:=⟨ "slices.order2CmpFunc[corrector/api.Diag]",dU,func161.trans (congrArg some dV)⟩,
 t0:=underlying0,
 a0:=isAgg0,
 z0:=sizeOf0,
 v0:=zeroValue0,
 t3:=underlying3,
 a3:=isAgg3,
 z3:=sizeOf3,
 v3:=zeroValue3,
 t4:=underlying4,
 a4:=isAgg4,
 z4:=sizeOf4,
 v4:=zeroValue4,
 t5:=underlying5,
 a5:=isAgg5,
 z5:=sizeOf5,
 v5:=zeroValue5,
 t9:=underlying9,
 a9:=isAgg9,
 z9:=sizeOf9,
 v9:=zeroValue9,
 t22:=underlying32,
 a22:=isAgg32,
 z22:=sizeOf32,
 v22:=zeroValue32,
 t25:=underlying81,
 a25:=isAgg81,
 z25:=sizeOf81,
 v25:=zeroValue81,
 t39:=underlying108,
 a39:=isAgg108,
 z39:=sizeOf108,
 v39:=zeroValue108,
 t45:=underlying136,
 a45:=isAgg136,
 z45:=sizeOf136,
 v45:=zeroValue136,
 t46:=underlying137,
 a46:=isAgg137,
 z46:=sizeOf137,
 v46:=zeroValue137,
 t50:=underlying141,
 a50:=isAgg141,
 z50:=sizeOf141,
 v50:=zeroValue141,
 t53:=underlying144,
 a53:=isAgg144,
 z53:=sizeOf144,
 v53:=zeroValue144,
 t55:=underlying146,
 a55:=isAgg146,
 z55:=sizeOf146,
 v55:=zeroValue146,
 t66:=underlying163,
 a66:=isAgg163,
 z66:=sizeOf163,
 v66:=zeroValue163,
 t70:=underlying167,
 a70:=isAgg167,
 z70:=sizeOf167,
 v70:=zeroValue167,
 t76:=underlying182,
 a76:=isAgg182,
 z76:=sizeOf182,
 v76:=zeroValue182,
 t77:=underlying87,
 a77:=isAgg87,
 z77:=sizeOf87,
 v77:=zeroValue87}
end
namespace Fe
open Ar Fl
def nine(l:List Tk)(j:Nat):Dg:=⟨9,kW l j,too l j⟩
def N9(l:List Tk)(P:Nat->Prop)(d d':List Dg):Prop:=∃(ds:List Dg)(js:List Nat),d'=d++ds/\ds.filter (λx=>x.code==9)=js.map (nine l)/\js.Nodup/\∀j∈js,P j
section
variable {l:List Tk}{P Q:Nat->Prop}{a b c:List Dg}
theorem N9.refl(d:List Dg):N9 l P d d:=⟨[],[],eG,rfl,.nil,eG⟩
theorem N9.mono(h:N9 l P a b)(hp:∀j,P j->Q j):N9 l Q a b:=by
 obtain⟨ds,js,h1,h2,h3,h4⟩:=h;exact⟨ds,js,h1,h2,h3,λj hj=>hp j (h4 j hj)⟩
theorem N9.trans(h:N9 l P a b)(g:N9 l Q b c)(hd:∀j,P j->Q j->False):N9 l (λj=>P j\/Q j) a c:=by
 obtain⟨ds,js,h1,h2,h3,h4⟩:=h;obtain⟨es,ks,g1,g2,g3,g4⟩:=g;refine⟨ds++es,js++ks,by rw[g1,h1,pI],by rw[List.filter_append,yF,h2,g2],?_,λj hj=>?_⟩
 ·rw[List.nodup_append];exact⟨h3,g3,λx hx y hy e=>hd x (h4 x hx) (e▸g4 y hy)⟩
 ·rw[kC]at hj;exact hj.elim (λh=>.inl (h4 j h)) (λh=>.inr (g4 j h))
theorem N9.other(d:List Dg)(x:Dg)(hx:x.code≠9):N9 l P d (d++[x]):=
 ⟨[x],[],rfl,by rw[List.filter_cons_of_neg jJ];rfl,.nil,eG⟩
theorem N9.open(d:List Dg)(op:Nat):N9 l (λj=>j=op) d (d++[nine l op]):=
 ⟨[nine l op],[op],rfl,rfl,eG,eG⟩
end
def V9(l:List Tk)(e:Nat)(n:Int)(val:Int->Nat->St->Int×Nat×St):Prop:=
 ∀(up p:Nat)(s:St)(b:Int),Ck s.t n->Fits s.t p b up->Lf s.t->No s.t up->b<=p+1->p<=e->N9 l (λj=>p<=j/\j<(val up p s).2.1) s.d (val up p s).2.2.d
theorem aju(l:List Tk)(s:St)(c:Int)(j q:Nat):(pair l s c j q).1.d=s.d:=by
 unfold pair;dsimp only;split<;>rfl
theorem UI(l:List Tk)(e:Nat)(n:Int)(hn:(e:Int)<=n)(eT:Option (Int->Nat->St->Nat×St)):
 (∀k,eT=some k->∀(c op:Nat)(s:St)(b:Int),op<e->cnt (raw l op)=true->Ck s.t n->Fits s.t (op+1:Nat) b c->Lf s.t->No s.t c->b<=(op+1:Nat)->
  N9 l (λj=>op<=j/\j<(k c op s).1) s.d (k c op s).2.d)->V9 l e n (oJ l e eT):=by
 intro hk up p s b hck hf hlf hno hb hpe;have h0:=kN (l:=l) hpe;obtain⟨i0,hi0⟩:=eu (blanks l e p);have hl:=xI l e i0 (e-i0) none i0 (eO _) dS (λa z h=>jQ);obtain⟨o,ho⟩:=eu ((lead l e (e-i0) none i0).1);obtain⟨i,hi⟩:=eu ((lead l e (e-i0) none i0).2);rw[hi0]at h0;rw[ho,hi]at hl;obtain⟨l1,l2,l3,l4⟩:=hl;obtain⟨fr,hfr⟩:=eu (j5 o i);have ae:p<=fr/\fr<=i:=by
  rw[<-hfr];cases o with
  |none=>exact⟨by show p<=i;omega,eO _⟩
  |some x=>obtain⟨a,z⟩:=x;have:=l3 a z rfl;show p<=a/\a<=i;omega
 have hs:Ok l p n up s p b s:=.start hck hf hlf hno;obtain⟨k,hkd⟩:=eu (kd l e i);unfold oJ;dsimp only;rw[hi0,ho,hi,hfr,hkd];have kin:k≠0->i<e/\raw l i=k:=λh=>JF
 by_cases c1:k=13
 ·rw[dX c1];exact N9.refl _
 rw[dW c1];by_cases c2:gX k=true
 ·rw[dX c2];exact N9.refl _
 rw[dW c2];by_cases c3:k=18
 ·rw[dX c3];exact N9.refl _
 rw[dW c3];by_cases c4:opens k=true
 ·rw[dX c4];have hi2:=kin (λh=>Qr);cases aa:eT with
  |none=>exact N9.other _ _ (show(10:Nat)≠9 by decide)
  |some q=>
   dsimp only;obtain⟨kind,hkind⟩:∃kind:Nat,kind=(if k=9 then 10 else 9):=⟨_,rfl⟩
   rw[<-hkind];have hk1:1<=kind/\kind<=10:=DU
   obtain⟨s',a1,a2,a3,⟨x,a4,a5⟩,a6⟩:=kJ (kind:=kind) hs (f:=fr) (t:=i+1) dS dS dS hk1.1 hk1.2;have ed:s'.d=s.d:=by
    have:=congrArg (λz:St×Int=>z.1.d) a1;exact this.symm
   rw[a1];dsimp only;have:=hk q aa s.t.length i s' (i+1:Nat) hi2.1 Jg a3.ck (a3.fits.le dS dS) a3.lf a3.no (jk _);rw[ed]at this;exact this.mono (λj hj=>⟨dS,hj.2⟩)
 rw[dW c4];cases o with
 |some x=>exact N9.refl _
 |none=>exact N9.refl _
theorem ac1(l:List Tk)(e:Nat)(n:Int)(hn:(e:Int)<=n)(val:Int->Nat->St->Int×Nat×St)(hv:VC l e n val)(ae:V9 l e n val)(aa:Bool){c j:Nat}{s:St}{b:Int}
 (hck:Ck s.t n) (hf:Fits s.t j b c) (hlf:Lf s.t) (hno:No s.t c) (hb:b<=j) (hj:kd l e j≠0) (af:0<key l e j\/begins (kd l e j)=true):
 N9 l (λi=>j<=i/\i<(item l e val aa c j s).1) s.d (item l e val aa c j s).2.d:=by
 have ah:=(ji hj).1;unfold item;dsimp only;by_cases hq:0<key l e j
 ·rw[dX hq];obtain⟨q1,q2,q3⟩:=qW dS hq;obtain⟨q,ag⟩:=eu (key l e j);rw[ag]at q1 q2 q3⊢;have ed:=aju l s c j q;obtain⟨s1,a1,a2,⟨x,a3,a4⟩,a5⟩:=KH l e n hn hck hf hlf hno dS q1 q2;rw[a1]at ed⊢;dsimp only at ed⊢;split
  ·show N9 l _ s.d s1.d;rw[ed];exact N9.refl _
  ·have ht:=iW (l:=l) (e:=e) (i:=q) q2;have h9:=ae s.t.length (fI l e q) s1 q a2.ck (a2.fits.le dS (jk _)) a2.lf a2.no dS ht.2;rcases hv s.t.length (fI l e q) s1 q a2.ck (a2.fits.le dS (jk _)) a2.lf a2.no dS ht.2 with⟨v1,_⟩|⟨next,s2,v1,v2,v3,v4,v5⟩
   ·rw[v1];show N9 l _ s.d s1.d;rw[ed];exact N9.refl _
   ·rw[v1]at h9⊢;dsimp only at h9⊢;rw[dW dS];rw[ed]at h9;exact h9.mono (λi hi=>⟨dS,hi.2⟩)
 ·rw[dW hq];have hbg:begins (kd l e j)=true:=af.resolve_left hq;cases aa with
  |true=>
   rw[dX rfl];obtain⟨s1,a1,_,a3,⟨x,a4,a5⟩,a6⟩:=kJ (kind:=6) (Ok.start (l:=l) (p0:=j) hck hf hlf hno) (f:=j) (t:=j+1) dS dS dS dS dS;have a1:add s c 6 j (j+1)=(s1,(s.t.length:Int)):=a1;have ed:s1.d=s.d:=by
    have:=congrArg (λz:St×Int=>z.1.d) a1;exact this.symm
   rw[a1];dsimp only;have d3:=pY (s.t.length:Int) a3;have h9:=ae s.t.length j _ (j+1:Nat) d3.ck (d3.fits.le (jk _) dS) d3.lf d3.no dS dS;dsimp only at h9;rw[ed]at h9;rw[ed];exact h9
  |false=>
   rw[dW dU];exact ae c j s b hck hf hlf hno dS dS
theorem UJ(l:List Tk)(e:Nat)(n:Int)(hn:(e:Int)<=n)(val:Int->Nat->St->Int×Nat×St)(hv:VC l e n val)(ae:V9 l e n val)(c op:Nat):
 ∀(g p:Nat)(aa:Bool)(s:St)(b:Int),Ck s.t n->Fits s.t p b c->Lf s.t->No s.t c->b<=p->op<p->p<=e->cnt (raw l (p-1))=true->
 p<=(lN l e val c op g p aa s).1/\N9 l (λj=>j=op\/(p<=j/\j<(lN l e val c op g p aa s).1)) s.d (lN l e val c op g p aa s).2.d
 |0,p,aa,s,b=>λhck hf hlf hno hb hop hpe hcp=>⟨eO _,N9.refl _⟩
 |g+1,p,aa,s,b=>λhck hf hlf hno hb hop hpe hcp=>by
  have ht:=iW (l:=l) (e:=e) (i:=p) hpe;have hs:Ok l op n c s p b s:=.start hck hf hlf hno;rw[lN];obtain⟨j,hj⟩:=eu (fI l e p);rw[hj]at ht⊢;obtain⟨k,hk⟩:=eu (kd l e j);rw[hk];by_cases k0:k=0
  ·rw[dX k0,nL l p (op+1) dS hcp];exact⟨eO _,(N9.open s.d op).mono (λj hj=>.inl hj)⟩
  rw[dW k0];have hjk:=ji (l:=l) (e:=e) (i:=j) dS;rw[hk]at hjk;have on:∀(p':Nat)(h':Bool)(s1:St),Ok l op n c s p' p' s1->j<p'->p'<=e->cnt (raw l (p'-1))=true->N9 l (λi=>p<=i/\i<p') s.d s1.d->
   p<=(lN l e val c op g p' h' s1).1/\N9 l (λj=>j=op\/(p<=j/\j<(lN l e val c op g p' h' s1).1)) s.d (lN l e val c op g p' h' s1).2.d:=by
   intro p' h' s1 h1 h2 h3 h4 h5;obtain⟨g1,g2⟩:=UJ l e n hn val hv ae c op g p' h' s1 p' h1.ck h1.fits h1.lf h1.no (jk _) dS h3 h4;refine⟨dS,(h5.trans g2 (λi a b=>dS)).mono (λi hi=>?_)⟩;rcases hi with hi|hi|hi
   ·exact .inr ⟨hi.1,dS⟩
   ·exact .inl hi
   ·exact .inr ⟨dS,hi.2⟩
  have er:∀(t code:Nat),code=8->j<t->t<=e->Ok l op n c s t t (err l s c j t code):=by
   intro t code h1 h2 h3;exact(qY hs (f:=j) (t:=t) (code:=code) dS dS dS dS dS dS dS).1.le (jk _) dS
  have e9:∀(t:Nat)(P:Nat->Prop),N9 l P s.d (err l s c j t 8).d:=λt P=>N9.other _ _ (show(8:Nat)≠9 by decide)
  have gr:Ok l op n c s (j+1:Nat) (j+1:Nat) ⟨iB s.t c ((j+1:Nat):Int),s.d⟩:=sD hs dS dS dS;have c1:cnt k=true->cnt (raw l (j+1-1))=true:=λh=>Jh
  by_cases k1:k=(if raw l op=9 then 11 else 10)
  ·rw[dX k1];exact⟨l6,N9.refl _⟩
  rw[dW k1];by_cases k2:ends k=true
  ·rw[dX k2];exact on (j+1) aa _ (er (j+1) 8 rfl dS dS) dS dS (c1 (zF k2)) (e9 _ _)
  rw[dW k2];by_cases k3:k=7
  ·rw[dX k3];have c7:=c1 (by rw[k3];rfl);split
   ·exact on (j+1) false _ gr dS dS c7 (N9.refl _)
   ·exact on (j+1) aa _ (er (j+1) 8 rfl dS dS) dS dS c7 (e9 _ _)
  rw[dW k3];have hcj:cnt (raw l j)=true:=Eb
  by_cases k4:aa=true
  ·rw[dX k4];obtain⟨t1,t2,t3⟩:=uh (l:=l) (e:=e) (j:=j) dS hcj dS DV;exact on _ aa _ (er _ 8 rfl t1 t2) t1 t2 t3 (e9 _ _)
  rw[dW k4];by_cases k5:0<key l e j\/begins k=true
  ·rw[dX k5];have i9:=ac1 l e n hn val hv ae (raw l op==9) (c:=c) (j:=j) hck (hf.le dS (jk _)) hlf hno dS dS DW;obtain⟨next,s',i1,i2,i3,i4,i5⟩:=Ud l e n hn val hv (raw l op==9) (c:=c) (j:=j) hck (hf.le dS (jk _)) hlf hno dS dS DW;rw[i1]at i9⊢;dsimp only at i9⊢;exact on next true s' (i5.low dS) i2 i3 i4 (i9.mono (λi hi=>⟨dS,hi.2⟩))
  ·rw[dW k5];exact on (j+1) aa _ (er (j+1) 8 rfl dS dS) dS dS (c1 Ji) (e9 _ _)
theorem Ni(l:List Tk)(e:Nat)(n:Int)(hn:(e:Int)<=n):∀d:Nat,V9 l e n (gP l e d)
 |0=>UI l e n hn none (λk h=>jQ)
 |d+1=>UI l e n hn _ (λk h c op s b ho hc hck hf hlf hno hb=>by
  injection h with h
  subst h;obtain⟨h1,h2⟩:=UJ l e n hn _ (zL l e n hn d) (Ni l e n hn d) c op (e-op) (op+1) false s b hck hf hlf hno hb dS dS DX;refine h2.mono (λj hj=>?_);show op<=j/\j<(lN l e (gP l e d) (c:Int) op (e-op) (op+1) false s).1
  rcases hj with hj|hj<;>constructor<;>omega)
end Fe
section
open Go.RowKit
open Sg
open Sq
theorem ac2(w:World)(l:List UInt8)(C:Array Value)(n:Nat)(fr:Nat×Nat)(hn:l.length=n)(hl:n<=1000)(hC:C=(l.map fun(x:UInt8)=>Value.int .u8 (x.toNat:Int)).toArray):qR (w.alloc (.cells C 5 fr)) (.slice (some ⟨w.heap.size,0,none⟩) n n) ⟨l.toArray⟩:=by
 subst hC;refine .inr ⟨w.heap.size,0,n,by rw[size_at,hn],by rw[size_at,hn];exact eO _,qV,λj hj=>?_⟩;rw[size_at]at hj;rw[yJ,Sg.get_at,aep,kS,jY,fu hj,xC,fu hj];rfl
end
section
open Go.ChangeShapes Go.WideShapes Go.ChangeAt Go.RowKit
theorem own:ownKnob prog.godebug=none:=dV
end
section
open Go.RowKit
def Nj:Go.Shelf.Ren:=⟨λn=>n,fun|5=>5|119=>177|138=>179|139=>180|n=>n,fun|3=>0|4=>1|n=>n⟩
theorem SB:U8Types prog Nj:={t5:=underlying5,t119:=underlying177,t138:=underlying179,t139:=underlying180}
theorem SE:U8Extra prog Nj:={n3:=dV,n4:=dV,y3:=dV,y4:=dV,c5:=dV,c119:=dV,c138:=dV}
theorem SF:Rows.laid_unicode_utf8_first=Lib.firstData:=dV
theorem Oz:(Rows.laid_unicode_utf8_acceptRanges:DataW Unit)=Lib.acceptData:=dV
theorem mO{W:World}(h:laidMetH prog [("unicode/utf8.acceptRanges",Rows.laid_unicode_utf8_acceptRanges),("unicode/utf8.first",Rows.laid_unicode_utf8_first)] W):oZ W:=by
 have h1:=(laidMetH_iff.1 h).1;have e:([("unicode/utf8.acceptRanges",Rows.laid_unicode_utf8_acceptRanges),("unicode/utf8.first",Rows.laid_unicode_utf8_first)]:List (String×DataW Unit)).filter (λx=>x.2.handleName?.isNone)=[("unicode/utf8.acceptRanges",Rows.laid_unicode_utf8_acceptRanges),("unicode/utf8.first",Rows.laid_unicode_utf8_first)]:=dV
 rw[e]at h1;have r1:=Lib.laidMet.reads h1 (n:= "unicode/utf8.first") (d:=Rows.laid_unicode_utf8_first) eG;have r2:=Lib.laidMet.reads h1 (n:= "unicode/utf8.acceptRanges") (d:=Rows.laid_unicode_utf8_acceptRanges) eG;rw[SF]at r1;rw[Oz]at r2;exact utf8Tabs_of_readsT SB SE r1 r2
def firstCells:Array Value:=((List.range 256).map λc=>Value.int .u8 (Lib.firstT c:Int)).toArray
def OA:Array Value:=((List.range 16).flatMap λi=>[Value.int .u8 (Lib.accLo i:Int),Value.int .u8 (Lib.accHi i:Int)]).toArray
def lay(C:Array Value):Obj->Obj
 | .cells _ t frozen=>.cells C t frozen
 |o=>o
noncomputable def iP (os:Os):World:=
 {World.holding prog os ⟨#[],#[],[]⟩with heap:=((World.holding prog os ⟨#[],#[],[]⟩).heap.modify 0 (lay firstCells)).modify 1 (lay OA)}
end
end Go.Proofs.YtmkkdjpebbdikaaGreatDoor

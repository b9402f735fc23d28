import Derived.Test.YtmkkdjpebbdikaaGreatDoorZn04
import Derived.Test.YtmkkdjpebbdikaaGreatDoorZn05
import Derived.Deep.DeepHandedRow
import Derived.LaidSub
import Derived.Lib.Hide
import Derived.Lib.LaidU8T
import Derived.LoopTactic
import Derived.Outline
import Derived.Test.YtmkkdjpebbdikaaGreatDoorChecked
import Derived.Test.YtmkkdjpebbdikaaGreatDoorRows
import Derived.WalkLawsBesides
import Derived.WalkSpells
set_option linter.all false
set_option maxHeartbeats 16000000
set_option maxRecDepth 100000
namespace Go.Proofs.YtmkkdjpebbdikaaGreatDoor
open Go.RowKit Go.Proofs.Tryz
def Sf:=@Lib.decode_at
namespace Rw
theorem Ll(l:List Tk)(op fr:Nat)(h:fr<l.length):lF op fr (l.drop fr)=
 ⟨kindOf (decide (0<op)) ((l.drop fr).take (jy (l.drop fr))),fr,fr+jy (l.drop fr),sH ((l.drop fr).take (jy (l.drop fr)))⟩::lF (nG op ((l.drop fr).take (jy (l.drop fr)))) (fr+jy (l.drop fr)) (l.drop (fr+jy (l.drop fr))):=by
 rw[qo op fr (l.drop fr) (by intro e;have:=congrArg List.length e;rw[iT]at this;simp at this;omega),mQ]
theorem Lm(l:List Tk)(op fr:Nat)(h:l.length<=fr):lF op fr (l.drop fr)=[]:=by
 rw[mI h];rfl
theorem Ti(l:List Tk)(n:Nat)(h:∀j x,j<n->l[j]?=some x->Sc.counts x.1=false)(hn:n=l.length\/∃x,l[n]?=some x/\Sc.counts x.1=true):gZ l=n:=by
 induction l generalizing n with
 |nil=>
  rcases hn with h1|⟨x,h1,_⟩
  ·exact h1.symm
  simp at h1
 |cons y r ih=>
  rw[gZ];cases n with
  |zero=>
   rcases hn with h1|⟨x,h1,h2⟩
   ·simp at h1
   obtain rfl:y=x:=by simpa using h1
   rw[eY h2]
  |succ n=>
   rw[eX (by rw[h 0 y (by omega) rfl];decide),ih n (λj x hj hx=>h (j+1) x (by omega) (by simpa using hx)) (by
    rcases hn with h1|⟨x,h1,h2⟩
    ·left;rw[jh]at h1;omega
    right;exact⟨x,by simpa using h1,h2⟩)]
theorem Cr:∀(f g:Nat)(l:List Tk),l.length<=f->l.length<=g->lH f l=lH g l/\kG f l=kG g l
 |0,g,l=>λh _=>by
  obtain rfl:l=[]:=oC (by omega);cases g with
  |zero=>exact⟨rfl,rfl⟩
  |succ g=>rw[lH,lH,kG,kG];exact⟨by rw[eX (by decide)],by rw[eX (by decide)]⟩
 |f+1,0,l=>λ_ h=>by
  obtain rfl:l=[]:=oC (by omega);rw[lH,lH,kG,kG];exact⟨by rw[eX (by decide)],by rw[eX (by decide)]⟩
 |f+1,g+1,l=>λh1 h2=>by
  rw[lH,lH,kG,kG];by_cases hk:jO l=5
  ·rw[eY hk,eY hk,eY hk,eY hk];have ih:=Cr f g (l.drop (blanks (l.drop 1)+1)) (by rw[iT];omega) (by rw[iT];omega);rw[ih.1,ih.2];exact⟨rfl,rfl⟩
  rw[eX hk,eX hk,eX hk,eX hk];exact⟨rfl,rfl⟩
theorem Cs:∀(f g:Nat)(l:List Tk),l.length<=f->l.length<=g->mZ f l=mZ g l
 |0,g,l=>λh _=>by
  obtain rfl:l=[]:=oC (by omega);cases g with
  |zero=>rfl
  |succ g=>rw[mZ,mZ,eX (by decide)]
 |f+1,0,l=>λ_ h=>by
  obtain rfl:l=[]:=oC (by omega);rw[mZ,mZ,eX (by decide)]
 |f+1,g+1,l=>λh1 h2=>by
  rw[mZ,mZ];by_cases hk:isProp (jO l)=true
  ·rw[eY hk,eY hk,Cs f g _ (by rw[iT];omega) (by rw[iT];omega)]
  rw[eX hk,eX hk]
theorem Ls(l:List Tk)(h:jO l=5):lH l.length l=0::(lH (l.drop (blanks (l.drop 1)+1)).length (l.drop (blanks (l.drop 1)+1))).map (·+(blanks (l.drop 1)+1))/\kG l.length l=kG (l.drop (blanks (l.drop 1)+1)).length (l.drop (blanks (l.drop 1)+1))+(blanks (l.drop 1)+1):=by
 have hne:=uV l 5 h (by decide);cases hl:l.length with
 |zero=>exact absurd (oC hl) hne
 |succ f=>
  rw[lH,kG,eY h,eY h];have:=Cr f (l.drop (blanks (l.drop 1)+1)).length (l.drop (blanks (l.drop 1)+1)) (by rw[iT];omega) (fB _);rw[this.1,this.2];exact⟨rfl,rfl⟩
theorem Lt(l:List Tk)(h:jO l≠5):lH l.length l=[]/\kG l.length l=0:=by
 cases hl:l.length with
 |zero=>exact⟨rfl,rfl⟩
 |succ f=>rw[lH,kG,eX h,eX h];exact⟨rfl,rfl⟩
theorem Lu(l:List Tk)(h:isProp (jO l)=true):mZ l.length l=mZ (l.drop (blanks (l.drop 1)+1)).length (l.drop (blanks (l.drop 1)+1))+(blanks (l.drop 1)+1):=by
 have hne:l≠[]:=λe=>by rw[e]at h;exact absurd h (by decide)
 cases hl:l.length with
 |zero=>exact absurd (oC hl) hne
 |succ f=>rw[mZ,eY h,Cs f (l.drop (blanks (l.drop 1)+1)).length _ (by rw[iT];omega) (fB _)]
theorem Lx(l:List Tk)(h:isProp (jO l)=false):mZ l.length l=0:=by
 cases hl:l.length with
 |zero=>rfl
 |succ f=>rw[mZ,eX (by rw[h];decide)]
end Rw
section
open Go.RowKit
open Sg
def oO(w:World):Prop:=Lib.Utf8Tabs 0 1 w
theorem IY(s:ByteArray)(b off cap:Nat)(w:World)(hT:oO w)(hp:∀j,j<s.size->w.cell? ⟨b,off+j,none⟩=some (.int .u8 (s.get! j).toNat)):
 Calls prog 104 #[.slice (some ⟨b,off,none⟩) s.size cap] w λe w'=>e=.returned (.tuple #[.int .i32 (Lib.decodeGo s).1,.int .i64 (Lib.decodeGo s).2])/\Below w.heap.size w w' :=
 Any7.utf8_DecodeRune O8 s b off cap w hT hp
theorem X0(s:ByteArray):nx s 0=if(Lib.decodeGo s).1=65533/\(Lib.decodeGo s).2<2 then(-1,(Lib.decodeGo s).2)else(((Lib.decodeGo s).1:Int),(Lib.decodeGo s).2):=by
 unfold nx zB Lib.decodeGo;rw[BC];by_cases h:s.size=0
 ·rw[eY h,eY h,eY (by simp)]
 rw[eX h,eX h,Sf];rfl
theorem UO(s:ByteArray):(Lib.decodeGo s).1<=1114111/\(Lib.decodeGo s).2<=4:=by
 unfold Lib.decodeGo;by_cases h:s.size=0
 ·rw[eY h];simp
 rw[eX h,Sf];generalize (s.get! 0).toNat=b0,(s.get! (0+1)).toNat=b1,(s.get! (0+2)).toNat=b2,(s.get! (0+3)).toNat=b3;unfold Lib.decodeN
 (repeat' split)<;>(dsimp only;omega)
theorem Ew(v:Value)(r k:Nat)(Q:World->World->Prop)(w:World)(hr:r<=1114111)(hk:k<=4)
 (c:Calls prog 104 #[v] w λe w'=>e=.returned (.tuple #[.int .i32 r,.int .i64 k])/\Q w w'):
 Calls prog 69 #[v] w λe w'=>e=.returned (.tuple #[.int .i32 (if r=65533/\k<2 then(-1,k)else((r:Int),k)).1,.int .i64 (if r=65533/\k<2 then(-1,k)else((r:Int),k)).2])/\Q w w':=by
 have C:=eZ c;clear c;by_cases h1:r=65533
 ·subst h1;by_cases h2:k<2
  ·rw[eY ⟨rfl,h2⟩]
   go_enter func69,ntmps69
   go_wp2_with fail
   refine C.out.mono ?_;rintro e w' ⟨rfl,hq⟩;go_wp2;go_ret2;exact⟨rfl,hq⟩
  rw[eX (λh=>h2 h.2)]
  go_enter func69,ntmps69
  go_wp2_with fail
  refine C.out.mono ?_;rintro e w' ⟨rfl,hq⟩;go_wp2;go_ret2;exact⟨rfl,hq⟩
 rw[eX (λh=>h1 h.1)];have hb:((r:Int)==65533)=false:=by simp;omega
 clear h1
 go_enter func69,ntmps69
 go_wp2_with fail
 refine C.out.mono ?_;rintro e w' ⟨rfl,hq⟩;go_wp2;go_ret2;exact⟨rfl,hq⟩
theorem Ct(s:ByteArray)(n b off cap:Nat)(w:World)(hn:s.size=n)(hT:oO w)(hp:∀j,j<n->w.cell? ⟨b,off+j,none⟩=some (.int .u8 (s.get! j).toNat)):
 Calls prog 69 #[.slice (some ⟨b,off,none⟩) n cap] w λe w'=>e=.returned (.tuple #[.int .i32 (nx s 0).1,.int .i64 (nx s 0).2])/\Below w.heap.size w w':=by
 subst hn;rw[X0];exact Ew _ _ _ (λw w'=>Below w.heap.size w w') w (UO s).1 (UO s).2 (IY s b off cap w hT hp)
theorem oO.below{w w':World}(h:oO w)(hb:Below w.heap.size w w'):oO w':=by
 refine⟨λc hc=>?_,λi hi=>⟨?_,?_⟩⟩
 ·have h0:=h.1 c hc;rw[hb.cell (p:=⟨0,c,none⟩) (lt_of_cell h0)];exact h0
 ·have h0:=(h.2 i hi).1;rw[hb.cell (p:=⟨1,2*i,none⟩) (lt_of_cell h0)];exact h0
 have h0:=(h.2 i hi).2;rw[hb.cell (p:=⟨1,2*i+1,none⟩) (lt_of_cell h0)];exact h0
end
section
open Go.RowKit
def FC:Go.Shelf.Ren:=⟨λn=>n,fun|5=>5|119=>177|138=>179|139=>180|n=>n,fun|3=>0|4=>1|n=>n⟩
theorem IZ:U8Types prog FC:={t5:=underlying5,t119:=underlying177,t138:=underlying179,t139:=underlying180}
theorem I1:U8Extra prog FC:={n3:=by kernel_rfl,n4:=by kernel_rfl,y3:=by kernel_rfl,y4:=by kernel_rfl,c5:=by kernel_rfl,c119:=by kernel_rfl,c138:=by kernel_rfl}
theorem I4:Rows.laid_unicode_utf8_first=Lib.firstData:=by kernel_rfl
theorem GJ:(Rows.laid_unicode_utf8_acceptRanges:DataW Unit)=Lib.acceptData:=by kernel_rfl
theorem sF{W:World}(h:laidMetH prog [("unicode/utf8.acceptRanges",Rows.laid_unicode_utf8_acceptRanges),("unicode/utf8.first",Rows.laid_unicode_utf8_first)] W):oO W:=by
 have h1:=(laidMetH_iff.1 h).1;have e:([("unicode/utf8.acceptRanges",Rows.laid_unicode_utf8_acceptRanges),("unicode/utf8.first",Rows.laid_unicode_utf8_first)]:List (String×DataW Unit)).filter (λx=>x.2.handleName?.isNone)=[("unicode/utf8.acceptRanges",Rows.laid_unicode_utf8_acceptRanges),("unicode/utf8.first",Rows.laid_unicode_utf8_first)]:=by kernel_rfl
 rw[e]at h1;have r1:=Lib.laidMet.reads h1 (n:= "unicode/utf8.first") (d:=Rows.laid_unicode_utf8_first) (by simp);have r2:=Lib.laidMet.reads h1 (n:= "unicode/utf8.acceptRanges") (d:=Rows.laid_unicode_utf8_acceptRanges) (by simp);rw[I4]at r1;rw[GJ]at r2;exact utf8Tabs_of_readsT IZ I1 r1 r2
def firstCells:Array Value:=((List.range 256).map λc=>Value.int .u8 (Lib.firstT c:Int)).toArray
def GK:Array Value:=((List.range 16).flatMap λi=>[Value.int .u8 (Lib.accLo i:Int),Value.int .u8 (Lib.accHi i:Int)]).toArray
def lay(C:Array Value):Obj->Obj
 | .cells _ t frozen=>.cells C t frozen
 |o=>o
noncomputable def mf (os:Os):World:=
 {World.holding prog os ⟨#[],#[],[]⟩with heap:=((World.holding prog os ⟨#[],#[],[]⟩).heap.modify 0 (lay firstCells)).modify 1 (lay GK)}
end
end Go.Proofs.YtmkkdjpebbdikaaGreatDoor

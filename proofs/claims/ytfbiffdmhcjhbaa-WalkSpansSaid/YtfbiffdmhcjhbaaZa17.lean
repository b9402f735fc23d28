import Derived.Test.YtfbiffdmhcjhbaaZa09
import Derived.Test.YtfbiffdmhcjhbaaZa10
import Derived.Test.YtfbiffdmhcjhbaaZa11
set_option linter.all false
set_option maxHeartbeats 16000000
set_option maxRecDepth 100000
namespace Go.Proofs.Ytfbiffdmhcjhbaa
open Go.RowKit Try
section
open Go.RowKit
open Sg
open Es
open Qo
def ba(l:List UInt8):ByteArray:=⟨l.toArray⟩
theorem Ue{b:ByteArray}{l:List UInt8}(h:b.data.toList=l):ba l=b:=by
 subst h;rfl
theorem CK(a b:ByteArray):(a++b).data.toList=a.data.toList++b.data.toList:=Sg.Cq a b
theorem Kt(s:ByteArray)(a b:Nat):(s.extract a b).data.toList=(s.data.toList.drop a).take (b-a):=Es.ext_list s a b
theorem PW(s:ByteArray)(a:Nat):(s.extract a s.size).data.toList=s.data.toList.drop a:=by
 rw[Kt,DI];rw[oz,<-vZ];exact mJ _
theorem My(v:Int):(Utf8.encode v).size<=4:=by
 rw[Sg.Hw];exact(Sg.OO _).2
def Told(x:List UInt8×List Nat×Bool)(w:World)(e:Ending)(w':World):Prop:=
 ∃v,e=.returned (.tuple #[.string (ba x.1),v,.bool x.2.2])/\w'.ownsRow w.heap.size 3 1 v x.2.1.length (places x.2.1)/\Below w.heap.size w w'
def Ui(L T:List UInt8)(en:Bool)(p:Nat)(out:ByteArray):Prop:=out.data.toList++(yA (L.drop p)).1=T/\(yA (L.drop p)).2=en
def QU(L T:List UInt8)(bs:List Nat)(en:Bool)(p:Nat)(out:ByteArray)(acc:List Nat):Prop:=out.data.toList++(wX p (L.drop p)).1=T/\acc++(wX p (L.drop p)).2.1=bs/\(wX p (L.drop p)).2.2=en
theorem EC(w:World)(B:Nat):w.ownsRow B 3 1 (.slice none 0 0) ([]:List Nat).length (places []):=Iw _ _ _ _
theorem PX(l:List UInt8)(h:l≠[]):rU 15 l=(l,[],true):=by unfold rU;rw[fu h,gu rfl]
theorem PY(l:List UInt8)(h:l≠[]):rU 16 l=((yA (l.drop 1)).1,[],(yA (l.drop 1)).2):=by unfold rU;rw[fu h,fu (by decide),gu rfl]
theorem PZ(l:List UInt8)(h:l≠[]):rU 17 l=wX 1 (l.drop 1):=by unfold rU;rw[fu h,fu (by decide),fu (by decide),gu rfl]
theorem Ta(k:Int)(l:List UInt8)(h1:k≠15)(h2:k≠16)(h3:k≠17):rU k l=([],[],false):=by
 unfold rU;by_cases h:l=[]
 ·rw[gu h]
 rw[fu h,fu h1,fu h2,fu h3]
theorem Tc(s:ByteArray)(h:1<=s.size):s.toList.isEmpty=false/\s.data.toList≠[]:=by
 have h1:s.data.toList≠[]:=λe=>by rw[vZ,e]at h;exact absurd h (by decide)
 refine⟨?_,h1⟩;rw[Lib.toList_data];cases hl:s.data.toList with
 |nil=>exact absurd hl h1
 |cons _ _=>rfl
theorem P4(s:ByteArray)(h:s.size=0):s=⟨#[]⟩:=by
 cases s with
 |mk d=>simp[ByteArray.size]at h;rw[h]
theorem zM(w w':World)(t:ByteArray)(l:List UInt8)(b:Bool)(h:ba l=t)(hb:Below w.heap.size w w'):Told (l,[],b) w (.returned (.tuple #[.string t,.slice none 0 0,.bool b])) w' :=
 ⟨.slice none 0 0,by rw[<-h],EC _ _,hb⟩
end
section
open Go.RowKit
open Es
def NG(o:Option (Int×Nat)):Value:=.tuple #[.string (WH o),.int .i64 (lenOf o)]
theorem xN{l:List UInt8}{v:Int}(h:num l 0=some v):sign l=if Utf8.valid v then some v else none:=by rw[sign,h]
theorem wQ{l:List UInt8}(h:num l 0=none):sign l=none:=by rw[sign,h]
theorem CP(v d:Int)(pos:Nat)(hd:d<=15)(h:v<16^pos):16*v+d<16^(pos+1):=by
 rw[Int.pow_succ];omega
end
section
open Go.RowKit
open Es
open Sg
theorem ug(v:Int)(h0:0<=v)(h1:v<128):Utf8.encode v=⟨#[UInt8.ofNat v.toNat]⟩:=by
 have hv:Dp v=v.toNat:=by
  unfold Dp;rw[gu (by simp[Utf8.valid];omega)]
 rw[encode_eq,hv];unfold yH;rw[gu (by omega)];rfl
theorem MB(w:World)(x:Value)(t:TypeId):(w.alloc (.cells #[x] t)).cell? ⟨w.heap.size,0,none⟩=some x:=by rw[wh];rfl
theorem P5(c:Int)(w:World)(h0:0<=c)(h1:c<256):
 (convert 23 9 (.slice (some ⟨w.heap.size,0,none⟩) 1 1)).run prog (w.alloc (.cells #[.int .u8 c] 5))=.ok (.string ⟨#[UInt8.ofNat c.toNat]⟩) (w.alloc (.cells #[.int .u8 c] 5)):=by
 have h:=C8 w.heap.size 0 1 ⟨#[UInt8.ofNat c.toNat]⟩ (w.alloc (.cells #[.int .u8 c] 5)) (λj hj=>by
  have hj0:j=0:=by
   have:(⟨#[UInt8.ofNat c.toNat]⟩:ByteArray).size=1:=rfl;omega
  subst hj0;rw[xh,MB];have e:((⟨#[UInt8.ofNat c.toNat]⟩:ByteArray).get! 0).toNat=c.toNat:=by
   show(UInt8.ofNat c.toNat).toNat=_;simp;omega
  rw[e];congr 2
  omega)
 exact h
def DW:Option Int->Value
 |some v=>.tuple #[.string (Utf8.encode v),.bool true]
 |none=>.tuple #[.string ⟨#[]⟩,.bool false]
def Ga:Option Int->Value
 |some v=>.int .i64 v
 |none=>.int .i64 (-1)
theorem IU(c:Int)(w:World)(h0:0<=c)(h1:c<256):
 Calls prog 95 #[.int .u8 c] w λe w'=>e=.returned (Ga (F7 c))/\w=w':=by
 go_enter func95,ntmps95
 go_wp2;all_goals
  go_ret;refine⟨?_,rfl⟩;simp only[F7]
  (repeat' split)<;>first|rfl|(simp[Ga];omega)|omega
theorem e0:Utf8.encode 0=⟨#[0]⟩:=ug 0 (by decide) (by decide)
theorem e9:Utf8.encode 9=⟨#[9]⟩:=ug 9 (by decide) (by decide)
theorem e10:Utf8.encode 10=⟨#[10]⟩:=ug 10 (by decide) (by decide)
theorem e13:Utf8.encode 13=⟨#[13]⟩:=ug 13 (by decide) (by decide)
theorem e27:Utf8.encode 27=⟨#[27]⟩:=ug 27 (by decide) (by decide)
theorem e34:Utf8.encode 34=⟨#[34]⟩:=ug 34 (by decide) (by decide)
theorem e47:Utf8.encode 47=⟨#[47]⟩:=ug 47 (by decide) (by decide)
theorem Xp:Utf8.encode 92=⟨#[92]⟩:=ug 92 (by decide) (by decide)
theorem e32:Utf8.encode 32=⟨#[32]⟩:=ug 32 (by decide) (by decide)
theorem MC(c:Int)(w:World)(h0:0<=c)(h1:c<256):
 Calls prog 94 #[.int .u8 c] w λe w'=>e=.returned (DW (wE c))/\Below w.heap.size w w':=by
 have hcv:=P5 c w h0 h1;have hB:Below w.heap.size w (w.alloc (.cells #[.int .u8 c] 5)):=(mF _ w).alloc (mJ _) _
 go_enter func94,ntmps94
 go_wp2;all_goals
  go_ret2;refine⟨?_,?_⟩
  rotate_left
  first|exact mF _ _|exact hB
  clear hcv hB;simp only[Lr,E8,ne_eq]at*;simp[wE,DW,e0,e9,e10,e13,e27,e34,e47,Xp,e32, *]
end
section
open Go.RowKit
open Es
open Sg
theorem drop_take(s:ByteArray)(n k:Nat)(hk:k<n)(h:2+n<=s.size):
 ((s.data.toList.drop 2).take n).drop k=s[2+k]'(by omega)::((s.data.toList.drop 2).take n).drop (k+1):=by
 have hl:s.data.toList.length=s.size:=(vZ s).symm;have hlt:k<((s.data.toList.drop 2).take n).length:=by rw[qx,oz,hl];omega
 rw[yE hlt];congr 1;rw[List.getElem_take,List.getElem_drop];rfl
theorem CQ(s:ByteArray)(n:Nat):((s.data.toList.drop 2).take n).drop n=[]:=by
 exact uQ (by rw[qx];omega)
theorem IV(v:Int)(k:Nat)(hk:k<=8)(h:v<16^k):v<4294967296:=by
 have h2:(16:Int)^k<=16^8:=by
  have:=Nat.pow_le_pow_right (n:=16) (by decide) hk
  exact_mod_cast this
 omega
theorem Au{v:Int}(h0:0<=v)(h:Utf8.valid v=false):1114111<v\/(55296<=v/\v<=57343/\v<=1114111):=by
 simp[Utf8.valid]at h;omega
theorem Av{v:Int}(h:Utf8.valid v=true):0<=v/\v<=1114111/\(v<55296\/57343<v):=by
 simp[Utf8.valid]at h;omega
theorem ME(s:ByteArray)(w:World)(hs:s.size<=maxLen):
 Calls prog 85 #[.string s] w λe w'=>e=.returned (NG (esc s.data.toList))/\Below w.heap.size w w':=by
 unfold maxLen at hs;have hl:s.data.toList.length=s.size:=(vZ s).symm;by_cases h2:2<=s.size
 ·have hlt:decide ((s.size:Int)<2)=false:=by simp;omega
  have i0:0<s.size:=Rk (by decide) h2
  have i1:1<s.size:=h2
  have hL:=Pk s h2;have hr:(s.data.toList.drop 2).length=s.size-2:=by rw[oz,hl]
  have hb0:(s[1]'i1).toNat<256:=Nu _
  by_cases h9:(s[0]'i0).toNat=92
  ·have g9:(((s[0]'i0).toNat:Int) !=92)=false:=by rw[h9];rfl
   have hsm:=MC (s[1]'i1).toNat w (by omega) (by omega);cases hs1:wE (s[1]'i1).toNat with
   |some v=>
    have hE:=Db (r:=s.data.toList.drop 2) h9 hs1;rw[<-hL]at hE;have hE2:NG (esc s.data.toList)=.tuple #[.string (Utf8.encode v),.int .i64 2]:=by rw[hE];rfl
    have HS:=eu hE2;rw[hs1]at hsm;have HM:=eu hsm;clear hE hE2 hs1 hL hl hr h9 hsm
    go_enter func85,ntmps85
    go_wp2_with fail
    refine HM.out.mono ?_;rintro e w1 ⟨rfl,hb⟩;unfold DW;go_wp2;go_ret2;exact⟨by rw[HS.out];rfl,hb⟩
   |none=>
    rw[hs1]at hsm;have HM:=eu hsm;clear hsm;rcases Pj (s[1]'i1).toNat with hd|hd|hd|hd
    ·have hE:=vT (r:=s.data.toList.drop 2) h9 hs1 (.inl hd);rw[<-hL]at hE;have HS:=eu hE;have hc:(s[1]'i1).toNat≠85/\(s[1]'i1).toNat≠117/\(s[1]'i1).toNat≠120:=by
      unfold ql at hd
      (repeat' split at hd)<;>omega
     have c1:(((s[1]'i1).toNat:Int)==120)=false:=E8.2 (by omega);have c2:(((s[1]'i1).toNat:Int)==117)=false:=E8.2 (by omega);have c3:(((s[1]'i1).toNat:Int)==85)=false:=E8.2 (by omega);clear hE hs1 hL hl hr h9 hd hc
     go_enter func85,ntmps85
     go_wp2_with fail
     refine HM.out.mono ?_;rintro e w1 ⟨rfl,hb⟩;unfold DW;go_wp2;go_ret2;exact⟨by rw[HS.out];rfl,hb⟩
    ·have hc:(s[1]'i1).toNat=120:=by
      unfold ql at hd
      (repeat' split at hd)<;>omega
     have c1:(((s[1]'i1).toNat:Int)==120)=true:=by rw[hc];rfl
     have c2:(((s[1]'i1).toNat:Int)==117)=false:=by rw[hc];rfl
     have c3:(((s[1]'i1).toNat:Int)==85)=false:=by rw[hc];rfl
     by_cases h3:s.size<4
     ·have hE:=vT (r:=s.data.toList.drop 2) h9 hs1 (.inr (by rw[hd,hr];omega));rw[<-hL]at hE;have HS:=eu hE;have hlt2:((s.size:Int))<4:=by omega
      clear hE hs1 hL hl hr h9 hd h3 hc
      go_enter func85,ntmps85
      go_wp2_with fail
      refine HM.out.mono ?_;rintro e w1 ⟨rfl,hb⟩;unfold DW;go_wp2;go_ret2;exact⟨by rw[HS.out];rfl,hb⟩
     have hle2:(4:Int)<=s.size:=by omega
     have hln:ql (s[1]'i1).toNat<=(s.data.toList.drop 2).length:=by rw[hd,hr];omega
     have hbad:=λh=>Bw (r:=s.data.toList.drop 2) h9 hs1 (by rw[hd];decide) hln h
     have hgood:=λv h=>zG (v:=v) (r:=s.data.toList.drop 2) h9 hs1 (by rw[hd];decide) hln h
     rw[<-hL,hd]at hbad hgood;obtain⟨HB,HG⟩:=mR hbad hgood;clear hs1 hL hl hr h9 hd h3 hc hbad hgood hln
     go_enter func85,ntmps85
     go_wp2_with fail
     refine HM.out.mono ?_;rintro e w1 ⟨rfl,hb⟩;unfold DW;go_wp2_with fail
     go_loop [7,8,9] (λa i _=>∃(k:Nat)(v:Int),a=.int .i64 v/\i=.int .i64 k/\k<=2/\0<=v/\v<16^k/\num ((s.data.toList.drop 2).take 2) 0=num (((s.data.toList.drop 2).take 2).drop k) v) (λ_ i _=>2-(intOf i).toNat)
     case atStart=>exact⟨0,0,rfl,rfl,nO _,by decide,by decide,rfl⟩
     case round=>
      obtain⟨k,v,rfl,rfl,hk,hv0,hv1,aa⟩:=hrel;have hv2:=IV v k (by omega) hv1;by_cases hkl:k<2
      ·have hkk:(k:Int)<2:=by omega
       have i2:2+k<s.size:=by omega
       have hbx:(s[2+k]'i2).toNat<256:=Nu _
       have hx:=IU (s[2+k]'i2).toNat w1 (by omega) (by omega);rw[drop_take s 2 k hkl (by omega),num]at aa;cases hh:F7 (s[2+k]'i2).toNat with
       |none=>
        rw[hh]at hx aa;have HE:=eu (HB.out (wQ aa));have HX:=eu hx;clear hx aa hh;go_wp2_with fail
        refine HX.out.mono ?_;rintro e w2 ⟨rfl,rfl⟩;unfold Ga;go_wp2;go_ret2;exact⟨by rw[HE.out];rfl,hb⟩
       |some d=>
        rw[hh]at hx aa;have af:=FH hh;obtain⟨HN,HX⟩:=mR aa hx;have hp2:=CP v d k (by omega) hv1;clear hx aa hh;go_wp2_with fail
        refine HX.out.mono ?_;rintro e w2 ⟨rfl,rfl⟩;unfold Ga;go_wp2
        go_round
        case rel=>exact⟨k+1,16*v+d,rfl,by go_num,by omega,by omega,hp2,HN.out⟩
        case measure=>simp[intOf];omega
      obtain rfl:k=2:=by omega
      rw[CQ s 2]at aa;have hsg:=xN aa;cases hval:Utf8.valid v with
      |false=>
       rw[hval]at hsg;have HE:=eu (HB.out hsg);have ae:=Au hv0 hval;clear hsg aa hval;rcases ae with ae|⟨n1,n2,n3⟩
       ·go_wp2;all_goals
         go_ret2;exact⟨by rw[HE.out];rfl,hb⟩
       go_wp2;all_goals
        go_ret2;exact⟨by rw[HE.out];rfl,hb⟩
      |true=>
       rw[hval]at hsg;have hE2:NG (esc s.data.toList)=.tuple #[.string (Utf8.encode v),.int .i64 4]:=by rw[HG.out v hsg];rfl
       obtain⟨HE,HV⟩:=mR hE2 hval;obtain⟨y0,y1,hyv⟩:=Av hval;clear hsg aa hval hE2;rcases hyv with hyv|hyv
       all_goals
        go_wp2_with fail
        all_goals
         refine(Cz v w1 HV.out).mono ?_;rintro e w2 ⟨rfl,hby,hb2⟩;have hcv:=zF hby;clear hby;generalize Utf8.encode v=V at*;go_wp2;go_ret2;exact⟨by rw[HE.out];rfl,hb.trans (hb2.mono hb.size)⟩
    ·have hc:(s[1]'i1).toNat=117:=by
      unfold ql at hd
      (repeat' split at hd)<;>omega
     have c1:(((s[1]'i1).toNat:Int)==120)=false:=by rw[hc];rfl
     have c2:(((s[1]'i1).toNat:Int)==117)=true:=by rw[hc];rfl
     have c3:(((s[1]'i1).toNat:Int)==85)=false:=by rw[hc];rfl
     by_cases h3:s.size<6
     ·have hE:=vT (r:=s.data.toList.drop 2) h9 hs1 (.inr (by rw[hd,hr];omega));rw[<-hL]at hE;have HS:=eu hE;have hlt2:((s.size:Int))<6:=by omega
      clear hE hs1 hL hl hr h9 hd h3 hc
      go_enter func85,ntmps85
      go_wp2_with fail
      refine HM.out.mono ?_;rintro e w1 ⟨rfl,hb⟩;unfold DW;go_wp2;go_ret2;exact⟨by rw[HS.out];rfl,hb⟩
     have hle2:(6:Int)<=s.size:=by omega
     have hln:ql (s[1]'i1).toNat<=(s.data.toList.drop 2).length:=by rw[hd,hr];omega
     have hbad:=λh=>Bw (r:=s.data.toList.drop 2) h9 hs1 (by rw[hd];decide) hln h
     have hgood:=λv h=>zG (v:=v) (r:=s.data.toList.drop 2) h9 hs1 (by rw[hd];decide) hln h
     rw[<-hL,hd]at hbad hgood;obtain⟨HB,HG⟩:=mR hbad hgood;clear hs1 hL hl hr h9 hd h3 hc hbad hgood hln
     go_enter func85,ntmps85
     go_wp2_with fail
     refine HM.out.mono ?_;rintro e w1 ⟨rfl,hb⟩;unfold DW;go_wp2_with fail
     go_loop [7,8,9] (λa i _=>∃(k:Nat)(v:Int),a=.int .i64 v/\i=.int .i64 k/\k<=4/\0<=v/\v<16^k/\num ((s.data.toList.drop 2).take 4) 0=num (((s.data.toList.drop 2).take 4).drop k) v) (λ_ i _=>4-(intOf i).toNat)
     case atStart=>exact⟨0,0,rfl,rfl,nO _,by decide,by decide,rfl⟩
     case round=>
      obtain⟨k,v,rfl,rfl,hk,hv0,hv1,aa⟩:=hrel;have hv2:=IV v k (by omega) hv1;by_cases hkl:k<4
      ·have hkk:(k:Int)<4:=by omega
       have i2:2+k<s.size:=by omega
       have hbx:(s[2+k]'i2).toNat<256:=Nu _
       have hx:=IU (s[2+k]'i2).toNat w1 (by omega) (by omega);rw[drop_take s 4 k hkl (by omega),num]at aa;cases hh:F7 (s[2+k]'i2).toNat with
       |none=>
        rw[hh]at hx aa;have HE:=eu (HB.out (wQ aa));have HX:=eu hx;clear hx aa hh;go_wp2_with fail
        refine HX.out.mono ?_;rintro e w2 ⟨rfl,rfl⟩;unfold Ga;go_wp2;go_ret2;exact⟨by rw[HE.out];rfl,hb⟩
       |some d=>
        rw[hh]at hx aa;have af:=FH hh;obtain⟨HN,HX⟩:=mR aa hx;have hp2:=CP v d k (by omega) hv1;clear hx aa hh;go_wp2_with fail
        refine HX.out.mono ?_;rintro e w2 ⟨rfl,rfl⟩;unfold Ga;go_wp2
        go_round
        case rel=>exact⟨k+1,16*v+d,rfl,by go_num,by omega,by omega,hp2,HN.out⟩
        case measure=>simp[intOf];omega
      obtain rfl:k=4:=by omega
      rw[CQ s 4]at aa;have hsg:=xN aa;cases hval:Utf8.valid v with
      |false=>
       rw[hval]at hsg;have HE:=eu (HB.out hsg);have ae:=Au hv0 hval;clear hsg aa hval;rcases ae with ae|⟨n1,n2,n3⟩
       ·go_wp2;all_goals
         go_ret2;exact⟨by rw[HE.out];rfl,hb⟩
       go_wp2;all_goals
        go_ret2;exact⟨by rw[HE.out];rfl,hb⟩
      |true=>
       rw[hval]at hsg;have hE2:NG (esc s.data.toList)=.tuple #[.string (Utf8.encode v),.int .i64 6]:=by rw[HG.out v hsg];rfl
       obtain⟨HE,HV⟩:=mR hE2 hval;obtain⟨y0,y1,hyv⟩:=Av hval;clear hsg aa hval hE2;rcases hyv with hyv|hyv
       all_goals
        go_wp2_with fail
        all_goals
         refine(Cz v w1 HV.out).mono ?_;rintro e w2 ⟨rfl,hby,hb2⟩;have hcv:=zF hby;clear hby;generalize Utf8.encode v=V at*;go_wp2;go_ret2;exact⟨by rw[HE.out];rfl,hb.trans (hb2.mono hb.size)⟩
    have hc:(s[1]'i1).toNat=85:=by
     unfold ql at hd
     (repeat' split at hd)<;>omega
    have c1:(((s[1]'i1).toNat:Int)==120)=false:=by rw[hc];rfl
    have c2:(((s[1]'i1).toNat:Int)==117)=false:=by rw[hc];rfl
    have c3:(((s[1]'i1).toNat:Int)==85)=true:=by rw[hc];rfl
    by_cases h3:s.size<10
    ·have hE:=vT (r:=s.data.toList.drop 2) h9 hs1 (.inr (by rw[hd,hr];omega));rw[<-hL]at hE;have HS:=eu hE;have hlt2:((s.size:Int))<10:=by omega
     clear hE hs1 hL hl hr h9 hd h3 hc
     go_enter func85,ntmps85
     go_wp2_with fail
     refine HM.out.mono ?_;rintro e w1 ⟨rfl,hb⟩;unfold DW;go_wp2;go_ret2;exact⟨by rw[HS.out];rfl,hb⟩
    have hle2:(10:Int)<=s.size:=by omega
    have hln:ql (s[1]'i1).toNat<=(s.data.toList.drop 2).length:=by rw[hd,hr];omega
    have hbad:=λh=>Bw (r:=s.data.toList.drop 2) h9 hs1 (by rw[hd];decide) hln h
    have hgood:=λv h=>zG (v:=v) (r:=s.data.toList.drop 2) h9 hs1 (by rw[hd];decide) hln h
    rw[<-hL,hd]at hbad hgood;obtain⟨HB,HG⟩:=mR hbad hgood;clear hs1 hL hl hr h9 hd h3 hc hbad hgood hln
    go_enter func85,ntmps85
    go_wp2_with fail
    refine HM.out.mono ?_;rintro e w1 ⟨rfl,hb⟩;unfold DW;go_wp2_with fail
    go_loop [7,8,9] (λa i _=>∃(k:Nat)(v:Int),a=.int .i64 v/\i=.int .i64 k/\k<=8/\0<=v/\v<16^k/\num ((s.data.toList.drop 2).take 8) 0=num (((s.data.toList.drop 2).take 8).drop k) v) (λ_ i _=>8-(intOf i).toNat)
    case atStart=>exact⟨0,0,rfl,rfl,nO _,by decide,by decide,rfl⟩
    case round=>
     obtain⟨k,v,rfl,rfl,hk,hv0,hv1,aa⟩:=hrel;have hv2:=IV v k (by omega) hv1;by_cases hkl:k<8
     ·have hkk:(k:Int)<8:=by omega
      have i2:2+k<s.size:=by omega
      have hbx:(s[2+k]'i2).toNat<256:=Nu _
      have hx:=IU (s[2+k]'i2).toNat w1 (by omega) (by omega);rw[drop_take s 8 k hkl (by omega),num]at aa;cases hh:F7 (s[2+k]'i2).toNat with
      |none=>
       rw[hh]at hx aa;have HE:=eu (HB.out (wQ aa));have HX:=eu hx;clear hx aa hh;go_wp2_with fail
       refine HX.out.mono ?_;rintro e w2 ⟨rfl,rfl⟩;unfold Ga;go_wp2;go_ret2;exact⟨by rw[HE.out];rfl,hb⟩
      |some d=>
       rw[hh]at hx aa;have af:=FH hh;obtain⟨HN,HX⟩:=mR aa hx;have hp2:=CP v d k (by omega) hv1;clear hx aa hh;go_wp2_with fail
       refine HX.out.mono ?_;rintro e w2 ⟨rfl,rfl⟩;unfold Ga;go_wp2
       go_round
       case rel=>exact⟨k+1,16*v+d,rfl,by go_num,by omega,by omega,hp2,HN.out⟩
       case measure=>simp[intOf];omega
     obtain rfl:k=8:=by omega
     rw[CQ s 8]at aa;have hsg:=xN aa;cases hval:Utf8.valid v with
     |false=>
      rw[hval]at hsg;have HE:=eu (HB.out hsg);have ae:=Au hv0 hval;clear hsg aa hval;rcases ae with ae|⟨n1,n2,n3⟩
      ·go_wp2;all_goals
        go_ret2;exact⟨by rw[HE.out];rfl,hb⟩
      go_wp2;all_goals
       go_ret2;exact⟨by rw[HE.out];rfl,hb⟩
     |true=>
      rw[hval]at hsg;have hE2:NG (esc s.data.toList)=.tuple #[.string (Utf8.encode v),.int .i64 10]:=by rw[HG.out v hsg];rfl
      obtain⟨HE,HV⟩:=mR hE2 hval;obtain⟨y0,y1,hyv⟩:=Av hval;clear hsg aa hval hE2;rcases hyv with hyv|hyv
      all_goals
       go_wp2_with fail
       all_goals
        refine(Cz v w1 HV.out).mono ?_;rintro e w2 ⟨rfl,hby,hb2⟩;have hcv:=zF hby;clear hby;generalize Utf8.encode v=V at*;go_wp2;go_ret2;exact⟨by rw[HE.out];rfl,hb.trans (hb2.mono hb.size)⟩
  have HS:=eu (Ew (c:=s[1]'i1) (r:=s.data.toList.drop 2) h9);rw[<-hL]at HS;have g9:(((s[0]'i0).toNat:Int) !=92)=true:=by rw[E9];omega
  clear hL hl hr h9
  go_enter func85,ntmps85
  go_wp2;all_goals
   go_ret2;exact⟨by rw[HS.out];rfl,mF _ _⟩
 have HS:=eu (L5 (s:=s.data.toList) (by omega));have hlt:decide ((s.size:Int)<2)=true:=by simp;omega
 clear hl
 go_enter func85,ntmps85
 go_wp2;all_goals
  go_ret2;exact⟨by rw[HS.out];rfl,mF _ _⟩
end
section
open Go.RowKit
open Sg
open Es
open Qo
theorem GJ(s:ByteArray)(p:Nat)(h:p<s.size):∃c:ByteArray,(∀W:World,(Instr.slice 9 (.string s) (some (.int .i64 (p:Int))) (some (.int .i64 ((p:Int)+1))) none).run prog W=.ok (.string c) W)/\c.data.toList=[s.get! p]/\c.size=1:=by
 have h2:(s.extract p (p+1)).data.toList=[s.get! p]:=by
  rw[Kt,show p+1-p=1 by omega];have h3:p<s.data.toList.length:=by rw[<-vZ];exact h
  rw[yE h3,AR,AU,<-BP,pO,qQ h3];rfl
 refine⟨s.extract p (p+1),λW=>?_,h2,by rw[vZ,h2];rfl⟩;rw[run_slice_string W 9 s .i64 .i64 p (p+1) underlying9 (by omega) (by omega) (by omega)];simp
theorem IW(s:ByteArray)(p:Nat)(h:p<s.size):s.data.toList.drop p=s.get! p::s.data.toList.drop (p+1):=by
 have h3:p<s.data.toList.length:=by rw[<-vZ];exact h
 rw[yE h3,<-BP,pO,qQ h3];rfl
theorem Aw(s:ByteArray)(p:Nat)(h:s.size<=p):s.data.toList.drop p=[]:=Q7 (by rw[<-vZ];exact h)
theorem Ui.next{L T:List UInt8}{en:Bool}{p q:Nat}{out c:ByteArray}(h:Ui L T en p out)(e:yA (L.drop p)=(c.data.toList++(yA (L.drop q)).1,(yA (L.drop q)).2)):Ui L T en q (out++c):=by
 obtain⟨h1,h2⟩:=h;rw[e]at h1 h2;exact⟨by rw[CK,sF];exact h1,h2⟩
theorem Ui.last{L T:List UInt8}{en b:Bool}{p:Nat}{out:ByteArray}(h:Ui L T en p out)(e:yA (L.drop p)=([],b)):ba T=out/\en=b:=by
 obtain⟨h1,h2⟩:=h;rw[e]at h1 h2;simp only[rD]at h1;exact⟨Ue h1,h2.symm⟩
theorem QU.next{L T:List UInt8}{bs:List Nat}{en:Bool}{p q:Nat}{out c:ByteArray}{acc:List Nat}(h:QU L T bs en p out acc)(e:wX p (L.drop p)=(c.data.toList++(wX q (L.drop q)).1,(wX q (L.drop q)).2)):QU L T bs en q (out++c) acc:=by
 obtain⟨h1,h2,h3⟩:=h;rw[e]at h1 h2 h3;exact⟨by rw[CK,sF];exact h1,h2,h3⟩
theorem QU.bad{L T:List UInt8}{bs:List Nat}{en:Bool}{p q:Nat}{out c:ByteArray}{acc:List Nat}(h:QU L T bs en p out acc)(e:wX p (L.drop p)=(c.data.toList++(wX q (L.drop q)).1,p::(wX q (L.drop q)).2.1,(wX q (L.drop q)).2.2)):QU L T bs en q (out++c) (acc++[p]):=by
 obtain⟨h1,h2,h3⟩:=h;rw[e]at h1 h2 h3;exact⟨by rw[CK,sF];exact h1,by rw[sF];exact h2,h3⟩
theorem QU.last{L T:List UInt8}{bs:List Nat}{en b:Bool}{p:Nat}{out:ByteArray}{acc:List Nat}(h:QU L T bs en p out acc)(e:wX p (L.drop p)=([],[],b)):ba T=out/\acc=bs/\en=b:=by
 obtain⟨h1,h2,h3⟩:=h;rw[e]at h1 h2 h3;simp only[rD]at h1 h2;exact⟨Ue h1,h2,h3.symm⟩
theorem Wx{c:UInt8}(h:¬c.toNat=39):c≠39:=λe=>h (by rw[e];rfl)
theorem Td(s:ByteArray)(w:World)(hs:s.size<=100000)(h1:1<=s.size):
 Calls prog 71 #[.string s] w λe w'=>e=.returned (.tuple #[.string (ba (yA (s.data.toList.drop 1)).1),.bool (yA (s.data.toList.drop 1)).2])/\Below w.heap.size w w':=by
 obtain⟨T,hT⟩:=my ((yA (s.data.toList.drop 1)).1);obtain⟨en,hen⟩:=my ((yA (s.data.toList.drop 1)).2);have H0:=eu (show Ui s.data.toList T en 1 ⟨#[]⟩from⟨hT,hen⟩);rw[hT,hen];clear hT hen;have e39:(⟨#[39]⟩:ByteArray).size=1:=rfl
 go_enter func71,ntmps71
 go_wp2_with fail
 go_loopw [4,5] (λov av wr=>∃(p:Nat)(out:ByteArray),.string out=ov/\av=.int .i64 p/\1<=p/\p<=s.size/\out.size<=p/\Hid (Ui s.data.toList T en p out)/\wr=w) (λ_ av _=>s.size-(intOf av).toNat)
 case atStart=>exact⟨1,⟨#[]⟩,rfl,rfl,mJ _,h1,by decide,H0,rfl⟩
 case round=>
  obtain⟨p,out,rfl,rfl,hp1,ah,ai,HS,rfl⟩:=hrel;by_cases hlt:p<s.size
  ·have hpi:(p:Int)<(s.size:Int):=by omega
   obtain⟨c,hcut,hcl,hcz⟩:=GJ s p hlt;have hg:(s[p]'hlt)=s.get! p:=Sc.IE s p hlt;have hdr:=IW s p hlt;have ag:¬(9223372036854775807<out.size+c.size):=by omega
   by_cases aa:(s.get! p).toNat=39
   ·have g:(((s[p]'hlt).toNat:Int) !=39)=false:=by rw[hg,aa];rfl
    rw[Qo.JL _ 39 aa]at hdr
    change s.data.toList.drop p=39::_ at hdr
    by_cases hlt2:p+1<s.size
    ·have hg2:(s[p+1]'hlt2)=s.get! (p+1):=Sc.IE s (p+1) hlt2;have hd2:=IW s (p+1) hlt2;have hge:¬((s.size:Int)<=(p:Int)+1):=by omega
     have ae:decide ((s.size:Int)<=(p:Int)+1)=false:=nK hge;by_cases h2:(s.get! (p+1)).toNat=39
     ·have g2:(((s[p+1]'hlt2).toNat:Int) !=39)=false:=by rw[hg2,h2];rfl
      rw[Qo.JL _ 39 h2]at hd2
      change s.data.toList.drop (p+1)=39::_ at hd2
      have hS2:=HS.out.next (q:=p+2) (c:=⟨#[39]⟩) (by rw[hdr,hd2,Sr];rfl);have HS2:=eu hS2;have af:¬(9223372036854775807<out.size+(⟨#[39]⟩:ByteArray).size):=by rw[e39];omega
      clear hdr hd2 hg hg2 aa h2 hS2 hcl hcut HS;go_wp2_with fail
      go_roundw
      case rel=>exact⟨p+2,out++⟨#[39]⟩,rfl,by go_num,by omega,by omega,by rw[Sg.pZ,e39];omega,HS2,trivial⟩
      case measure=>simp[intOf];omega
     have g2:(((s[p+1]'hlt2).toNat:Int) !=39)=true:=by rw[E9,hg2];omega
     obtain⟨hT,rfl⟩:=HS.out.last (b:=true) (by rw[hdr,hd2,Ss _ _ (Wx h2)]);have HT:=eu hT;clear hdr hd2 hg hg2 aa h2 hcl hcut HS hT;go_wp2_with fail
     go_ret2;exact⟨by rw[HT.out];rfl,mF _ _⟩
    have ae:decide ((s.size:Int)<=(p:Int)+1)=true:=oP (by omega);obtain⟨hT,rfl⟩:=HS.out.last (b:=true) (by rw[hdr,Aw s (p+1) (by omega)];rfl);have HT:=eu hT;clear hdr hg aa hcl hcut HS hT;go_wp2_with fail
    go_ret2;exact⟨by rw[HT.out];rfl,mF _ _⟩
   have g:(((s[p]'hlt).toNat:Int) !=39)=true:=by rw[E9,hg];omega
   have hS2:=HS.out.next (q:=p+1) (c:=c) (by rw[hdr,Vh _ _ (Wx aa),hcl];rfl);have HS2:=eu hS2;clear hdr hg aa hS2 hcl HS;go_wp2_with fail
   go_roundw
   case rel=>exact⟨p+1,out++c,rfl,by go_num,by omega,by omega,by rw[Sg.pZ];omega,HS2,trivial⟩
   case measure=>simp[intOf];omega
  obtain rfl:p=s.size:=by omega
  obtain⟨hT,rfl⟩:=HS.out.last (b:=false) (by rw[Aw s s.size (mJ _)];rfl);have HT:=eu hT;clear HS hT;go_wp2_with fail
  go_ret2;exact⟨by rw[HT.out];rfl,mF _ _⟩
theorem Xv{c:UInt8}(h:¬c.toNat=34):c≠34:=λe=>h (by rw[e];rfl)
theorem Xw{c:UInt8}(h:¬c.toNat=92):c≠92:=λe=>h (by rw[e];rfl)
theorem Te(s:ByteArray)(w:World)(hs:s.size<=100000)(h1:1<=s.size):
 Calls prog 72 #[.string s] w (Told (wX 1 (s.data.toList.drop 1)) w):=by
 have HN:=eu (λp W=>ME (s.extract p s.size) W (show(s.extract p s.size).size<=maxLen by rw[K8];unfold maxLen;omega));obtain⟨T,hT⟩:=my ((wX 1 (s.data.toList.drop 1)).1);obtain⟨bs,hbs⟩:=my ((wX 1 (s.data.toList.drop 1)).2.1);obtain⟨en,hen⟩:=my ((wX 1 (s.data.toList.drop 1)).2.2);have H0:=eu (show QU s.data.toList T bs en 1 ⟨#[]⟩ []from⟨hT,hbs,hen⟩);rw[show wX 1 (s.data.toList.drop 1)=(T,bs,en)from by rw[<-hT,<-hbs,<-hen]];clear hT hbs hen;obtain⟨i0,hi,hz0,hz1,hz2⟩:=Fa J8;have HI:=eu (And.intro hi (And.intro hz0 (And.intro hz1 hz2)));clear hi hz0 hz1 hz2
 go_enter func72,ntmps72
 go_wp2_with fail
 go_loopw [5,6,7] (λov bv av wr=>∃(p:Nat)(out:ByteArray)(acc:List Nat)(B:Value),.string out=ov/\B=bv/\av=.int .i64 p/\1<=p/\p<=s.size/\out.size<=2*p/\acc.length<=p/\Hid (wr.ownsRow w.heap.size 3 1 B acc.length (places acc))/\Hid (QU s.data.toList T bs en p out acc)/\Below w.heap.size w wr) (λ_ _ av _=>s.size-(intOf av).toNat)
 case atStart=>exact⟨1,⟨#[]⟩,[],_,rfl,rfl,rfl,mJ _,h1,by decide,by decide,eu (EC w _),H0,mF _ w⟩
 case round=>
  obtain⟨p,out,acc,B,rfl,rfl,rfl,hp1,ay,az,haz,HA,HS,hb⟩:=hrel;by_cases hlt:p<s.size
  ·have hpi:(p:Int)<(s.size:Int):=by omega
   obtain⟨c,hcut,hcl,hcz⟩:=GJ s p hlt;have hg:(s[p]'hlt)=s.get! p:=Sc.IE s p hlt;have hdr:=IW s p hlt;have ax:¬(9223372036854775807<out.size+c.size):=by omega
   by_cases aa:(s.get! p).toNat=34
   ·have g:(((s[p]'hlt).toNat:Int)==34)=true:=by rw[hg,aa];rfl
    rw[Qo.JL _ 34 aa]at hdr
    change s.data.toList.drop p=34::_ at hdr
    obtain⟨hT,rfl,rfl⟩:=HS.out.last (b:=true) (by rw[hdr,Sw]);have HT:=eu hT;clear hdr hg aa hcl hcut HS hT;go_wp2_with fail
    go_ret3
    exact⟨B,by show Ending.returned (.tuple #[.string out,B,.bool true])=.returned (.tuple #[.string (ba T),B,.bool true]);rw[HT.out],HA.out,hb⟩
   have g:(((s[p]'hlt).toNat:Int)==34)=false:=E8.2 (by rw[hg];omega);by_cases ae:(s.get! p).toNat=92
   ·have g2:(((s[p]'hlt).toNat:Int) !=92)=false:=by rw[hg,ae];rfl
    rw[Qo.JL _ 92 ae]at hdr hcl
    change s.data.toList.drop p=92::_ at hdr
    change c.data.toList=[92]at hcl
    have hn:=HN.out p wr;rw[PW]at hn;cases hE:esc (s.data.toList.drop p)with
    |none=>
     rw[hE]at hn;have hS2:=HS.out.bad (q:=p+1) (c:=c) (by rw[hcl,hdr];rw[hdr]at hE;rw[Sz p _ hE];rfl);have HS2:=eu hS2;have HC:=eu (show Calls prog 85 #[.string (s.extract p s.size)] wr λe w'=>e=.returned (.tuple #[.string ⟨#[]⟩,.int .i64 0])/\Below wr.heap.size wr w' from hn);clear hdr hg aa ae hcl HS hS2 hn hE HN;go_wp2_with fail
     refine HC.out.mono ?_;rintro e w1 ⟨rfl,hb1⟩;have hb2:=hb.trans (hb1.mono hb.size);have af:=eu (hb2.alloc hb2.size (.cells #[.int .i64 (p:Int)] 3));have ag:=eu ((mU HA.out hb1).alloc (.cells #[.int .i64 (p:Int)] 3));have ah:=eu (cell_one_new w1 (.int .i64 (p:Int)) 3);clear hb hb1 hb2;go_wp2_with (at_builtin;go_must (refine Rm _ rfl (.tmp 42) (.tmp 44) 22 rfl w.heap.size 3 i0 (.int .i64 0) 1 8 underlying22 HI.out.1 HI.out.2.1 HI.out.2.2.1 HI.out.2.2.2 rfl (by decide) B acc.length (places acc) rfl ag.out ⟨w1.heap.size,0,none⟩ 1 1 [.int .i64 (p:Int)] rfl rfl ah.out (by intro u hu;simp at hu;subst hu;rfl) (by unfold maxLen;omega) (by omega) af.out.size ?_;intro v3 w3 hown3 hg3 hnil3;have ai:=eu hown3;have aj:=eu (LY af.out hg3 (λg h=>(ag.out.lt g h).1) af.out.size);clear hown3 hg3 hnil3))
     go_roundw
     case rel=>exact⟨p+1,out++c,acc++[p],v3,rfl,rfl,by go_num,by omega,by omega,by rw[Sg.pZ];omega,by rw[oq];show acc.length+1<=p+1;omega,eu (by rw[oq,Bb];exact ai.out),HS2,aj.out⟩
     case measure=>simp[intOf];omega
    |some x=>
     obtain⟨v,k⟩:=x;have hk:=Qo.BA hE;have hkl:(s.data.toList.drop p).length=s.size-p:=by rw[oz,<-vZ]
     have h4:=My v;have hk0:((k:Int)==0)=false:=E8.2 (by omega);rw[hE]at hn;have hS2:=HS.out.next (q:=p+k) (c:=Utf8.encode v) (by rw[hdr];rw[hdr]at hE;rw[Sy p _ v k hE,<-hdr,sG]);have HS2:=eu hS2;have HC:=eu (show Calls prog 85 #[.string (s.extract p s.size)] wr λe w'=>e=.returned (.tuple #[.string (Utf8.encode v),.int .i64 (k:Int)])/\Below wr.heap.size wr w' from hn);clear hdr hg aa ae hcl HS hS2 hn hE HN hcut;generalize Utf8.encode v=V at*;have ak:¬(9223372036854775807<out.size+V.size):=by omega
     have hpk:p+k<=s.size:=by omega
     clear hkl;go_wp2_with fail
     refine HC.out.mono ?_;rintro e w1 ⟨rfl,hb1⟩;have hb2:=hb.trans (hb1.mono hb.size);have HA2:=eu (mU HA.out hb1);go_wp2_with fail
     go_roundw
     case rel=>exact⟨p+k,out++V,acc,B,rfl,rfl,by go_num,by omega,hpk,by rw[Sg.pZ];omega,by omega,HA2,HS2,hb2⟩
     case measure=>simp[intOf];omega
   have g2:(((s[p]'hlt).toNat:Int) !=92)=true:=by rw[E9,hg];omega
   have hS2:=HS.out.next (q:=p+1) (c:=c) (by rw[hdr,Vi _ _ _ (Xv aa) (Xw ae),hcl];rfl);have HS2:=eu hS2;clear hdr hg aa ae hS2 hcl HS HN;go_wp2_with fail
   go_roundw
   case rel=>exact⟨p+1,out++c,acc,B,rfl,rfl,by go_num,by omega,by omega,by rw[Sg.pZ];omega,by omega,HA,HS2,hb⟩
   case measure=>simp[intOf];omega
  obtain rfl:p=s.size:=by omega
  obtain⟨hT,rfl,rfl⟩:=HS.out.last (b:=false) (by rw[Aw s s.size (mJ _),Su]);have HT:=eu hT;clear HS hT HN;go_wp2_with fail
  go_ret3
  exact⟨B,by show Ending.returned (.tuple #[.string out,B,.bool false])=.returned (.tuple #[.string (ba T),B,.bool false]);rw[HT.out],HA.out,hb⟩
theorem WN(k:Int)(s:ByteArray)(w:World)(hs:s.size<=100000):
 Calls prog 47 #[.int .i64 k,.string s] w (Told (rU k s.data.toList) w):=by
 by_cases h0:s.size=0
 ·obtain rfl:=P4 s h0
  go_enter func47,ntmps47
  go_wp2
  go_ret3
  exact zM _ _ _ _ _ rfl (mF _ _)
 have h1:1<=s.size:=by omega
 obtain⟨hE,hne⟩:=Tc s h1;have r1:=Td s w hs h1;have r2:=Te s w hs h1;by_cases k1:k=15
 ·subst k1;rw[PX _ hne];clear r1 r2
  go_enter func47,ntmps47
  go_wp2
  go_ret3
  exact zM _ _ _ _ _ rfl (mF _ _)
 by_cases k2:k=16
 ·subst k2;rw[PY _ hne];obtain⟨x,hx⟩:=my (yA (s.data.toList.drop 1));rw[hx]at r1⊢;have R1:=eu r1;clear r1 r2 hx
  go_enter func47,ntmps47
  go_wp2_with fail
  refine R1.out.mono ?_;rintro e w1 ⟨rfl,hb⟩;go_wp2
  go_ret3
  exact zM _ _ _ _ _ rfl hb
 by_cases k3:k=17
 ·subst k3;rw[PZ _ hne];obtain⟨x,hx⟩:=my (wX 1 (s.data.toList.drop 1));rw[hx]at r2⊢;have R2:=eu r2;clear r1 r2 hx
  go_enter func47,ntmps47
  go_wp2_with fail
  refine R2.out.mono ?_;rintro e w1 ⟨v,rfl,hO,hb⟩;go_wp2
  go_ret3
  exact⟨v,rfl,hO,hb⟩
 rw[Ta k _ k1 k2 k3];have g1:(k==15)=false:=E8.2 k1;have g2:(k==16)=false:=E8.2 k2;have g3:(k==17)=false:=E8.2 k3;clear r1 r2
 go_enter func47,ntmps47
 go_wp2
 go_ret3
 exact zM _ _ _ _ _ rfl (mF _ _)
end
section
open Go.RowKit
open Sg
open Sq
def Oz(x:Rw.R):List Value:=[.int .i64 x.kind,.int .i64 x.from',.int .i64 x.au,.int .i64 x.mE]
def encR:qP Rw.R:=⟨Oz,4,by decide,λ_=>rfl,λx u hu=>by
 cases hu with
 |head=>rfl
 |tail _ hu=>cases hu with
  |head=>rfl
  |tail _ hu=>cases hu with
   |head=>rfl
   |tail _ hu=>cases hu with
    |head=>rfl
    |tail _ hu=>cases hu⟩
abbrev Wy(x:Rw.R):Value:=.agg #[.int .i64 x.kind,.int .i64 x.from',.int .i64 x.au,.int .i64 x.mE]
theorem XN:Ty prog encR 52 63 32:=Ty.of (z:=.agg #[.int .i64 0,.int .i64 0,.int .i64 0,.int .i64 0]) underlying52 (by kernel_rfl) (by kernel_rfl) rfl (λw=>by kernel_rfl)
def Fu(x:Rw.E):List Value:=[.bool x.dash,.int .i64 x.mE,.int .i64 x.from',.int .i64 x.au]
def vE:qP Rw.E:=⟨Fu,4,by decide,λ_=>rfl,λx u hu=>by
 cases hu with
 |head=>rfl
 |tail _ hu=>cases hu with
  |head=>rfl
  |tail _ hu=>cases hu with
   |head=>rfl
   |tail _ hu=>cases hu with
    |head=>rfl
    |tail _ hu=>cases hu⟩
theorem vk{w:World}{a:Option Addr}{cap:Nat}{l:List Rw.R}(h:Reads encR w (.slice a l.length cap) l)(j:Nat)(x:Rw.R)(hj:l[j]?=some x):
 ∃b off,a=some ⟨b,off,none⟩/\w.cell? ⟨b,off+j*4,none⟩=some (.int .i64 x.kind)/\w.cell? ⟨b,off+j*4+1,none⟩=some (.int .i64 x.from')/\w.cell? ⟨b,off+j*4+2,none⟩=some (.int .i64 x.au)/\w.cell? ⟨b,off+j*4+3,none⟩=some (.int .i64 x.mE):=by
 obtain⟨b,off,h1,h2⟩:=h.at_ j x hj;exact⟨b,off,h1,h2 0 _ rfl,h2 1 _ rfl,h2 2 _ rfl,h2 3 _ rfl⟩
theorem Tf{w:World}{a:Option Addr}{cap:Nat}{l:List Rw.E}(h:Reads vE w (.slice a l.length cap) l)(j:Nat)(x:Rw.E)(hj:l[j]?=some x):
 ∃b off,a=some ⟨b,off,none⟩/\w.cell? ⟨b,off+j*4,none⟩=some (.bool x.dash)/\w.cell? ⟨b,off+j*4+1,none⟩=some (.int .i64 x.mE)/\w.cell? ⟨b,off+j*4+2,none⟩=some (.int .i64 x.from')/\w.cell? ⟨b,off+j*4+3,none⟩=some (.int .i64 x.au):=by
 obtain⟨b,off,h1,h2⟩:=h.at_ j x hj;exact⟨b,off,h1,h2 0 _ rfl,h2 1 _ rfl,h2 2 _ rfl,h2 3 _ rfl⟩
def Cg(L:List Rw.R)(w:World)(e:Ending)(w':World):Prop:=
 ∃u,e=.returned u/\w'.ownsRow w.heap.size 63 4 u L.length (encR.all L)/\Below w.heap.size w w'
def yR(t:TypeId)(L:List Rw.E)(n:Nat)(w:World)(e:Ending)(w':World):Prop:=
 ∃u,e=.returned (.tuple #[u,.int .i64 n])/\w'.ownsRow w.heap.size t 4 u L.length (vE.all L)/\Below w.heap.size w w'
theorem yR.read{t:TypeId}{L:List Rw.E}{n:Nat}{w w':World}{e:Ending}(h:yR t L n w e w'):∃a cap,e=.returned (.tuple #[.slice a L.length cap,.int .i64 n])/\Reads vE w' (.slice a L.length cap) L/\Below w.heap.size w w':=by
 obtain⟨u,rfl,hO,hB⟩:=h;have hR:=Reads.mW (E:=vE) hO;obtain⟨a,cap,rfl⟩:=hR.shape;exact⟨a,cap,rfl,hR,hB⟩
theorem lu{w w1 w2:World}(h1:Below w.heap.size w w1)(h2:Below w1.heap.size w1 w2):Below w.heap.size w w2:=h1.trans (h2.mono h1.size)
end
namespace Rw
theorem Cu(op k:Nat):Sc.opens op k<=op+1:=by
 unfold Sc.opens;split<;>(try split)<;>(try split)<;>omega
theorem Ku(ts:List Tk):∀op,wV op ts<=op+ts.length:=by
 induction ts with
 |nil=>intro op;exact mJ _
 |cons x r ih=>
  intro op;have h1:=Cu op x.1;have h2:=ih (Sc.opens op x.1);show wV (Sc.opens op x.1) r<=_;rw[nI];omega
theorem MF(ts:List Tk)(x:Tk)(h:ts[0]?=some x):xw ts=x.2.1:=by
 cases ts with
 |nil=>simp at h
 |cons y r=>
  obtain rfl:y=x:=by simpa using h
  rfl
theorem MG(ts:List Tk)(x:Tk)(h:ts[0]?=some x):pz ts=x.1:=by
 cases ts with
 |nil=>simp at h
 |cons y r=>
  obtain rfl:y=x:=by simpa using h
  rfl
theorem qZ(ts:List Tk)(i:Nat)(x:Tk)(h:ts[i]?=some x):pz (ts.drop i)=x.1:=by
 refine MG _ x ?_;rw[xP];exact h
theorem drop_one(ts:List Tk)(k:Nat)(x:Tk)(h:ts[k]?=some x):ts.drop k=x::ts.drop (k+1):=by
 have hi:=(nC.1 h).1;have e:=(nC.1 h).2;rw[yE hi,e]
theorem MH(ts:List Tk)(k:Nat)(x:Tk)(h:ts[k]?=some x):blanks (ts.drop k)=if x.1=3 then blanks (ts.drop (k+1))+1 else 0:=by
 rw[drop_one ts k x h,blanks]
theorem Jp(ts:List Tk)(k:Nat)(h:ts.length<=k):blanks (ts.drop k)=0:=by
 rw[uQ h];rfl
theorem qL(ts:List Tk)(k:Nat)(h:k<=ts.length):k+blanks (ts.drop k)<=ts.length:=by
 have:=Ma (ts.drop k);rw[oz]at this;omega
theorem P6(l:List Tk)(h:isProp (pz l)=true):uS l=(uS (l.drop (blanks (l.drop 1)+1))).map (·+(blanks (l.drop 1)+1)):=by
 have hp:=Mh l h;obtain⟨n,hn⟩:=my (blanks (l.drop 1)+1);rw[hn]at hp⊢;unfold uS wD;rw[hp];obtain⟨m,hm⟩:=my (tF (l.drop n).length (l.drop n));rw[hm];have e1:l.drop (m+n)=(l.drop n).drop m:=by rw[sG,Nat.add_comm]
 rw[e1];obtain⟨s,hs⟩:=my (AJ ((l.drop n).drop m));rw[hs];have e2:l.drop (m+n+s)=(l.drop n).drop (m+s):=by rw[sG];congr 1;omega
 rw[e2];by_cases hk:pz ((l.drop n).drop (m+s))=6
 ·rw[gu hk,gu hk,Lp];congr 1;omega
 rw[fu hk,fu hk,Option.map_none]
theorem Kv(l:List Tk)(h:isProp (pz l)=false):uS l=if pz (l.drop (AJ l))=6 then some (AJ l+1)else none:=by
 unfold uS wD;rw[Mi l h,Dz,qz]
def vF(ts:List Tk)(p:Nat):Int:=match uS (ts.drop p)with
 |some n=>((p+n:Nat):Int)
 |none=>-1
def AZ(ts:List Tk)(q:Nat):Int:=if pz (ts.drop q)=6 then((q+1:Nat):Int)else -1
theorem MI(ts:List Tk)(p:Nat)(x:Tk)(hx:ts[p]?=some x)(h:isProp x.1=true):vF ts p=vF ts (p+1+blanks (ts.drop (p+1))):=by
 unfold vF;rw[P6 (ts.drop p) (by rw[qZ ts p x hx];exact h),sG,sG];rw[show p+(blanks (ts.drop (p+1))+1)=p+1+blanks (ts.drop (p+1))from by omega];cases uS (ts.drop (p+1+blanks (ts.drop (p+1))))with
 |none=>rfl
 |some n=>show((p+(n+(blanks (ts.drop (p+1))+1)):Nat):Int)=_;congr 1;omega
theorem MJ(ts:List Tk)(p:Nat)(x:Tk)(hx:ts[p]?=some x)(h:isProp x.1=false)(hs:nL x.1=true):vF ts p=AZ ts (p+1+blanks (ts.drop (p+1))):=by
 have hk:=qZ ts p x hx;unfold vF AZ;rw[Kv (ts.drop p) (by rw[hk];exact h)];have e:AJ (ts.drop p)=blanks (ts.drop (p+1))+1:=by unfold AJ;rw[hk,gu hs,sG]
 rw[e,sG,show p+(blanks (ts.drop (p+1))+1)=p+1+blanks (ts.drop (p+1))from by omega];by_cases hc:pz (ts.drop (p+1+blanks (ts.drop (p+1))))=6
 ·rw[gu hc,gu hc];show((p+(blanks (ts.drop (p+1))+1+1):Nat):Int)=_;congr 1;omega
 rw[fu hc,fu hc]
theorem Jq(ts:List Tk)(p:Nat)(x:Tk)(hx:ts[p]?=some x)(h:isProp x.1=false)(hs:nL x.1=false):vF ts p=AZ ts p:=by
 have hk:=qZ ts p x hx;unfold vF AZ;rw[Kv (ts.drop p) (by rw[hk];exact h)];have e:AJ (ts.drop p)=0:=by unfold AJ;rw[hk,fu (by rw[hs];decide)]
 rw[e,sG,xh];by_cases hc:pz (ts.drop p)=6
 ·rw[gu hc,gu hc]
 rw[fu hc,fu hc]
theorem P7(ts:List Tk)(p:Nat)(h:ts.length<=p):vF ts p=-1:=by
 unfold vF;rw[uQ h];rfl
theorem P8(ts:List Tk)(p:Nat)(h:ts.length<=p):AZ ts p=-1:=by
 unfold AZ;rw[uQ h];rfl
def uh(F:Nat)(ts:List Tk)(p:Nat):List E:=(qO (ts.drop p).length (ts.drop p)).map (λi=>uD F ts (p+i))
def ui(ts:List Tk)(p:Nat):Nat:=p+qj (ts.drop p).length (ts.drop p)
theorem H7(F:Nat)(ts:List Tk)(p:Nat)(h:pz (ts.drop p)=5):uh F ts p=uD F ts p::uh F ts (p+1+blanks (ts.drop (p+1)))/\ui ts p=ui ts (p+1+blanks (ts.drop (p+1))):=by
 have hd:=Mf (ts.drop p) h;rw[sG,sG]at hd;obtain⟨n,hn⟩:=my (blanks (ts.drop (p+1)));rw[hn]at hd⊢;have e1:p+(n+1)=p+1+n:=by omega
 rw[e1]at hd;constructor
 ·unfold uh;rw[hd.1,wU,Ut,xh];congr 1;apply Wi;intro i _;show uD F ts (p+(i+(n+1)))=uD F ts (p+1+n+i);congr 1;omega
 unfold ui;rw[hd.2];omega
theorem Bg(F:Nat)(ts:List Tk)(p:Nat)(h:pz (ts.drop p)≠5):uh F ts p=[]/\ui ts p=p:=by
 have hd:=Mg (ts.drop p) h;unfold uh ui;rw[hd.1,hd.2];exact⟨rfl,rfl⟩
theorem Jr(F:Nat)(ts:List Tk)(p:Nat)(h:ts.length<=p):uh F ts p=[]/\ui ts p=p:=by
 refine Bg F ts p ?_;rw[uQ h];decide
def IX(A:Nat)(es:List E):Nat:=match es.getLast? with
 |some e=>e.au
 |none=>A
theorem H8(A:Nat)(es:List E)(x:E):IX A (es++[x])=x.au:=by
 unfold IX;rw[List.getLast?_concat]
def NH(F:Nat)(ts:List Tk)(k:Nat):List E:=match uS (ts.drop k)with
 |some n=>[⟨false,DU ts k,F+k,F+k+n⟩]
 |none=>[]
theorem P9(F:Nat)(ts:List Tk):rT F ts=uh F ts (ou ts)++NH F ts (ui ts (ou ts)):=by rw[uu];rfl
theorem Qa(F:Nat)(ts:List Tk):vH F ts=IX (F+ou ts) (rT F ts):=rfl
theorem Qb(F:Nat)(ts:List Tk)(k:Nat)(h:vF ts k=-1):NH F ts k=[]:=by
 unfold vF at h;unfold NH;cases hk:uS (ts.drop k)with
 |none=>rfl
 |some n=>rw[hk]at h;dsimp only at h;omega
theorem Qc(F:Nat)(ts:List Tk)(k:Nat)(h:vF ts k≠-1):∃q:Nat,vF ts k=(q:Int)/\k<q/\q<=ts.length/\k<ts.length/\NH F ts k=[⟨false,DU ts k,F+k,F+q⟩]:=by
 unfold vF at h;unfold vF NH;cases hk:uS (ts.drop k)with
 |none=>rw[hk]at h;exact absurd rfl h
 |some n=>
  have hi:=wB (ts.drop k) n hk;rw[oz]at hi;have hlt:k<ts.length:=by
   rcases sJ k ts.length with h|h
   ·exact h
   exact absurd (uQ h) hi.2.2
  refine⟨k+n,rfl,by omega,by omega,hlt,?_⟩;dsimp only;rw[DJ]
end Rw
end Go.Proofs.Ytfbiffdmhcjhbaa

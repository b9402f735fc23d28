import Derived.Test.YtfbiffdmhcjhbaaGreatZa10
import Derived.Test.YtfbiffdmhcjhbaaGreatZa11
set_option linter.all false
set_option maxHeartbeats 16000000
set_option maxRecDepth 100000
set_option synthInstance.maxSize 4000
set_option synthInstance.maxHeartbeats 0
namespace Go.Proofs.YtfbiffdmhcjhbaaGreat
open Go.RowKit Tryz
section
open Go.RowKit
open Sg
open Es
open Qo
def ba(l:List UInt8):ByteArray:=⟨l.toArray⟩
theorem N6{b:ByteArray}{l:List UInt8}(h:b.data.toList=l):ba l=b:=by
 subst h;rfl
theorem wX(a b:ByteArray):(a++b).data.toList=a.data.toList++b.data.toList:=Sg.Jp a b
theorem EX(s:ByteArray)(a b:Nat):(s.extract a b).data.toList=(s.data.toList.drop a).take (b-a):=Es.ext_list s a b
theorem Ke(s:ByteArray)(a:Nat):(s.extract a s.size).data.toList=s.data.toList.drop a:=by
 rw[EX,zk];rw[iq,<-qy];exact fC _
theorem Gy(v:Int):(Utf8.encode v).size<=4:=by
 rw[Sg.BV];exact(Sg.Jq _).2
def Told(x:List UInt8×List Nat×Bool)(w:World)(e:Ending)(w':World):Prop:=
 ∃v,e=.returned (.tuple #[.string (ba x.1),v,.bool x.2.2])/\w'.ownsRow w.heap.size 3 1 v x.2.1.length (places x.2.1)/\Below w.heap.size w w'
def Oe(L T:List UInt8)(en:Bool)(p:Nat)(out:ByteArray):Prop:=out.data.toList++(rP (L.drop p)).1=T/\(rP (L.drop p)).2=en
def Lm(L T:List UInt8)(bs:List Nat)(en:Bool)(p:Nat)(out:ByteArray)(acc:List Nat):Prop:=out.data.toList++(qo p (L.drop p)).1=T/\acc++(qo p (L.drop p)).2.1=bs/\(qo p (L.drop p)).2.2=en
theorem yT(w:World)(B:Nat):w.ownsRow B 3 1 (.slice none 0 0) ([]:List Nat).length (places []):=Cy _ _ _ _
theorem Kg(l:List UInt8)(h:l≠[]):kU 15 l=(l,[],true):=by unfold kU;rw[eQ h,eT rfl]
theorem Kh(l:List UInt8)(h:l≠[]):kU 16 l=((rP (l.drop 1)).1,[],(rP (l.drop 1)).2):=by unfold kU;rw[eQ h,eQ (by decide),eT rfl]
theorem Ki(l:List UInt8)(h:l≠[]):kU 17 l=qo 1 (l.drop 1):=by unfold kU;rw[eQ h,eQ (by decide),eQ (by decide),eT rfl]
theorem M9(k:Int)(l:List UInt8)(h1:k≠15)(h2:k≠16)(h3:k≠17):kU k l=([],[],false):=by
 unfold kU;by_cases h:l=[]
 ·rw[eT h]
 rw[eQ h,eQ h1,eQ h2,eQ h3]
theorem Na(s:ByteArray)(h:1<=s.size):s.toList.isEmpty=false/\s.data.toList≠[]:=by
 have h1:s.data.toList≠[]:=λe=>by rw[qy,e]at h;exact absurd h (by decide)
 refine⟨?_,h1⟩;rw[Lib.toList_data];cases hl:s.data.toList with
 |nil=>exact absurd hl h1
 |cons _ _=>rfl
theorem Kj(s:ByteArray)(h:s.size=0):s=⟨#[]⟩:=by
 cases s with
 |mk d=>simp[ByteArray.size]at h;rw[h]
theorem uf(w w':World)(t:ByteArray)(l:List UInt8)(b:Bool)(h:ba l=t)(hb:Below w.heap.size w w'):Told (l,[],b) w (.returned (.tuple #[.string t,.slice none 0 0,.bool b])) w' :=
 ⟨.slice none 0 0,by rw[<-h],yT _ _,hb⟩
end
section
open Go.RowKit
open Es
def Io(o:Option (Int×Nat)):Value:=.tuple #[.string (QO o),.int .i64 (lenOf o)]
theorem qP{l:List UInt8}{v:Int}(h:num l 0=some v):sign l=if Utf8.valid v then some v else none:=by rw[sign,h]
theorem qd{l:List UInt8}(h:num l 0=none):sign l=none:=by rw[sign,h]
theorem wY(v d:Int)(pos:Nat)(hd:d<=15)(h:v<16^pos):16*v+d<16^(pos+1):=by
 rw[Int.pow_succ];omega
end
section
open Go.RowKit
open Es
open Sg
theorem mM(v:Int)(h0:0<=v)(h1:v<128):Utf8.encode v=⟨#[UInt8.ofNat v.toNat]⟩:=by
 have hv:xN v=v.toNat:=by
  unfold xN;rw[eT (by simp[Utf8.valid];omega)]
 rw[encode_eq,hv];unfold rU;rw[eT (by omega)];rfl
theorem Gz(w:World)(x:Value)(t:TypeId):(w.alloc (.cells #[x] t)).cell? ⟨w.heap.size,0,none⟩=some x:=by rw[o6];rfl
theorem Kk(c:Int)(w:World)(h0:0<=c)(h1:c<256):
 (convert 23 9 (.slice (some ⟨w.heap.size,0,none⟩) 1 1)).run prog (w.alloc (.cells #[.int .u8 c] 5))=.ok (.string ⟨#[UInt8.ofNat c.toNat]⟩) (w.alloc (.cells #[.int .u8 c] 5)):=by
 have h:=xD w.heap.size 0 1 ⟨#[UInt8.ofNat c.toNat]⟩ (w.alloc (.cells #[.int .u8 c] 5)) (λj hj=>by
  have hj0:j=0:=by
   have:(⟨#[UInt8.ofNat c.toNat]⟩:ByteArray).size=1:=rfl;omega
  subst hj0;rw[sO,Gz];have e:((⟨#[UInt8.ofNat c.toNat]⟩:ByteArray).get! 0).toNat=c.toNat:=by
   show(UInt8.ofNat c.toNat).toNat=_;simp;omega
  rw[e];congr 2
  omega)
 exact h
def yg:Option Int->Value
 |some v=>.tuple #[.string (Utf8.encode v),.bool true]
 |none=>.tuple #[.string ⟨#[]⟩,.bool false]
def Az:Option Int->Value
 |some v=>.int .i64 v
 |none=>.int .i64 (-1)
theorem CY(c:Int)(w:World)(h0:0<=c)(h1:c<256):
 Calls prog 98 #[.int .u8 c] w λe w'=>e=.returned (Az (Aw c))/\w=w':=by
 go_enter func98,ntmps98
 go_wp2;all_goals
  go_ret;refine⟨?_,rfl⟩;simp only[Aw]
  (repeat' split)<;>first|rfl|(simp[Az];omega)|omega
theorem e0:Utf8.encode 0=⟨#[0]⟩:=mM 0 (by decide) (by decide)
theorem e9:Utf8.encode 9=⟨#[9]⟩:=mM 9 (by decide) (by decide)
theorem e10:Utf8.encode 10=⟨#[10]⟩:=mM 10 (by decide) (by decide)
theorem e13:Utf8.encode 13=⟨#[13]⟩:=mM 13 (by decide) (by decide)
theorem e27:Utf8.encode 27=⟨#[27]⟩:=mM 27 (by decide) (by decide)
theorem e34:Utf8.encode 34=⟨#[34]⟩:=mM 34 (by decide) (by decide)
theorem e47:Utf8.encode 47=⟨#[47]⟩:=mM 47 (by decide) (by decide)
theorem Rn:Utf8.encode 92=⟨#[92]⟩:=mM 92 (by decide) (by decide)
theorem e32:Utf8.encode 32=⟨#[32]⟩:=mM 32 (by decide) (by decide)
theorem GA(c:Int)(w:World)(h0:0<=c)(h1:c<256):
 Calls prog 97 #[.int .u8 c] w λe w'=>e=.returned (yg (pK c))/\Below w.heap.size w w':=by
 have hcv:=Kk c w h0 h1;have hB:Below w.heap.size w (w.alloc (.cells #[.int .u8 c] 5)):=(fu _ w).alloc (fC _) _
 go_enter func97,ntmps97
 go_wp2;all_goals
  go_ret2;refine⟨?_,?_⟩
  rotate_left
  first|exact fu _ _|exact hB
  clear hcv hB;simp only[FH,zm,ne_eq]at*;simp[pK,yg,e0,e9,e10,e13,e27,e34,e47,Rn,e32, *]
end
section
open Go.RowKit
open Es
open Sg
theorem drop_take(s:ByteArray)(n k:Nat)(hk:k<n)(h:2+n<=s.size):
 ((s.data.toList.drop 2).take n).drop k=s[2+k]'(by omega)::((s.data.toList.drop 2).take n).drop (k+1):=by
 have hl:s.data.toList.length=s.size:=(qy s).symm;have hlt:k<((s.data.toList.drop 2).take n).length:=by rw[jQ,iq,hl];omega
 rw[sM hlt];congr 1;rw[List.getElem_take,List.getElem_drop];rfl
theorem wZ(s:ByteArray)(n:Nat):((s.data.toList.drop 2).take n).drop n=[]:=by
 exact nM (by rw[jQ];omega)
theorem CZ(v:Int)(k:Nat)(hk:k<=8)(h:v<16^k):v<4294967296:=by
 have h2:(16:Int)^k<=16^8:=by
  have:=Nat.pow_le_pow_right (n:=16) (by decide) hk
  exact_mod_cast this
 omega
theorem uK{v:Int}(h0:0<=v)(h:Utf8.valid v=false):1114111<v\/(55296<=v/\v<=57343/\v<=1114111):=by
 simp[Utf8.valid]at h;omega
theorem uL{v:Int}(h:Utf8.valid v=true):0<=v/\v<=1114111/\(v<55296\/57343<v):=by
 simp[Utf8.valid]at h;omega
theorem GB(s:ByteArray)(w:World)(hs:s.size<=maxLen):
 Calls prog 88 #[.string s] w λe w'=>e=.returned (Io (esc s.data.toList))/\Below w.heap.size w w':=by
 unfold maxLen at hs;have hl:s.data.toList.length=s.size:=(qy s).symm;by_cases h2:2<=s.size
 ·have hlt:decide ((s.size:Int)<2)=false:=by simp;omega
  have i0:0<s.size:=LV (by decide) h2
  have i1:1<s.size:=h2
  have hL:=JG s h2;have hr:(s.data.toList.drop 2).length=s.size-2:=by rw[iq,hl]
  have hb0:(s[1]'i1).toNat<256:=Ib _
  by_cases h9:(s[0]'i0).toNat=92
  ·have g9:(((s[0]'i0).toNat:Int) !=92)=false:=by rw[h9];rfl
   have hsm:=GA (s[1]'i1).toNat w (by omega) (by omega);cases hs1:pK (s[1]'i1).toNat with
   |some v=>
    have hE:=xF (r:=s.data.toList.drop 2) h9 hs1;rw[<-hL]at hE;have hE2:Io (esc s.data.toList)=.tuple #[.string (Utf8.encode v),.int .i64 2]:=by rw[hE];rfl
    have HS:=eu hE2;rw[hs1]at hsm;have HM:=eu hsm;clear hE hE2 hs1 hL hl hr h9 hsm
    go_enter func88,ntmps88
    go_wp2_with fail
    refine HM.out.mono ?_;rintro e w1 ⟨rfl,hb⟩;unfold yg;go_wp2;go_ret2;exact⟨by rw[HS.out];rfl,hb⟩
   |none=>
    rw[hs1]at hsm;have HM:=eu hsm;clear hsm;rcases JF (s[1]'i1).toNat with hd|hd|hd|hd
    ·have hE:=oP (r:=s.data.toList.drop 2) h9 hs1 (.inl hd);rw[<-hL]at hE;have HS:=eu hE;have hc:(s[1]'i1).toNat≠85/\(s[1]'i1).toNat≠117/\(s[1]'i1).toNat≠120:=by
      unfold jy at hd
      (repeat' split at hd)<;>omega
     have c1:(((s[1]'i1).toNat:Int)==120)=false:=zm.2 (by omega);have c2:(((s[1]'i1).toNat:Int)==117)=false:=zm.2 (by omega);have c3:(((s[1]'i1).toNat:Int)==85)=false:=zm.2 (by omega);clear hE hs1 hL hl hr h9 hd hc
     go_enter func88,ntmps88
     go_wp2_with fail
     refine HM.out.mono ?_;rintro e w1 ⟨rfl,hb⟩;unfold yg;go_wp2;go_ret2;exact⟨by rw[HS.out];rfl,hb⟩
    ·have hc:(s[1]'i1).toNat=120:=by
      unfold jy at hd
      (repeat' split at hd)<;>omega
     have c1:(((s[1]'i1).toNat:Int)==120)=true:=by rw[hc];rfl
     have c2:(((s[1]'i1).toNat:Int)==117)=false:=by rw[hc];rfl
     have c3:(((s[1]'i1).toNat:Int)==85)=false:=by rw[hc];rfl
     by_cases h3:s.size<4
     ·have hE:=oP (r:=s.data.toList.drop 2) h9 hs1 (.inr (by rw[hd,hr];omega));rw[<-hL]at hE;have HS:=eu hE;have hlt2:((s.size:Int))<4:=by omega
      clear hE hs1 hL hl hr h9 hd h3 hc
      go_enter func88,ntmps88
      go_wp2_with fail
      refine HM.out.mono ?_;rintro e w1 ⟨rfl,hb⟩;unfold yg;go_wp2;go_ret2;exact⟨by rw[HS.out];rfl,hb⟩
     have hle2:(4:Int)<=s.size:=by omega
     have hln:jy (s[1]'i1).toNat<=(s.data.toList.drop 2).length:=by rw[hd,hr];omega
     have hbad:=λh=>vH (r:=s.data.toList.drop 2) h9 hs1 (by rw[hd];decide) hln h
     have hgood:=λv h=>tL (v:=v) (r:=s.data.toList.drop 2) h9 hs1 (by rw[hd];decide) hln h
     rw[<-hL,hd]at hbad hgood;obtain⟨HB,HG⟩:=fD hbad hgood;clear hs1 hL hl hr h9 hd h3 hc hbad hgood hln
     go_enter func88,ntmps88
     go_wp2_with fail
     refine HM.out.mono ?_;rintro e w1 ⟨rfl,hb⟩;unfold yg;go_wp2_with fail
     go_loop [7,8,9] (λa i _=>∃(k:Nat)(v:Int),a=.int .i64 v/\i=.int .i64 k/\k<=2/\0<=v/\v<16^k/\num ((s.data.toList.drop 2).take 2) 0=num (((s.data.toList.drop 2).take 2).drop k) v) (λ_ i _=>2-(intOf i).toNat)
     case atStart=>exact⟨0,0,rfl,rfl,gG _,by decide,by decide,rfl⟩
     case round=>
      obtain⟨k,v,rfl,rfl,hk,hv0,hv1,aa⟩:=hrel;have hv2:=CZ v k (by omega) hv1;by_cases hkl:k<2
      ·have hkk:(k:Int)<2:=by omega
       have i2:2+k<s.size:=by omega
       have hbx:(s[2+k]'i2).toNat<256:=Ib _
       have hx:=CY (s[2+k]'i2).toNat w1 (by omega) (by omega);rw[drop_take s 2 k hkl (by omega),num]at aa;cases hh:Aw (s[2+k]'i2).toNat with
       |none=>
        rw[hh]at hx aa;have HE:=eu (HB.out (qd aa));have HX:=eu hx;clear hx aa hh;go_wp2_with fail
        refine HX.out.mono ?_;rintro e w2 ⟨rfl,rfl⟩;unfold Az;go_wp2;go_ret2;exact⟨by rw[HE.out];rfl,hb⟩
       |some d=>
        rw[hh]at hx aa;have af:=zO hh;obtain⟨HN,HX⟩:=fD aa hx;have hp2:=wY v d k (by omega) hv1;clear hx aa hh;go_wp2_with fail
        refine HX.out.mono ?_;rintro e w2 ⟨rfl,rfl⟩;unfold Az;go_wp2
        go_round
        case rel=>exact⟨k+1,16*v+d,rfl,by go_num,by omega,by omega,hp2,HN.out⟩
        case measure=>simp[intOf];omega
      obtain rfl:k=2:=by omega
      rw[wZ s 2]at aa;have hsg:=qP aa;cases hval:Utf8.valid v with
      |false=>
       rw[hval]at hsg;have HE:=eu (HB.out hsg);have ae:=uK hv0 hval;clear hsg aa hval;rcases ae with ae|⟨n1,n2,n3⟩
       ·go_wp2;all_goals
         go_ret2;exact⟨by rw[HE.out];rfl,hb⟩
       go_wp2;all_goals
        go_ret2;exact⟨by rw[HE.out];rfl,hb⟩
      |true=>
       rw[hval]at hsg;have hE2:Io (esc s.data.toList)=.tuple #[.string (Utf8.encode v),.int .i64 4]:=by rw[HG.out v hsg];rfl
       obtain⟨HE,HV⟩:=fD hE2 hval;obtain⟨y0,y1,hyv⟩:=uL hval;clear hsg aa hval hE2;rcases hyv with hyv|hyv
       all_goals
        go_wp2_with fail
        all_goals
         refine(wQ v w1 HV.out).mono ?_;rintro e w2 ⟨rfl,hby,hb2⟩;have hcv:=tK hby;clear hby;generalize Utf8.encode v=V at*;go_wp2;go_ret2;exact⟨by rw[HE.out];rfl,hb.trans (hb2.mono hb.size)⟩
    ·have hc:(s[1]'i1).toNat=117:=by
      unfold jy at hd
      (repeat' split at hd)<;>omega
     have c1:(((s[1]'i1).toNat:Int)==120)=false:=by rw[hc];rfl
     have c2:(((s[1]'i1).toNat:Int)==117)=true:=by rw[hc];rfl
     have c3:(((s[1]'i1).toNat:Int)==85)=false:=by rw[hc];rfl
     by_cases h3:s.size<6
     ·have hE:=oP (r:=s.data.toList.drop 2) h9 hs1 (.inr (by rw[hd,hr];omega));rw[<-hL]at hE;have HS:=eu hE;have hlt2:((s.size:Int))<6:=by omega
      clear hE hs1 hL hl hr h9 hd h3 hc
      go_enter func88,ntmps88
      go_wp2_with fail
      refine HM.out.mono ?_;rintro e w1 ⟨rfl,hb⟩;unfold yg;go_wp2;go_ret2;exact⟨by rw[HS.out];rfl,hb⟩
     have hle2:(6:Int)<=s.size:=by omega
     have hln:jy (s[1]'i1).toNat<=(s.data.toList.drop 2).length:=by rw[hd,hr];omega
     have hbad:=λh=>vH (r:=s.data.toList.drop 2) h9 hs1 (by rw[hd];decide) hln h
     have hgood:=λv h=>tL (v:=v) (r:=s.data.toList.drop 2) h9 hs1 (by rw[hd];decide) hln h
     rw[<-hL,hd]at hbad hgood;obtain⟨HB,HG⟩:=fD hbad hgood;clear hs1 hL hl hr h9 hd h3 hc hbad hgood hln
     go_enter func88,ntmps88
     go_wp2_with fail
     refine HM.out.mono ?_;rintro e w1 ⟨rfl,hb⟩;unfold yg;go_wp2_with fail
     go_loop [7,8,9] (λa i _=>∃(k:Nat)(v:Int),a=.int .i64 v/\i=.int .i64 k/\k<=4/\0<=v/\v<16^k/\num ((s.data.toList.drop 2).take 4) 0=num (((s.data.toList.drop 2).take 4).drop k) v) (λ_ i _=>4-(intOf i).toNat)
     case atStart=>exact⟨0,0,rfl,rfl,gG _,by decide,by decide,rfl⟩
     case round=>
      obtain⟨k,v,rfl,rfl,hk,hv0,hv1,aa⟩:=hrel;have hv2:=CZ v k (by omega) hv1;by_cases hkl:k<4
      ·have hkk:(k:Int)<4:=by omega
       have i2:2+k<s.size:=by omega
       have hbx:(s[2+k]'i2).toNat<256:=Ib _
       have hx:=CY (s[2+k]'i2).toNat w1 (by omega) (by omega);rw[drop_take s 4 k hkl (by omega),num]at aa;cases hh:Aw (s[2+k]'i2).toNat with
       |none=>
        rw[hh]at hx aa;have HE:=eu (HB.out (qd aa));have HX:=eu hx;clear hx aa hh;go_wp2_with fail
        refine HX.out.mono ?_;rintro e w2 ⟨rfl,rfl⟩;unfold Az;go_wp2;go_ret2;exact⟨by rw[HE.out];rfl,hb⟩
       |some d=>
        rw[hh]at hx aa;have af:=zO hh;obtain⟨HN,HX⟩:=fD aa hx;have hp2:=wY v d k (by omega) hv1;clear hx aa hh;go_wp2_with fail
        refine HX.out.mono ?_;rintro e w2 ⟨rfl,rfl⟩;unfold Az;go_wp2
        go_round
        case rel=>exact⟨k+1,16*v+d,rfl,by go_num,by omega,by omega,hp2,HN.out⟩
        case measure=>simp[intOf];omega
      obtain rfl:k=4:=by omega
      rw[wZ s 4]at aa;have hsg:=qP aa;cases hval:Utf8.valid v with
      |false=>
       rw[hval]at hsg;have HE:=eu (HB.out hsg);have ae:=uK hv0 hval;clear hsg aa hval;rcases ae with ae|⟨n1,n2,n3⟩
       ·go_wp2;all_goals
         go_ret2;exact⟨by rw[HE.out];rfl,hb⟩
       go_wp2;all_goals
        go_ret2;exact⟨by rw[HE.out];rfl,hb⟩
      |true=>
       rw[hval]at hsg;have hE2:Io (esc s.data.toList)=.tuple #[.string (Utf8.encode v),.int .i64 6]:=by rw[HG.out v hsg];rfl
       obtain⟨HE,HV⟩:=fD hE2 hval;obtain⟨y0,y1,hyv⟩:=uL hval;clear hsg aa hval hE2;rcases hyv with hyv|hyv
       all_goals
        go_wp2_with fail
        all_goals
         refine(wQ v w1 HV.out).mono ?_;rintro e w2 ⟨rfl,hby,hb2⟩;have hcv:=tK hby;clear hby;generalize Utf8.encode v=V at*;go_wp2;go_ret2;exact⟨by rw[HE.out];rfl,hb.trans (hb2.mono hb.size)⟩
    have hc:(s[1]'i1).toNat=85:=by
     unfold jy at hd
     (repeat' split at hd)<;>omega
    have c1:(((s[1]'i1).toNat:Int)==120)=false:=by rw[hc];rfl
    have c2:(((s[1]'i1).toNat:Int)==117)=false:=by rw[hc];rfl
    have c3:(((s[1]'i1).toNat:Int)==85)=true:=by rw[hc];rfl
    by_cases h3:s.size<10
    ·have hE:=oP (r:=s.data.toList.drop 2) h9 hs1 (.inr (by rw[hd,hr];omega));rw[<-hL]at hE;have HS:=eu hE;have hlt2:((s.size:Int))<10:=by omega
     clear hE hs1 hL hl hr h9 hd h3 hc
     go_enter func88,ntmps88
     go_wp2_with fail
     refine HM.out.mono ?_;rintro e w1 ⟨rfl,hb⟩;unfold yg;go_wp2;go_ret2;exact⟨by rw[HS.out];rfl,hb⟩
    have hle2:(10:Int)<=s.size:=by omega
    have hln:jy (s[1]'i1).toNat<=(s.data.toList.drop 2).length:=by rw[hd,hr];omega
    have hbad:=λh=>vH (r:=s.data.toList.drop 2) h9 hs1 (by rw[hd];decide) hln h
    have hgood:=λv h=>tL (v:=v) (r:=s.data.toList.drop 2) h9 hs1 (by rw[hd];decide) hln h
    rw[<-hL,hd]at hbad hgood;obtain⟨HB,HG⟩:=fD hbad hgood;clear hs1 hL hl hr h9 hd h3 hc hbad hgood hln
    go_enter func88,ntmps88
    go_wp2_with fail
    refine HM.out.mono ?_;rintro e w1 ⟨rfl,hb⟩;unfold yg;go_wp2_with fail
    go_loop [7,8,9] (λa i _=>∃(k:Nat)(v:Int),a=.int .i64 v/\i=.int .i64 k/\k<=8/\0<=v/\v<16^k/\num ((s.data.toList.drop 2).take 8) 0=num (((s.data.toList.drop 2).take 8).drop k) v) (λ_ i _=>8-(intOf i).toNat)
    case atStart=>exact⟨0,0,rfl,rfl,gG _,by decide,by decide,rfl⟩
    case round=>
     obtain⟨k,v,rfl,rfl,hk,hv0,hv1,aa⟩:=hrel;have hv2:=CZ v k (by omega) hv1;by_cases hkl:k<8
     ·have hkk:(k:Int)<8:=by omega
      have i2:2+k<s.size:=by omega
      have hbx:(s[2+k]'i2).toNat<256:=Ib _
      have hx:=CY (s[2+k]'i2).toNat w1 (by omega) (by omega);rw[drop_take s 8 k hkl (by omega),num]at aa;cases hh:Aw (s[2+k]'i2).toNat with
      |none=>
       rw[hh]at hx aa;have HE:=eu (HB.out (qd aa));have HX:=eu hx;clear hx aa hh;go_wp2_with fail
       refine HX.out.mono ?_;rintro e w2 ⟨rfl,rfl⟩;unfold Az;go_wp2;go_ret2;exact⟨by rw[HE.out];rfl,hb⟩
      |some d=>
       rw[hh]at hx aa;have af:=zO hh;obtain⟨HN,HX⟩:=fD aa hx;have hp2:=wY v d k (by omega) hv1;clear hx aa hh;go_wp2_with fail
       refine HX.out.mono ?_;rintro e w2 ⟨rfl,rfl⟩;unfold Az;go_wp2
       go_round
       case rel=>exact⟨k+1,16*v+d,rfl,by go_num,by omega,by omega,hp2,HN.out⟩
       case measure=>simp[intOf];omega
     obtain rfl:k=8:=by omega
     rw[wZ s 8]at aa;have hsg:=qP aa;cases hval:Utf8.valid v with
     |false=>
      rw[hval]at hsg;have HE:=eu (HB.out hsg);have ae:=uK hv0 hval;clear hsg aa hval;rcases ae with ae|⟨n1,n2,n3⟩
      ·go_wp2;all_goals
        go_ret2;exact⟨by rw[HE.out];rfl,hb⟩
      go_wp2;all_goals
       go_ret2;exact⟨by rw[HE.out];rfl,hb⟩
     |true=>
      rw[hval]at hsg;have hE2:Io (esc s.data.toList)=.tuple #[.string (Utf8.encode v),.int .i64 10]:=by rw[HG.out v hsg];rfl
      obtain⟨HE,HV⟩:=fD hE2 hval;obtain⟨y0,y1,hyv⟩:=uL hval;clear hsg aa hval hE2;rcases hyv with hyv|hyv
      all_goals
       go_wp2_with fail
       all_goals
        refine(wQ v w1 HV.out).mono ?_;rintro e w2 ⟨rfl,hby,hb2⟩;have hcv:=tK hby;clear hby;generalize Utf8.encode v=V at*;go_wp2;go_ret2;exact⟨by rw[HE.out];rfl,hb.trans (hb2.mono hb.size)⟩
  have HS:=eu (yK (c:=s[1]'i1) (r:=s.data.toList.drop 2) h9);rw[<-hL]at HS;have g9:(((s[0]'i0).toNat:Int) !=92)=true:=by rw[zo];omega
  clear hL hl hr h9
  go_enter func88,ntmps88
  go_wp2;all_goals
   go_ret2;exact⟨by rw[HS.out];rfl,fu _ _⟩
 have HS:=eu (Ga (s:=s.data.toList) (by omega));have hlt:decide ((s.size:Int)<2)=true:=by simp;omega
 clear hl
 go_enter func88,ntmps88
 go_wp2;all_goals
  go_ret2;exact⟨by rw[HS.out];rfl,fu _ _⟩
end
section
open Go.RowKit
open Sg
open Es
open Qo
theorem Bq(s:ByteArray)(p:Nat)(h:p<s.size):∃c:ByteArray,(∀W:World,(Instr.slice 9 (.string s) (some (.int .i64 (p:Int))) (some (.int .i64 ((p:Int)+1))) none).run prog W=.ok (.string c) W)/\c.data.toList=[s.get! p]/\c.size=1:=by
 have h2:(s.extract p (p+1)).data.toList=[s.get! p]:=by
  rw[EX,show p+1-p=1 by omega];have h3:p<s.data.toList.length:=by rw[<-qy];exact h
  rw[sM h3,vR,vS,<-zt,jS,lU h3];rfl
 refine⟨s.extract p (p+1),λW=>?_,h2,by rw[qy,h2];rfl⟩;rw[run_slice_string W 9 s .i64 .i64 p (p+1) underlying9 (by omega) (by omega) (by omega)];simp
theorem C4(s:ByteArray)(p:Nat)(h:p<s.size):s.data.toList.drop p=s.get! p::s.data.toList.drop (p+1):=by
 have h3:p<s.data.toList.length:=by rw[<-qy];exact h
 rw[sM h3,<-zt,jS,lU h3];rfl
theorem uM(s:ByteArray)(p:Nat)(h:s.size<=p):s.data.toList.drop p=[]:=Om (by rw[<-qy];exact h)
theorem Oe.next{L T:List UInt8}{en:Bool}{p q:Nat}{out c:ByteArray}(h:Oe L T en p out)(e:rP (L.drop p)=(c.data.toList++(rP (L.drop q)).1,(rP (L.drop q)).2)):Oe L T en q (out++c):=by
 obtain⟨h1,h2⟩:=h;rw[e]at h1 h2;exact⟨by rw[wX,lT];exact h1,h2⟩
theorem Oe.last{L T:List UInt8}{en b:Bool}{p:Nat}{out:ByteArray}(h:Oe L T en p out)(e:rP (L.drop p)=([],b)):ba T=out/\en=b:=by
 obtain⟨h1,h2⟩:=h;rw[e]at h1 h2;simp only[kH]at h1;exact⟨N6 h1,h2.symm⟩
theorem Lm.next{L T:List UInt8}{bs:List Nat}{en:Bool}{p q:Nat}{out c:ByteArray}{acc:List Nat}(h:Lm L T bs en p out acc)(e:qo p (L.drop p)=(c.data.toList++(qo q (L.drop q)).1,(qo q (L.drop q)).2)):Lm L T bs en q (out++c) acc:=by
 obtain⟨h1,h2,h3⟩:=h;rw[e]at h1 h2 h3;exact⟨by rw[wX,lT];exact h1,h2,h3⟩
theorem Lm.bad{L T:List UInt8}{bs:List Nat}{en:Bool}{p q:Nat}{out c:ByteArray}{acc:List Nat}(h:Lm L T bs en p out acc)(e:qo p (L.drop p)=(c.data.toList++(qo q (L.drop q)).1,p::(qo q (L.drop q)).2.1,(qo q (L.drop q)).2.2)):Lm L T bs en q (out++c) (acc++[p]):=by
 obtain⟨h1,h2,h3⟩:=h;rw[e]at h1 h2 h3;exact⟨by rw[wX,lT];exact h1,by rw[lT];exact h2,h3⟩
theorem Lm.last{L T:List UInt8}{bs:List Nat}{en b:Bool}{p:Nat}{out:ByteArray}{acc:List Nat}(h:Lm L T bs en p out acc)(e:qo p (L.drop p)=([],[],b)):ba T=out/\acc=bs/\en=b:=by
 obtain⟨h1,h2,h3⟩:=h;rw[e]at h1 h2 h3;simp only[kH]at h1 h2;exact⟨N6 h1,h2,h3.symm⟩
theorem QE{c:UInt8}(h:¬c.toNat=39):c≠39:=λe=>h (by rw[e];rfl)
theorem Nb(s:ByteArray)(w:World)(hs:s.size<=100000)(h1:1<=s.size):
 Calls prog 74 #[.string s] w λe w'=>e=.returned (.tuple #[.string (ba (rP (s.data.toList.drop 1)).1),.bool (rP (s.data.toList.drop 1)).2])/\Below w.heap.size w w':=by
 obtain⟨T,hT⟩:=eX ((rP (s.data.toList.drop 1)).1);obtain⟨en,hen⟩:=eX ((rP (s.data.toList.drop 1)).2);have H0:=eu (show Oe s.data.toList T en 1 ⟨#[]⟩from⟨hT,hen⟩);rw[hT,hen];clear hT hen;have e39:(⟨#[39]⟩:ByteArray).size=1:=rfl
 go_enter func74,ntmps74
 go_wp2_with fail
 go_loopw [4,5] (λov av wr=>∃(p:Nat)(out:ByteArray),.string out=ov/\av=.int .i64 p/\1<=p/\p<=s.size/\out.size<=p/\Hid (Oe s.data.toList T en p out)/\wr=w) (λ_ av _=>s.size-(intOf av).toNat)
 case atStart=>exact⟨1,⟨#[]⟩,rfl,rfl,fC _,h1,by decide,H0,rfl⟩
 case round=>
  obtain⟨p,out,rfl,rfl,hp1,ah,ai,HS,rfl⟩:=hrel;by_cases hlt:p<s.size
  ·have hpi:(p:Int)<(s.size:Int):=by omega
   obtain⟨c,hcut,hcl,hcz⟩:=Bq s p hlt;have hg:(s[p]'hlt)=s.get! p:=Sc.CP s p hlt;have hdr:=C4 s p hlt;have ag:¬(9223372036854775807<out.size+c.size):=by omega
   by_cases aa:(s.get! p).toNat=39
   ·have g:(((s[p]'hlt).toNat:Int) !=39)=false:=by rw[hg,aa];rfl
    rw[Qo.D7 _ 39 aa]at hdr
    change s.data.toList.drop p=39::_ at hdr
    by_cases hlt2:p+1<s.size
    ·have hg2:(s[p+1]'hlt2)=s.get! (p+1):=Sc.CP s (p+1) hlt2;have hd2:=C4 s (p+1) hlt2;have hge:¬((s.size:Int)<=(p:Int)+1):=by omega
     have ae:decide ((s.size:Int)<=(p:Int)+1)=false:=iF hge;by_cases h2:(s.get! (p+1)).toNat=39
     ·have g2:(((s[p+1]'hlt2).toNat:Int) !=39)=false:=by rw[hg2,h2];rfl
      rw[Qo.D7 _ 39 h2]at hd2
      change s.data.toList.drop (p+1)=39::_ at hd2
      have hS2:=HS.out.next (q:=p+2) (c:=⟨#[39]⟩) (by rw[hdr,hd2,My];rfl);have HS2:=eu hS2;have af:¬(9223372036854775807<out.size+(⟨#[39]⟩:ByteArray).size):=by rw[e39];omega
      clear hdr hd2 hg hg2 aa h2 hS2 hcl hcut HS;go_wp2_with fail
      go_roundw
      case rel=>exact⟨p+2,out++⟨#[39]⟩,rfl,by go_num,by omega,by omega,by rw[Sg.kJ,e39];omega,HS2,trivial⟩
      case measure=>simp[intOf];omega
     have g2:(((s[p+1]'hlt2).toNat:Int) !=39)=true:=by rw[zo,hg2];omega
     obtain⟨hT,rfl⟩:=HS.out.last (b:=true) (by rw[hdr,hd2,MB _ _ (QE h2)]);have HT:=eu hT;clear hdr hd2 hg hg2 aa h2 hcl hcut HS hT;go_wp2_with fail
     go_ret2;exact⟨by rw[HT.out];rfl,fu _ _⟩
    have ae:decide ((s.size:Int)<=(p:Int)+1)=true:=iO (by omega);obtain⟨hT,rfl⟩:=HS.out.last (b:=true) (by rw[hdr,uM s (p+1) (by omega)];rfl);have HT:=eu hT;clear hdr hg aa hcl hcut HS hT;go_wp2_with fail
    go_ret2;exact⟨by rw[HT.out];rfl,fu _ _⟩
   have g:(((s[p]'hlt).toNat:Int) !=39)=true:=by rw[zo,hg];omega
   have hS2:=HS.out.next (q:=p+1) (c:=c) (by rw[hdr,Po _ _ (QE aa),hcl];rfl);have HS2:=eu hS2;clear hdr hg aa hS2 hcl HS;go_wp2_with fail
   go_roundw
   case rel=>exact⟨p+1,out++c,rfl,by go_num,by omega,by omega,by rw[Sg.kJ];omega,HS2,trivial⟩
   case measure=>simp[intOf];omega
  obtain rfl:p=s.size:=by omega
  obtain⟨hT,rfl⟩:=HS.out.last (b:=false) (by rw[uM s s.size (fC _)];rfl);have HT:=eu hT;clear HS hT;go_wp2_with fail
  go_ret2;exact⟨by rw[HT.out];rfl,fu _ _⟩
theorem Ru{c:UInt8}(h:¬c.toNat=34):c≠34:=λe=>h (by rw[e];rfl)
theorem Rv{c:UInt8}(h:¬c.toNat=92):c≠92:=λe=>h (by rw[e];rfl)
theorem Nc(s:ByteArray)(w:World)(hs:s.size<=100000)(h1:1<=s.size):
 Calls prog 75 #[.string s] w (Told (qo 1 (s.data.toList.drop 1)) w):=by
 have HN:=eu (λp W=>GB (s.extract p s.size) W (show(s.extract p s.size).size<=maxLen by rw[Fu];unfold maxLen;omega));obtain⟨T,hT⟩:=eX ((qo 1 (s.data.toList.drop 1)).1);obtain⟨bs,hbs⟩:=eX ((qo 1 (s.data.toList.drop 1)).2.1);obtain⟨en,hen⟩:=eX ((qo 1 (s.data.toList.drop 1)).2.2);have H0:=eu (show Lm s.data.toList T bs en 1 ⟨#[]⟩ []from⟨hT,hbs,hen⟩);rw[show qo 1 (s.data.toList.drop 1)=(T,bs,en)from by rw[<-hT,<-hbs,<-hen]];clear hT hbs hen;obtain⟨i0,hi,hz0,hz1,hz2⟩:=FI EA;have HI:=eu (And.intro hi (And.intro hz0 (And.intro hz1 hz2)));clear hi hz0 hz1 hz2
 go_enter func75,ntmps75
 go_wp2_with fail
 go_loopw [5,6,7] (λov bv av wr=>∃(p:Nat)(out:ByteArray)(acc:List Nat)(B:Value),.string out=ov/\B=bv/\av=.int .i64 p/\1<=p/\p<=s.size/\out.size<=2*p/\acc.length<=p/\Hid (wr.ownsRow w.heap.size 3 1 B acc.length (places acc))/\Hid (Lm s.data.toList T bs en p out acc)/\Below w.heap.size w wr) (λ_ _ av _=>s.size-(intOf av).toNat)
 case atStart=>exact⟨1,⟨#[]⟩,[],_,rfl,rfl,rfl,fC _,h1,by decide,by decide,eu (yT w _),H0,fu _ w⟩
 case round=>
  obtain⟨p,out,acc,B,rfl,rfl,rfl,hp1,ay,az,haz,HA,HS,hb⟩:=hrel;by_cases hlt:p<s.size
  ·have hpi:(p:Int)<(s.size:Int):=by omega
   obtain⟨c,hcut,hcl,hcz⟩:=Bq s p hlt;have hg:(s[p]'hlt)=s.get! p:=Sc.CP s p hlt;have hdr:=C4 s p hlt;have ax:¬(9223372036854775807<out.size+c.size):=by omega
   by_cases aa:(s.get! p).toNat=34
   ·have g:(((s[p]'hlt).toNat:Int)==34)=true:=by rw[hg,aa];rfl
    rw[Qo.D7 _ 34 aa]at hdr
    change s.data.toList.drop p=34::_ at hdr
    obtain⟨hT,rfl,rfl⟩:=HS.out.last (b:=true) (by rw[hdr,ME]);have HT:=eu hT;clear hdr hg aa hcl hcut HS hT;go_wp2_with fail
    go_ret3
    exact⟨B,by show Ending.returned (.tuple #[.string out,B,.bool true])=.returned (.tuple #[.string (ba T),B,.bool true]);rw[HT.out],HA.out,hb⟩
   have g:(((s[p]'hlt).toNat:Int)==34)=false:=zm.2 (by rw[hg];omega);by_cases ae:(s.get! p).toNat=92
   ·have g2:(((s[p]'hlt).toNat:Int) !=92)=false:=by rw[hg,ae];rfl
    rw[Qo.D7 _ 92 ae]at hdr hcl
    change s.data.toList.drop p=92::_ at hdr
    change c.data.toList=[92]at hcl
    have hn:=HN.out p wr;rw[Ke]at hn;cases hE:esc (s.data.toList.drop p)with
    |none=>
     rw[hE]at hn;have hS2:=HS.out.bad (q:=p+1) (c:=c) (by rw[hcl,hdr];rw[hdr]at hE;rw[MG p _ hE];rfl);have HS2:=eu hS2;have HC:=eu (show Calls prog 88 #[.string (s.extract p s.size)] wr λe w'=>e=.returned (.tuple #[.string ⟨#[]⟩,.int .i64 0])/\Below wr.heap.size wr w' from hn);clear hdr hg aa ae hcl HS hS2 hn hE HN;go_wp2_with fail
     refine HC.out.mono ?_;rintro e w1 ⟨rfl,hb1⟩;have hb2:=hb.trans (hb1.mono hb.size);have af:=eu (hb2.alloc hb2.size (.cells #[.int .i64 (p:Int)] 3));have ag:=eu ((fI HA.out hb1).alloc (.cells #[.int .i64 (p:Int)] 3));have ah:=eu (cell_one_new w1 (.int .i64 (p:Int)) 3);clear hb hb1 hb2;go_wp2_with (at_builtin;go_must (refine Ie _ rfl (.tmp 42) (.tmp 44) 22 rfl w.heap.size 3 i0 (.int .i64 0) 1 8 underlying22 HI.out.1 HI.out.2.1 HI.out.2.2.1 HI.out.2.2.2 rfl (by decide) B acc.length (places acc) rfl ag.out ⟨w1.heap.size,0,none⟩ 1 1 [.int .i64 (p:Int)] rfl rfl ah.out (by intro u hu;simp at hu;subst hu;rfl) (by unfold maxLen;omega) (by omega) af.out.size ?_;intro v3 w3 hown3 hg3 hnil3;have ai:=eu hown3;have aj:=eu (F6 af.out hg3 (λg h=>(ag.out.lt g h).1) af.out.size);clear hown3 hg3 hnil3))
     go_roundw
     case rel=>exact⟨p+1,out++c,acc++[p],v3,rfl,rfl,by go_num,by omega,by omega,by rw[Sg.kJ];omega,by rw[ig];show acc.length+1<=p+1;omega,eu (by rw[ig,vo];exact ai.out),HS2,aj.out⟩
     case measure=>simp[intOf];omega
    |some x=>
     obtain⟨v,k⟩:=x;have hk:=Qo.vI hE;have hkl:(s.data.toList.drop p).length=s.size-p:=by rw[iq,<-qy]
     have h4:=Gy v;have hk0:((k:Int)==0)=false:=zm.2 (by omega);rw[hE]at hn;have hS2:=HS.out.next (q:=p+k) (c:=Utf8.encode v) (by rw[hdr];rw[hdr]at hE;rw[MF p _ v k hE,<-hdr,lH]);have HS2:=eu hS2;have HC:=eu (show Calls prog 88 #[.string (s.extract p s.size)] wr λe w'=>e=.returned (.tuple #[.string (Utf8.encode v),.int .i64 (k:Int)])/\Below wr.heap.size wr w' from hn);clear hdr hg aa ae hcl HS hS2 hn hE HN hcut;generalize Utf8.encode v=V at*;have ak:¬(9223372036854775807<out.size+V.size):=by omega
     have hpk:p+k<=s.size:=by omega
     clear hkl;go_wp2_with fail
     refine HC.out.mono ?_;rintro e w1 ⟨rfl,hb1⟩;have hb2:=hb.trans (hb1.mono hb.size);have HA2:=eu (fI HA.out hb1);go_wp2_with fail
     go_roundw
     case rel=>exact⟨p+k,out++V,acc,B,rfl,rfl,by go_num,by omega,hpk,by rw[Sg.kJ];omega,by omega,HA2,HS2,hb2⟩
     case measure=>simp[intOf];omega
   have g2:(((s[p]'hlt).toNat:Int) !=92)=true:=by rw[zo,hg];omega
   have hS2:=HS.out.next (q:=p+1) (c:=c) (by rw[hdr,Pp _ _ _ (Ru aa) (Rv ae),hcl];rfl);have HS2:=eu hS2;clear hdr hg aa ae hS2 hcl HS HN;go_wp2_with fail
   go_roundw
   case rel=>exact⟨p+1,out++c,acc,B,rfl,rfl,by go_num,by omega,by omega,by rw[Sg.kJ];omega,by omega,HA,HS2,hb⟩
   case measure=>simp[intOf];omega
  obtain rfl:p=s.size:=by omega
  obtain⟨hT,rfl,rfl⟩:=HS.out.last (b:=false) (by rw[uM s s.size (fC _),MC]);have HT:=eu hT;clear HS hT HN;go_wp2_with fail
  go_ret3
  exact⟨B,by show Ending.returned (.tuple #[.string out,B,.bool false])=.returned (.tuple #[.string (ba T),B,.bool false]);rw[HT.out],HA.out,hb⟩
theorem QT(k:Int)(s:ByteArray)(w:World)(hs:s.size<=100000):
 Calls prog 51 #[.int .i64 k,.string s] w (Told (kU k s.data.toList) w):=by
 by_cases h0:s.size=0
 ·obtain rfl:=Kj s h0
  go_enter func51,ntmps51
  go_wp2
  go_ret3
  exact uf _ _ _ _ _ rfl (fu _ _)
 have h1:1<=s.size:=by omega
 obtain⟨hE,hne⟩:=Na s h1;have r1:=Nb s w hs h1;have r2:=Nc s w hs h1;by_cases k1:k=15
 ·subst k1;rw[Kg _ hne];clear r1 r2
  go_enter func51,ntmps51
  go_wp2
  go_ret3
  exact uf _ _ _ _ _ rfl (fu _ _)
 by_cases k2:k=16
 ·subst k2;rw[Kh _ hne];obtain⟨x,hx⟩:=eX (rP (s.data.toList.drop 1));rw[hx]at r1⊢;have R1:=eu r1;clear r1 r2 hx
  go_enter func51,ntmps51
  go_wp2_with fail
  refine R1.out.mono ?_;rintro e w1 ⟨rfl,hb⟩;go_wp2
  go_ret3
  exact uf _ _ _ _ _ rfl hb
 by_cases k3:k=17
 ·subst k3;rw[Ki _ hne];obtain⟨x,hx⟩:=eX (qo 1 (s.data.toList.drop 1));rw[hx]at r2⊢;have R2:=eu r2;clear r1 r2 hx
  go_enter func51,ntmps51
  go_wp2_with fail
  refine R2.out.mono ?_;rintro e w1 ⟨v,rfl,hO,hb⟩;go_wp2
  go_ret3
  exact⟨v,rfl,hO,hb⟩
 rw[M9 k _ k1 k2 k3];have g1:(k==15)=false:=zm.2 k1;have g2:(k==16)=false:=zm.2 k2;have g3:(k==17)=false:=zm.2 k3;clear r1 r2
 go_enter func51,ntmps51
 go_wp2
 go_ret3
 exact uf _ _ _ _ _ rfl (fu _ _)
end
end Go.Proofs.YtfbiffdmhcjhbaaGreat
namespace Go
open Go.Proofs.YtfbiffdmhcjhbaaGreat
section
variable {P:Program}{ops:Array Oper}{Q:Exit->Act->World->Prop}{md:Region.Mode}{C:World->Prop}{st:Nat}
theorem yt{i:Nat}(S:List Nat){oi:Oper}{v:Value}(hi:ops[i]?=some oi)(hsel:∀(j:Nat)(o:Oper) cs b,ops[j]?=some o->o.op≠.select cs b)
 (hQ:∀c a w,Q (.panic c) (a.put oi.dst v) w->Q (.panic c) a w) (hS:∀j∈S,∃oj,ops[j]?=some oj/\∃e∈oj.after,Region.binds md e=true/\(e.on=i\/e.on∈S)) (hSt:st∈S) (hne:i≠st):
 ∀(fuel:Nat)(listed:Array Bool)(a:Act)(w:World),
  (∀j oj,ops[j]?=some oj->j≠i->listed.getD j true=false->(∀e∈oj.after,Region.binds md e=true->e.on≠i)->oi.apart ops oj=true)->
  i∈Region.ready md ops listed->(∀j∈S,listed.getD j true=false)->iP P ops C oi v a->C w->
  gV P md ops Q C st fuel (listed.setIfInBounds i true) (a.put oi.dst v) w->gV P md ops Q C st (fuel+1) listed a w:=by
 have af:∀(listed:Array Bool),(listed.setIfInBounds i true).getD st true=listed.getD st true:=λlisted=>nW true hne
 intro fuel
 induction fuel with
 |zero=>
  intro listed a w _ hr hs hy hC H;refine⟨λh=>(by rw[h]at hr;cases hr),λj hj=>?_⟩;by_cases hji:j=i
  ·subst hji;exact hy.wpOp hi hC ⟨λ_=>hC,H⟩
  have h1:=rV hj hji;rw[H.1]at h1;cases h1
 |succ fuel ih=>
  intro listed a w hfree hr hs hy hC H;refine⟨λh=>(by rw[h]at hr;cases hr),λj hj=>?_⟩;by_cases hji:j=i
  ·subst hji;exact hy.wpOp hi hC ⟨λ_=>hC,H⟩
  have h1:=H.2 j (rV hj hji);obtain⟨hjun,oj,hoj,hall⟩:=x8.1 hj;have hnot:∀e∈oj.after,Region.binds md e=true->e.on≠i:=λe he hb heq=>by
   have h3:=hall e he hb;have h0:=(x8.1 hr).1;rw[heq]at h3;rcases lu i listed.size with h'|h'
   ·simp[h']at h0 h3;rw[h0]at h3;cases h3
   simp[Array.getElem?_eq_none h']at h3
  have aa:∀k∈S,j≠k:=λk hk e=>by
   subst e;obtain⟨ok,h5,e,he,hb,heq⟩:=hS j hk;rw[hoj]at h5;obtain rfl:=jF h5;rcases heq with heq|heq
   ·exact hnot e he hb heq
   have h3:=hall e he hb;have hm:=hs e.on heq;rcases lu e.on listed.size with h'|h'
   ·simp[h']at hm h3;rw[hm]at h3;cases h3
   simp[Array.getElem?_eq_none h']at h3
  have ae:j≠st:=aa st hSt;have hap:=hfree j oj hoj hji hjun hnot;obtain⟨_,_,h3⟩:=Ig hap;have hw:YieldsIf P ops (λ_=>False) oi v a:=hy.imp (λh=>⟨h.1,λ_ h=>h.elim⟩) id;have h2:=Ih (S:=λ_=>False) hoj hap (λcs b=>hsel i oi cs b hi) (λcs b=>hsel j oj cs b hoj) hQ hw h1;have h4:=nL (R:=λa'=>iP P ops C oi v a') hoj
   (λa' u hR=>hR.of_same (Ii oi (λcs b=>hsel i oi cs b hi) a' oj.dst u h3) (Ij oi a' oj.dst u h3)) (λa' d hR=>hR.of_same rfl rfl) hy h2
  have hfree':∀k ok,ops[k]?=some ok->k≠i->(listed.setIfInBounds j true).getD k true=false->
   (∀e∈ok.after,Region.binds md e=true->e.on≠i)->oi.apart ops ok=true:=λk ok hk hki hun hno=>by
   refine hfree k ok hk hki ?_ hno;by_cases hjk:j=k
   ·subst hjk;exact hjun
   rw[nW true hjk]at hun;exact hun
  have hs':∀k∈S,(listed.setIfInBounds j true).getD k true=false:=λk hk=>by rw[nW true (aa k hk)];exact hs k hk
  refine FJ (λa' w' h5=>?_) h4;obtain⟨h6,h7,h8,h9⟩:=h5;have hC':C w':=h8 (by rw[nW true ae,af];exact hs st hSt);refine⟨λ_=>hC',ih (listed.setIfInBounds j true) a' w' hfree' (rV hr (Cw hji)) hs' h6 hC' ?_⟩;rw[Fs _ _ hji];exact h9
theorem fV{i:Nat}(S:List Nat){oi:Oper}{v:Value}{fuel:Nat}{listed:Array Bool}{a:Act}{w:World}(hi:ops[i]?=some oi)
 (hs:Region.noSelect ops=true) (hf:Region.free md ops listed i=true) (hr:(Region.ready md ops listed).contains i=true)
 (hw:(S.all (λj=>match ops[j]? with|some o=>o.after.any (λe=>Region.binds md e&&(e.on==i||S.contains e.on))|none=>false)&&(S.contains st&&(i !=st)))=true) (hst:S.all (λj=>!listed.getD j true)=true)
 (hQ:∀c a w,Q (.panic c) (a.put oi.dst v) w->Q (.panic c) a w) (hy:iP P ops C oi v a) (hC:C w)
 (h:gV P md ops Q C st fuel (listed.setIfInBounds i true) (a.put oi.dst v) w):gV P md ops Q C st (fuel+1) listed a w:=by
 simp only[qQ,Ol,zo,ne_eq,LC]at hw;obtain⟨h1,h2,h3⟩:=hw;refine yt S hi (Ik hs) hQ (λj hj=>?_) h2 h3 fuel listed a w (Il hi hf) (by simpa using hr) (λj hj=>by simpa using(Ol.1 hst) j hj) hy hC h;have h4:=h1 j hj;cases ho:ops[j]? with
 |none=>rw[ho]at h4;cases h4
 |some oj=>
  rw[ho]at h4;simp only[Lr,qQ,Oi,FH,LC]at h4;obtain⟨e,he,hb,h5⟩:=h4;exact⟨oj,rfl,e,he,hb,h5⟩
end
end Go
namespace Go.Proofs.YtfbiffdmhcjhbaaGreat
open RowKit Tryz
end Go.Proofs.YtfbiffdmhcjhbaaGreat

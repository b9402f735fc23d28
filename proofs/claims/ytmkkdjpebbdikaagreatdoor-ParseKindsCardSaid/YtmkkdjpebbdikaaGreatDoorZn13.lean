import Derived.Test.YtmkkdjpebbdikaaGreatDoorZn11
set_option linter.all false
set_option maxHeartbeats 16000000
set_option maxRecDepth 100000
namespace Go.Proofs.YtmkkdjpebbdikaaGreatDoor
open Go.RowKit Go.Proofs.Tryz
def uF:=@IntWalk.wrap64_in
def gG:=@Joins.cell_of_block
def pW:=@bodyPost_ret
def EX:=@wpQuiet_nil
section
open Go.RowKit
open Sq
open Fl (raw kx iQ cnt ends opens ig gW begins kd back fZ balanced jY text zP E9 mH vC iX)
structure RT(w:World)(rb:Nat)(v:Value)(l:List Tk):Prop where
 cell:w.cell? ⟨rb,0,none⟩=some v
 reads:Reads iU w v l
 size:l.length<=100000
structure nO(l:List Tk):Prop where
 pos:∀i,i<l.length->raw l i≠0
 head:zP l
theorem Iu{l:List Tk}(h:nO l)(i:Nat):kx l i≠0:=by
 unfold kx;split
 ·rename_i hi;exact h.pos i hi
 decide
theorem Nr{l:List Tk}(h:nO l){i:Nat}(hi:i<=l.length):Fl.mk (kx l i)=decide (kd l l.length i=0):=by
 rw[Fl.B5 hi];unfold Fl.mk;have h0:=Iu h i;by_cases hm:kx l i=20\/kx l i=21
 ·rw[eY hm];rcases hm with h|h<;>rw[h]<;>rfl
 rw[eX hm,jE h0];simp;omega
theorem Ns{l:List Tk}{i:Nat}(hi:i<=l.length)(h:kd l l.length i≠0):kx l i=kd l l.length i:=by
 have:=Fl.B5 hi;rw[this]at h⊢;split at h
 ·exact absurd rfl h
 rename_i h2;rw[eX h2]
section
variable {rb:Nat}{v:Value}{l:List Tk}{w:World}
theorem RT.kind(h:RT w rb v l)(i:Nat)(hi:i<=l.length):Calls prog 153 #[RP rb,.int .i64 i] w λe w'=>e=.returned (.int .i64 (kx l i:Nat))/\w=w':=E7 rb v l i w h.cell h.reads hi h.size
theorem RT.idle(h:RT w rb v l)(i:Nat)(hi:i<=l.length):Calls prog 151 #[RP rb,.int .i64 i,.func (.func 172) #[] #[]] w λe w'=>e=.returned (.int .i64 (fZ l l.length i:Nat))/\w=w':=Lg rb v l i w h.cell h.reads hi h.size
theorem RT.blank(h:RT w rb v l)(i:Nat)(hi:i<=l.length):Calls prog 151 #[RP rb,.int .i64 i,.func (.func 152) #[] #[]] w λe w'=>e=.returned (.int .i64 (Fl.blanks l l.length i:Nat))/\w=w':=IM rb v l i w h.cell h.reads hi h.size
theorem RT.counted(h:RT w rb v l)(p m:Nat)(hp:p<=l.length)(hm0:0<m)(hmp:m<=p)(hm:∃z,m<=z/\z<=p/\cnt (raw l (z-1))=true):
 Calls prog 170 #[RP rb,.int .i64 p] w λe w'=>e=.returned (.int .i64 (back l p m:Nat))/\w=w':=PK rb v l p m w h.cell h.reads hp h.size hm0 hmp hm
end
theorem Wt(rb:Nat)(v:Value)(l:List Tk)(i:Nat)(w:World)(hR:RT w rb v l)(hT:nO l)(hi:i<l.length)(hk:raw l i=18):
 Calls prog 155 #[RP rb,.int .i64 i] w λe w'=>e=.returned (.int .i64 (text l l.length i:Nat))/\w=w':=by
 have hpt:=Fl.Py hi hk hT.head;rw[<-hpt];unfold E9;dsimp only;have hP1:=Le rb v l (i+1) w hR.cell hR.reads (by omega) hR.size;have hge:=Fl.lD (λj=>raw l j==3||raw l j==4) (l.length-(i+1)) (i+1);have hle:=Fl.mi (λj=>raw l j==3||raw l j==4) (l.length-(i+1)) (i+1);obtain⟨f,hf⟩:=fq (iQ (λj=>raw l j==3||raw l j==4) (l.length-(i+1)) (i+1));rw[hf]at hP1 hge hle⊢;have hK:=hR.kind f (by omega);have hP2:=λp hp=>Ld rb v l p w hR.cell hR.reads hp hR.size
 have hs:=hR.size;have hkl:kx l f=1->f<l.length:=λh=>by
  unfold kx at h;split at h
  ·assumption
  cases h
 obtain⟨K,aa⟩:=fq (kx l f);rw[aa]at hK hkl⊢;have hfl:f<=l.length:=by omega
 rw[show((i+1:Nat):Int)=(i:Int)+1 from by omega]at hP1;obtain⟨af,HK⟩:=fT hP1 hK;by_cases q:K=1
 ·subst q;have hlt:=hkl rfl;rw[eY rfl];have hp2:=hP2 (f+1) (by omega);obtain⟨t,ht⟩:=fq (iQ (λj=>raw l j==19) (l.length-(f+1)) (f+1));rw[ht]at hp2⊢;rw[show((f+1:Nat):Int)=(f:Int)+1 from by omega]at hp2;have ae:=eZ hp2;obtain⟨N,hN⟩:=fq (l.length);rw[hN]at hi hlt hs;by_cases c:f+1<t
  ·rw[eY c];have g:(f:Int)+1<(t:Int):=by omega
   clear hT hpt hP1 hge hle hf hP2 hK aa hkl hfl hp2 ht hk hR c hN
   go_enter func155,ntmps155
   go_wp2_with fail
   refine af.out.mono ?_;rintro e w1 ⟨rfl,rfl⟩;go_wp2_with fail
   refine HK.out.mono ?_;rintro e w1 ⟨rfl,rfl⟩;go_wp2_with fail
   refine ae.out.mono ?_;rintro e w1 ⟨rfl,rfl⟩;go_wp2_with fail
   go_ret;exact⟨rfl,rfl⟩
  rw[eX c];have g:¬(f:Int)+1<(t:Int):=by omega
  clear hT hpt hP1 hge hle hf hP2 hK aa hkl hfl hp2 ht hk hR c hN
  go_enter func155,ntmps155
  go_wp2_with fail
  refine af.out.mono ?_;rintro e w1 ⟨rfl,rfl⟩;go_wp2_with fail
  refine HK.out.mono ?_;rintro e w1 ⟨rfl,rfl⟩;go_wp2_with fail
  refine ae.out.mono ?_;rintro e w1 ⟨rfl,rfl⟩;go_wp2_with fail
  go_ret;exact⟨by go_num,rfl⟩
 rw[eX q];have hp2:=hP2 f hfl;obtain⟨t,ht⟩:=fq (iQ (λj=>raw l j==19) (l.length-f) f);rw[ht]at hp2⊢;have ae:=eZ hp2;have gk:((K:Int)==1)=false:=by simp;omega
 obtain⟨N,hN⟩:=fq (l.length);rw[hN]at hi hs;by_cases c:f<t
 ·rw[eY c];have g:(f:Int)<(t:Int):=by omega
  clear hT hpt hP1 hge hle hf hP2 hK aa hkl hfl hp2 ht hk hR c q hN
  go_enter func155,ntmps155
  go_wp2_with fail
  refine af.out.mono ?_;rintro e w1 ⟨rfl,rfl⟩;go_wp2_with fail
  refine HK.out.mono ?_;rintro e w1 ⟨rfl,rfl⟩;go_wp2_with fail
  refine ae.out.mono ?_;rintro e w1 ⟨rfl,rfl⟩;go_wp2_with fail
  go_ret;exact⟨rfl,rfl⟩
 rw[eX c];have g:¬(f:Int)<(t:Int):=by omega
 clear hT hpt hP1 hge hle hf hP2 hK aa hkl hfl hp2 ht hk hR c q hN
 go_enter func155,ntmps155
 go_wp2_with fail
 refine af.out.mono ?_;rintro e w1 ⟨rfl,rfl⟩;go_wp2_with fail
 refine HK.out.mono ?_;rintro e w1 ⟨rfl,rfl⟩;go_wp2_with fail
 refine ae.out.mono ?_;rintro e w1 ⟨rfl,rfl⟩;go_wp2_with fail
 go_ret;exact⟨by go_num,rfl⟩
theorem CE(rb:Nat)(v:Value)(l:List Tk)(i:Nat)(w:World)(hR:RT w rb v l)(hT:nO l)(ho:opens (kd l l.length i)=true):
 Calls prog 157 #[RP rb,.int .i64 i] w λe w'=>e=.returned (.int .i64 (balanced l l.length i:Nat))/\w=w':=by
 have hkd:kd l l.length i≠0:=λh=>by rw[h]at ho;exact absurd ho (by decide)
 have hi:=Fl.jc hkd;have hcnt:cnt (raw l i)=true:=by rw[hi.2];exact Fl.qQ ho
 have HK:=eZ (λj (hj:j<=l.length)=>hR.kind j hj);have HM:=eZ (λk=>Nl k w);have aa:=eZ (λj (hj:j<=l.length)=>Nr hT hj);have ae:=eZ (λj (hj:j<=l.length)(h:kd l l.length j≠0)=>Ns hj h);have af:=eZ (λj (hj:j<=l.length)(hij:i<j)=>hR.counted j (i+1) hj (by omega) (by omega) ⟨i+1,by omega,by omega,by rw[jH];exact hcnt⟩);have ag:=eZ (λj n (h:kd l l.length j=0)=>Fl.Pz (i:=i) (n:=n) h);have ah:=eZ (λj n (h:kd l l.length j≠0)=>Fl.PD (i:=i) (n:=n) h);have ai:=eZ (λj (h:kd l l.length j≠0)=>(Fl.jc h).1);obtain⟨HI,HO⟩:=fT hkd ho;rw[<-Fl.LC];obtain⟨T,av⟩:=fq (vC l i i 0);rw[av];have HT0:=eZ av;have hs:=hR.size;have hil:=hi.1;obtain⟨N,hN⟩:=fq (l.length);rw[hN]at HK aa ae af ag ah ai HI HO hs hil;clear hR hT ho hkd hi hcnt av hN
 go_enter func157,ntmps157
 go_wp2_with fail
 go_loopw [1,5] (λiv nv wr=>∃j n:Nat,iv=.int .i64 j/\nv=.int .i64 n/\i<=j/\j<=N/\n<=j/\(i<j->0<n)/\Hid (vC l i j n=T)/\w=wr) (λiv _ _=>N-(intOf iv).toNat)
 case atStart=>exact⟨i,0,rfl,rfl,fB _,by omega,by omega,λh=>absurd h (sO _),HT0,rfl⟩
 case round=>
  obtain⟨j,n,rfl,rfl,hij,aj,ax,hn0,HB,rfl⟩:=hrel;have hcall:=HK.out j aj;have hmc:=HM.out (kx l j);rw[aa.out j aj]at hmc;by_cases hz:kd l N j=0
  ·have hlt:i<j:=by
    by_cases e:j=i
    ·subst e;exact absurd hz HI.out
    omega
   rw[lI hz]at hmc;have hct:=af.out j aj hlt;have hB:=HB.out;rw[ag.out j n hz]at hB;rw[hB]at hct;obtain⟨K,hK⟩:=fq (kx l j);rw[hK]at hcall hmc;obtain⟨H1,H2,H3⟩:=jF hcall hmc hct;clear hcall hmc hct hB HK HM aa ae af ag ah ai HI HO HB HT0 hK hz hn0;go_wp2_with fail
   refine H1.out.mono ?_;rintro e w1 ⟨rfl,rfl⟩;go_wp2_with fail
   refine H2.out.mono ?_;rintro e w1 ⟨rfl,rfl⟩;go_wp2_with fail
   refine H3.out.mono ?_;rintro e w1 ⟨rfl,rfl⟩;go_wp2_with fail
   go_ret;exact⟨rfl,rfl⟩
  rw[jE hz]at hmc;have hkx:=ae.out j aj hz;have hst:=ah.out j n hz;have hjl:=ai.out j hz;rw[hkx]at hcall hmc;have hone:j=i->opens (kd l N j)=true:=λe=>by rw[e];exact HO.out
  obtain⟨K,hK⟩:=fq (kd l N j);rw[hK]at hcall hmc hst hone;rw[HB.out]at hst;obtain⟨H1,H2⟩:=fT hcall hmc;clear hcall hmc HK HM aa ae af ag ah ai HI HO HB HT0 hK hz hkx;by_cases q8:K=8
  ·subst q8;rw[show Fl.step 8 n=n+1 from rfl,eX (by omega)]at hst;have HB2:=eZ hst.symm;have g0:((n:Int)+1==0)=false:=by simp;omega
   clear hst hone hn0;go_wp2_with fail
   refine H1.out.mono ?_;rintro e w1 ⟨rfl,rfl⟩;go_wp2_with fail
   refine H2.out.mono ?_;rintro e w1 ⟨rfl,rfl⟩;go_wp2_with fail
   refine H1.out.mono ?_;rintro e w1 ⟨rfl,rfl⟩;go_wp2_with fail
   go_roundw
   case rel=>exact⟨j+1,n+1,by go_num,by go_num,by omega,by omega,by omega,λ_=>by omega,HB2,trivial⟩
   case measure=>simp[intOf];omega
  have g8:((K:Int)==8)=false:=by simp;omega
  by_cases q9:K=9
  ·subst q9;rw[show Fl.step 9 n=n+1 from rfl,eX (by omega)]at hst;have HB2:=eZ hst.symm;have g0:((n:Int)+1==0)=false:=by simp;omega
   clear hst hone hn0;go_wp2_with fail
   refine H1.out.mono ?_;rintro e w1 ⟨rfl,rfl⟩;go_wp2_with fail
   refine H2.out.mono ?_;rintro e w1 ⟨rfl,rfl⟩;go_wp2_with fail
   refine H1.out.mono ?_;rintro e w1 ⟨rfl,rfl⟩;go_wp2_with fail
   go_roundw
   case rel=>exact⟨j+1,n+1,by go_num,by go_num,by omega,by omega,by omega,λ_=>by omega,HB2,trivial⟩
   case measure=>simp[intOf];omega
  have g9:((K:Int)==9)=false:=by simp;omega
  have hni:0<n:=by
   refine hn0 ?_;by_cases e:j=i
   ·have:=hone e;unfold opens at this;simp at this;omega
   omega
  by_cases ak:K=10\/K=11
  ·have hsn:Fl.step K n=n-1:=by rcases ak with rfl|rfl<;>rfl
   rw[hsn]at hst;by_cases hn1:n-1=0
   ·obtain rfl:n=1:=by omega
    rw[eY hn1]at hst;subst hst;clear hone hn0 hsn hn1;rcases ak with rfl|rfl
    all_goals
     go_wp2_with fail
     refine H1.out.mono ?_;rintro e w1 ⟨rfl,rfl⟩;go_wp2_with fail
     refine H2.out.mono ?_;rintro e w1 ⟨rfl,rfl⟩;go_wp2_with fail
     refine H1.out.mono ?_;rintro e w1 ⟨rfl,rfl⟩;go_wp2_with fail
     go_ret;exact⟨by go_num,rfl⟩
   rw[eX hn1]at hst;have HB2:=eZ hst.symm;obtain⟨m,rfl⟩:∃m,n=m+1:=⟨n-1,by omega⟩
   have hm0:0<m:=by omega
   have g0:((m:Int)==0)=false:=by simp;omega
   have g1:(((m+1:Nat):Int)-1==0)=false:=by simp;omega
   have gw:wrap64 (((m+1:Nat):Int)-1)=(m:Int):=by
    rw[show((m+1:Nat):Int)-1=(m:Int)by omega];exact uF _ (by omega)
   rw[jH]at HB2;clear hst hone hn0 hsn hn1;rcases ak with rfl|rfl
   all_goals
    go_wp2_with fail
    refine H1.out.mono ?_;rintro e w1 ⟨rfl,rfl⟩;go_wp2_with fail
    refine H2.out.mono ?_;rintro e w1 ⟨rfl,rfl⟩;go_wp2_with fail
    refine H1.out.mono ?_;rintro e w1 ⟨rfl,rfl⟩;go_wp2_with fail
    go_roundw
    case rel=>exact⟨j+1,m,by go_num,by first|go_num|rw[gw],by omega,by omega,by omega,λ_=>by omega,HB2,trivial⟩
    case measure=>simp[intOf];omega
  have hsn:Fl.step K n=n:=by
   unfold Fl.step opens ends;rw[eX (by simp;omega),eX (by simp;omega)]
  rw[hsn,eX (by omega)]at hst;have HB2:=eZ hst.symm;have g10:((K:Int)==10)=false:=by simp;omega
  have g11:((K:Int)==11)=false:=by simp;omega
  have g0:((n:Int)==0)=false:=by simp;omega
  clear hst hone hn0 hsn q8 q9 ak;go_wp2_with fail
  refine H1.out.mono ?_;rintro e w1 ⟨rfl,rfl⟩;go_wp2_with fail
  refine H2.out.mono ?_;rintro e w1 ⟨rfl,rfl⟩;go_wp2_with fail
  refine H1.out.mono ?_;rintro e w1 ⟨rfl,rfl⟩;go_wp2_with fail
  go_roundw
  case rel=>exact⟨j+1,n,by go_num,rfl,by omega,by omega,by omega,λ_=>by omega,HB2,trivial⟩
  case measure=>simp[intOf];omega
end
section
open Go.RowKit
open Sq
open Ar
structure CM(wr:World)(gn Bn:Nat)(w1:World)(av nv:Value)(F:List Int)(L:List Ln):Prop where
 all:wr.ownsRow gn 3 encI.k av F.length (encI.all F)
 row:wr.ownsRow gn 38 gP.k nv L.length (gP.all L)
 UG:∀p∈L,Piece wr gn av F p
 box:wr.heap[Bn]?=some (.cells #[nv] 31 (0,0))
 low:Below gn w1 wr
 le:gn<=Bn
section
variable {wr w' w1:World}{gn Bn:Nat}{av nv:Value}{F:List Int}{L:List Ln}
theorem CM.lt(h:CM wr gn Bn w1 av nv F L):Bn<wr.heap.size:=il h.box
theorem CM.below(h:CM wr gn Bn w1 av nv F L)(hb:Below wr.heap.size wr w'):CM w' gn Bn w1 av nv F L:=
 ⟨own_below h.all hb,own_below h.row hb,λp hp=>(h.UG p hp).keep (uw hb),(hb.block Bn h.lt).trans h.box,h.low.trans (hb.mono (by have:=h.lt;have:=h.le;omega)),h.le⟩
theorem lg{w:World}{g g':Nat}{cs cs':Array Value}{t t':TypeId}{fr fr':Nat×Nat}(h:w.heap[g]?=some (.cells cs t fr))(h':w.heap[g']?=some (.cells cs' t' fr'))(ht:t≠t'):g≠g':=λe=>by
 subst e;rw[h]at h';injection h' with h'
 injection h' with _ e3
 exact ht e3
theorem CM.append{aa:Value}{ks:List Int}(h:CM wr gn Bn w1 av nv F L)(hown':w'.ownsRow gn 3 encI.k aa (F++ks).length (encI.all (F++ks)))(hg:wr.grownBy w' av.ownBlock)(hm:aa.ownBlock=av.ownBlock\/(aa.ownBlock=some wr.heap.size/\wr.grownBy w' none)):
 CM w' gn Bn w1 aa nv (F++ks) L:=by
 have hgs:=h.low.size;refine⟨hown',h.row.kept hg (mG (fH h.all h.row (by decide))),λp hp=>(h.UG p hp).moved h.all hown' hg hm,?_,h.low.grown hg (by have:=h.lt;have:=h.le;omega) (λk hk=>(h.all.lt k hk).1),h.le⟩;refine(hg.block Bn h.lt (λe=>?_)).trans h.box;obtain⟨cs,fr,e2⟩:=uN h.all e.symm;exact lg h.box e2 (by decide) rfl
theorem CM.store{xb:Nat}{cs:Array Value}{fr:Nat×Nat}(h:CM wr gn Bn w1 av nv F L)(hx:wr.heap[xb]?=some (.cells cs 38 fr))(hne:nv.ownBlock≠some xb)(hge:gn<=xb)(o:Nat)(u:Value):CM (wr.setCell ⟨xb,o,none⟩ u) gn Bn w1 av nv F L:=
 ⟨xO h.all (a:=⟨xb,o,none⟩) (λe=>by
  obtain⟨cs',fr',e2⟩:=uN h.all e
  exact lg hx e2 (by decide) rfl) u,
  xO h.row (a:=⟨xb,o,none⟩) hne u,λp hp=>(h.UG p hp).keep (uZ hx (by decide) o u),
  (jf _ _ _ _ (λe=>lg hx h.box (by decide) e.symm)).trans h.box,h.low.setCell (p:=⟨xb,o,none⟩) hge u,h.le⟩
theorem CM.push{aa:Value}{p:Ln}(h:CM wr gn Bn w1 av nv F L)(hp:Piece wr gn av F p)(hown':w'.ownsRow gn 38 gP.k aa (L++[p]).length (gP.all (L++[p])))(hg:wr.grownBy w' nv.ownBlock):
 CM (w'.setCell ⟨Bn,0,none⟩ aa) gn Bn w1 av aa F (L++[p]):=by
 have hk:nN wr w':=uy h.row hg
 have hbx:w'.heap[Bn]?=some (.cells #[nv] 31 (0,0)):=(hg.block Bn h.lt (λe=>by
  obtain⟨cs,fr,e2⟩:=qi h.row e.symm
  exact lg h.box e2 (by decide) rfl)).trans h.box
 have hk2:nN wr (w'.setCell ⟨Bn,0,none⟩ aa):=hk.trans (uZ hbx (by decide) 0 aa);have hall:w'.ownsRow gn 3 encI.k av F.length (encI.all F):=h.all.kept hg (mG (fH h.row h.all (by decide)));refine⟨xO hall (a:=⟨Bn,0,none⟩) (λe=>?_) aa,xO hown' (a:=⟨Bn,0,none⟩) (λe=>?_) aa,λq hq=>?_,Ic hbx,(h.low.grown hg (by have:=h.lt;have:=h.le;omega) (λk hk=>(h.row.lt k hk).1)).setCell (p:=⟨Bn,0,none⟩) h.le aa,h.le⟩
 ·obtain⟨cs,fr,e2⟩:=uN hall e;exact lg hbx e2 (by decide) rfl
 ·obtain⟨cs,fr,e2⟩:=qi hown' e;exact lg hbx e2 (by decide) rfl
 rcases mU.1 hq with hq|hq
 ·exact(h.UG q hq).keep hk2
 obtain rfl:q=p:=by simpa using hq
 exact hp.keep hk2
theorem CM.pt(h:CM wr gn Bn w1 av nv F L){B:Nat}(hB:B<=gn):PT wr B nv L/\∀p∈L,p.c=p.n:=
 ⟨⟨lq h.row hB,λp hp=>⟨(h.UG p hp).kid.reads,λad had=>⟨jU hB ((h.UG p hp).kid.blk ad had).1,((h.UG p hp).kid.blk ad had).2⟩⟩⟩,λp hp=>(h.UG p hp).full⟩
end
theorem PT.vN{w:World}{B b:Nat}{v:Value}{L:List Ln}(h:PT w B v L)(hb:b<B)(u:Value):PT (w.setCell ⟨b,0,none⟩ u) B v L:=by
 refine⟨H8 h.row (a:=⟨b,0,none⟩) hb u,λp hp=>⟨wY (h.kids p hp).reads (λad had o x hx _ _=>?_),λad had=>⟨((h.kids p hp).blk ad had).1,?_⟩⟩⟩
 ·have:=((h.kids p hp).blk ad had).1;exact jL (by omega) hx
 have h1:=((h.kids p hp).blk ad had).1;obtain⟨cs,fr,e⟩:=((h.kids p hp).blk ad had).2;exact⟨cs,fr,(jf _ _ _ _ (by show ad.block≠b;omega)).trans e⟩
theorem PT.base{w:World}{B B':Nat}{v:Value}{L:List Ln}(h:PT w B v L)(hB:B'<=B):PT w B' v L:=
 ⟨lq h.row hB,λp hp=>⟨(h.kids p hp).reads,λad had=>⟨jU hB ((h.kids p hp).blk ad had).1,((h.kids p hp).blk ad had).2⟩⟩⟩
def Iv(l:List Nd)(w:World)(e:Ending)(w':World):Prop:=
 ∃u,e=.returned (.agg #[u])/\(∃L,L.map Ln.nd=l/\PT w' w.heap.size u L/\∀p∈L,p.c=p.n)/\Below w.heap.size w w'
theorem TA(v:Value)(l:List Nd)(m:Nat)(w:World)(h:iM w v l)(hs:l.length<=20000)(hk:∀x∈l,x.ks.length<=20000)(hm:m<=10):
 Calls prog 185 #[.agg #[v],.int .i64 m] w (Iv l w):=by
 obtain⟨a,cap,rfl⟩:=h.shape;have HQ:=eZ (λu w'=>show((∃L,L.map Ln.nd=l/\PT w' w.heap.size u L/\∀p∈L,p.c=p.n)/\Below w.heap.size w w')->Iv l w (.returned (.agg #[u])) w' from λh=>⟨u,rfl,h⟩);obtain⟨Q,hQ⟩:=fq (Iv l w);rw[hQ]at HQ⊢;have HX:=eZ (λW (hb:Below w.heap.size w W) j x (hj:l[j]?=some x)=>(h.below hb).at_ j x hj);have aZ:=eZ hk;obtain⟨N,hN⟩:=fq (l.length);rw[hN]at hs⊢;have HN:=eZ hN;obtain⟨w1,hw1⟩:=fq ((w.alloc (.cells #[.slice a N cap] 31)).alloc (.cells #[.slice none 0 0] 31));obtain⟨Bt,aH⟩:=fq (w.heap.size);obtain⟨Br,hBr⟩:=fq (w.heap.size+1);have hb1:=gX (fo w (.cells #[.slice a N cap] 31)) (.cells #[.slice none 0 0] 31);have ct:w1.cell? ⟨Bt,0,none⟩=some (.slice a N cap):=by rw[<-hw1,<-aH];exact gI (at_new rfl)
 have cr:EI w1 Br 0 (.slice none 0 0):=by
  rw[<-hw1,<-hBr];have h:=qh (W:=w.alloc (.cells #[.slice a N cap] 31)) (C:=#[.slice none 0 0]) (t:=31) (k:=0) rfl;rw[size_alloc]at h;exact h
 rw[hw1]at hb1;have hbr:w.heap.size<=Br:=by omega
 have hs1:=hb1.size;obtain⟨gn,hgn⟩:=fq (w1.heap.size);obtain⟨w3,hmk,hown3,hg3⟩:=FO Hl (N+m) gn w1 (by omega) (by simp only[maxLen];omega) (by omega);rw[hgn]at hmk hown3;have aM:=hmk ((N:Int)+(m:Int)) (by omega);have hb3:Below gn w1 w3:=(fI _ _).grown hg3 (by omega) (λq hq=>by cases hq);have hs3:gn<=w3.heap.size:=by rw[<-hgn];exact hg3.size
 obtain⟨Bn,aI⟩:=fq (w3.heap.size);obtain⟨w4,hw4⟩:=fq (w3.alloc (.cells #[.slice (some ⟨gn,0,none⟩) 0 (N+m)] 31));have ah:w4.heap[Bn]?=some (.cells #[.slice (some ⟨gn,0,none⟩) 0 (N+m)] 31 (0,0)):=by rw[<-hw4,<-aI];exact j5 _ _
 have hb4:Below gn w1 w4:=by rw[<-hw4];exact hb3.alloc hs3 _
 have ai:w4.ownsRow gn 38 gP.k (.slice (some ⟨gn,0,none⟩) 0 (N+m)) ([]:List Ln).length (gP.all []):=by rw[<-hw4];exact hown3.alloc _
 have hs4:gn<=w4.heap.size:=by rw[<-hgn];exact hb4.size
 obtain⟨w5,hmk5,hown5,hg5⟩:=FO Ra N gn w4 (by omega) (by simp only[maxLen];omega) hs4;obtain⟨ga,hga⟩:=fq (w4.heap.size);rw[hga]at hmk5 hown5;have aN:=hmk5 (N:Int) rfl;have hcm:CM w5 gn Bn w1 (.slice (some ⟨ga,0,none⟩) 0 N) (.slice (some ⟨gn,0,none⟩) 0 (N+m)) [] []:=
  ⟨hown5,ai.kept hg5 (.inr (by simp[Value.ownBlock])),(λp hp=>by cases hp),(hg5.block Bn (il ah) (λe=>by cases e)).trans ah,hb4.grown hg5 hs4 (λq hq=>by cases hq),by omega⟩
 have hlt1:Bt<gn:=by rw[<-hgn];exact lt_of_cell ct
 have hlt2:Br<gn:=by rw[<-hgn];exact lt_of_cell cr.1
 have az:=eZ (λW (hb:Below gn w1 W)=>show W.cell? ⟨Bt,0,none⟩=some (.slice a N cap)from by rw[hb.cell (p:=⟨Bt,0,none⟩) hlt1];exact ct);have bf:=eZ (λW (hb:Below gn w1 W)=>show EI W Br 0 (.slice none 0 0)from⟨by rw[hb.cell (p:=⟨Br,0,none⟩) hlt2];exact cr.1,by rw[hb.frozen (p:=⟨Br,0,none⟩) hlt2];exact cr.2⟩);have hb1':Below w.heap.size w w1:=hb1;have aC:=eZ (λW (hb:Below gn w1 W)=>show Below w.heap.size w W from hb1'.trans (hb.mono (by omega)));have hgw:w.heap.size<=gn:=by omega
 have bg:=az.out w3 hb3;have bn:=az.out w4 hb4;have bq:=az.out w5 hcm.low;obtain⟨HCM,HW1,aO,aP,aQ,aR⟩:=kJ hcm hw1 aH hBr hw4 aI;clear h hk hQ hN hw1 aH hBr hmk hown3 hg3 hb1 hb1' hb3 hs1 hgn aI hw4 ah hb4 ai hs4 hmk5 hown5 hg5 hga hcm hs3 cr hlt1
 go_enter func185,ntmps185
 go_upto_region 1 with fail
 rw[HW1.out,aP.out,aO.out];clear HW1 aP aO;go_upto_region 2 with fail
 rw[aQ.out,aR.out];clear aQ aR aM;go_wp2_with fail
 clear aN
 go_loopw [6,24] (λav iv wr=>∃(i:Nat)(F:List Int)(L:List Ln)(nv:Value),iv=.int .i64 i/\i<=N/\Hid (L.length=i)/\Hid (L.map Ln.nd=l.take i)/\Hid (F.length<=i*20000)/\Hid (CM wr gn Bn w1 av nv F L)) (λ_ iv _=>N-(intOf iv).toNat)
 case atStart=>exact⟨0,[],[],_,rfl,ic _,eZ rfl,eZ rfl,eZ (ic _),HCM⟩
 case round=>
  clear ct bg bn bq HCM;obtain⟨i,F,L,nv,rfl,hi,HL,HM,HF,HC⟩:=hrel;have ct:=az.out wr HC.out.low;obtain⟨aa,ac,bz⟩:=(Reads.fJ (E:=encI) HC.out.all).shape;obtain⟨an,nc,bA⟩:=(Reads.fJ (E:=gP) HC.out.row).shape;subst bz bA;by_cases hlt:i<N
  ·obtain⟨x,hx⟩:=jB l i (by rw[HN.out];exact hlt);obtain⟨b,off,ka,kc,rfl,x0,x1,x2,x3,x4,x5,hkr⟩:=HX.out wr (aC.out wr HC.out.low) i x hx;have hii:(i:Int)<(N:Int):=by omega
   have hkl:=aZ.out x (iK hx);have hfl:=HF.out;have aS:=eZ (fun(p:Ln)(hp:p.nd=x)=>show(L++[p]).map Ln.nd=l.take (i+1)by rw[wy,HM.out,Hu,hx,wB,hp];rfl);have aT:=eZ (show(F++x.ks).length<=(i+1)*20000 by rw[iJ];omega);obtain⟨xb,hxb⟩:=fq (wr.heap.size);obtain⟨wa,aA⟩:=fq (wr.alloc (.cells #[.int .i64 x.k,.int .i64 x.f,.int .i64 x.t,.int .i64 x.u,.slice ka x.ks.length kc,.bool x.y] 38));have aJ:Below wr.heap.size wr wa:=aA▸fo wr _;have blk:wa.heap[xb]?=some (.cells #[.int .i64 x.k,.int .i64 x.f,.int .i64 x.t,.int .i64 x.u,.slice ka x.ks.length kc,.bool x.y] 38 (0,0)):=by rw[<-aA,<-hxb];exact j5 _ _
   have y4:wa.cell? ⟨xb,4,none⟩=some (.slice ka x.ks.length kc):=gG blk 4;obtain⟨bB,aB⟩:=fT (hkr.below aJ) (HC.out.below aJ);have bC:=eZ (show∀q,(Value.slice an L.length nc).ownBlock=some q->q<xb from λq hq=>by rw[<-hxb];exact(HC.out.row.lt q hq).2);have bD:=eZ (show∀q,(Value.slice aa F.length ac).ownBlock=some q->q<xb from λq hq=>by rw[<-hxb];exact(HC.out.all.lt q hq).2);have hgx:gn<=xb:=by have h1:=HC.out.lt;have h2:=HC.out.le;omega
   obtain⟨aD,aU,bE⟩:=jF blk aA hxb;have hL1:F.length+x.ks.length<=maxLen:=by simp only[maxLen];omega
   have hL2:(F.length+x.ks.length)*8<=140737488355328:=by omega
   obtain⟨bF,HL2⟩:=fT hL1 hL2;have hbs:gn<=wa.heap.size:=by have h1:=aB.out.lt;have h2:=aB.out.le;omega
   clear hx hkr aA aJ blk hxb hL1 hL2 hfl;go_upto_region 6 with fail
   rw[aU.out,bE.out];clear aU x0 x1 x2 x3 x4 x5;go_upto_region 8 with(at_builtin;go_must (refine BV Ra rfl (.tmp 30) (.tmp 32) rfl gn _ F rfl aB.out.all _ x.ks rfl bB.out bF.out HL2.out hbs ?_;intro v2 w2 hown2 hg2 aF;obtain⟨a2,c2,hv2⟩:=(Reads.fJ (E:=encI) hown2).shape;obtain⟨M2,hM2⟩:∃M2,(F++x.ks).length=M2:=⟨_,rfl⟩;rw[hM2]at hv2;subst hv2;have bG:=eZ hM2;have bH:=eZ (aB.out.append hown2 hg2 aF);have hb2:=(hg2.block xb (il aD.out) (λe=>by have h1:=bD.out xb e.symm;omega)).trans aD.out;have aj:=eZ hb2;have f4:=nH hb2 4;have y4:=gG hb2 4;clear hown2 hg2 aF hb2 hM2))
   have hne:(Value.slice an L.length nc).ownBlock≠some xb:=λe=>by have h1:=bC.out xb e;omega
   have ak:=eZ (bH.out.store aj.out hne hgx 4 (.slice none 0 0));have HB3:=eZ (qb (i:=4) aj.out (.slice none 0 0));obtain⟨w3,hw3⟩:=fq (w2.setCell ⟨xb,4,none⟩ (.slice none 0 0));have aG:w3.heap[xb]?=some (.cells #[.int .i64 x.k,.int .i64 x.f,.int .i64 x.t,.int .i64 x.u,.slice none 0 0,.bool x.y] 38 (0,0)):=by rw[<-hw3];exact HB3.out
   rw[hw3]at ak;obtain⟨HW3,ae⟩:=fT hw3 aG;clear hw3 aG HB3;go_upto_region 9 with fail
   rw[HW3.out];clear HW3 f4 y4 ct
   go_upto_if 38 with fail
   go_cut [] (λwx=>∃pa pn,Hid (Piece wx gn (.slice a2 M2 c2) (F++x.ks) ⟨x,pa,pn,pn⟩)/\Hid (wx.heap[xb]?=some (.cells #[.int .i64 x.k,.int .i64 x.f,.int .i64 x.t,.int .i64 x.u,.slice pa pn pn,.bool x.y] 38 (0,0)))/\Hid (CM wx gn Bn w1 (.slice a2 M2 c2) (.slice an L.length nc) (F++x.ks) L))
   case first=>
    have aV:M2=F.length+x.ks.length:=by rw[<-bG.out,iJ]
    rcases uB x.ks.length with hz|hz
    ·have hxe:x.ks=[]:=oC hz;have n1:¬((F.length:Int)<(M2:Int)):=by omega
     have HP:=eZ (show Piece w3 gn (.slice a2 M2 c2) (F++x.ks) ⟨x,none,0,0⟩from⟨BZ.nil w3 gn x hxe,rfl,λad had=>by cases had⟩);clear aV hz hxe;go_wp2_with fail
     go_meet
     exact⟨none,0,HP,ae,ak⟩
    have n1:(F.length:Int)<(M2:Int):=by omega
    obtain⟨g2,cp2,hv2,_,_,_,_⟩:=jM (E:=encI) ak.out.all (by rw[iJ];omega);obtain⟨rfl,bI,rfl⟩:=ll hv2;obtain⟨hsl,hpc⟩:=LJ ak.out.all hz x rfl;have hsl2:=λW=>hsl W
    obtain⟨kn,hkn⟩:=fq (x.ks.length);rw[hkn]at hsl hpc;have bJ:=eZ (ak.out.store ae.out hne hgx 4 (.slice (some ⟨g2,F.length,none⟩) kn kn));have bK:=eZ (qb (i:=4) ae.out (.slice (some ⟨g2,F.length,none⟩) kn kn));have bL:=eZ (hpc.keep (uZ ae.out (by decide) 4 (.slice (some ⟨g2,F.length,none⟩) kn kn)));have f4:=nH ae.out 4;have y4:=gG ae.out 4;clear aV hz hv2 bI hpc hsl2 hkn;go_wp2_with fail
    go_meet
    exact⟨_,_,bL,eZ bK.out,bJ⟩
   case rest=>
   obtain⟨pa,pn,HP,af,ax⟩:=hcut
   rename World=>w6
   have y0:=gG af.out 0;have y1:=gG af.out 1;have y2:=gG af.out 2;have y3:=gG af.out 3;have y4:=gG af.out 4;have y5:=gG af.out 5;have bx:=iF ax.out.box;have bM:=eZ (show gP.cells (⟨x,pa,pn,pn⟩:Ln)=[.int .i64 x.k,.int .i64 x.f,.int .i64 x.t,.int .i64 x.u,.slice pa pn pn,.bool x.y]from rfl);have bN:=eZ (show L.length+1<=maxLen by rw[HL.out];simp only[maxLen];omega);have bO:=eZ (show(L.length+1)*64<=140737488355328 by rw[HL.out];omega);have aW:gn<=w6.heap.size:=by have h1:=ax.out.lt;have h2:=ax.out.le;omega
   have ay:=eZ (λo=>ax.out.below (fo w6 o));have bP:=eZ (λo=>HP.out.keep (GQ w6 o));clear y4 hbs hne;have y4:=gG af.out 4;go_upto_region 12 with(at_builtin;go_must (refine vQ Hl rfl (.tmp 48) (.tmp 50) rfl gn _ L (⟨x,pa,pn,pn⟩:Ln) _ bM.out rfl ax.out.row rfl bN.out bO.out aW ?_;intro v7 w7 ag aK;obtain⟨a7,k7,hv7⟩:=(Reads.fJ (E:=gP) ag).shape;obtain⟨M7,aX⟩:∃M7,(L++[(⟨x,pa,pn,pn⟩:Ln)]).length=M7:=⟨_,rfl⟩;rw[aX]at hv7;clear aX;subst hv7;have aY:=eZ ((ay.out _).push (bP.out _) ag aK);have aL:w7.heap[Bn]?=some (.cells #[.slice an L.length nc] 31 (0,0)):=((aK.block Bn (ay.out _).lt (λe=>by obtain⟨cs,fr,e2⟩:=qi (ay.out (.cells [Value.int .i64 x.k,.int .i64 x.f,.int .i64 x.t,.int .i64 x.u,.slice pa pn pn,.bool x.y].toArray 38)).row e.symm;exact lg (ay.out _).box e2 (by decide) rfl)).trans (ay.out _).box);have c7:=iF aL;have f7:=wD aL;clear ag aK aL))
   go_wp2_with fail
   go_roundw
   case rel=>
    first
     |exact⟨i+1,F++x.ks,L++[⟨x,pa,pn,pn⟩],.slice a7 M7 k7,by go_num,by omega,eZ (by simp[HL.out]),eZ (aS.out _ rfl),aT,aY⟩
     |((repeat apply Exists.intro);exact⟨⟨i+1,F++x.ks,L++[⟨x,pa,pn,pn⟩],.slice a7 M7 k7,by go_num,by omega,eZ (by simp[HL.out]),eZ (aS.out _ rfl),aT,aY⟩,rfl⟩)
   case measure=>simp[intOf];omega
  obtain rfl:i=N:=by omega
  have hii:¬((i:Int)<(i:Int)):=by omega
  have hm:=HM.out;rw[xK (by rw[HN.out];exact fB _)]at hm;have bx:=iF HC.out.box;have cr:=bf.out wr HC.out.low;have bQ:=cr.1;have bR:=cr.2;have hpt:=HC.out.pt (fB _);have HD:=eZ (HQ.out (.slice an L.length nc) (wr.setCell ⟨Br,0,none⟩ (.slice an L.length nc)) ⟨⟨L,hm,(hpt.1.vN hlt2 _).base hgw,hpt.2⟩,(aC.out wr HC.out.low).setCell (p:=⟨Br,0,none⟩) hbr _⟩);clear hm hlt hpt cr;go_wp2_with fail
  refine pW (v:=.agg #[.slice an L.length nc]) ?_ rfl HD.out;simp[results,results185,go_sem,bQ,gU]
end
section
open Go.RowKit
open Sq
open Ar
theorem qV{w w':World}(hb:Below w.heap.size w w')(r:Option Nat):w.grownBy w' r:=⟨hb.os,hb.tape,hb.output,hb.size,λk hk _=>hb.block k hk⟩
theorem Wu{w w':World}(h:w.grownBy w' none)(r:Option Nat):w.grownBy w' r:=⟨h.os,h.tape,h.output,h.size,λk hk _=>h.block k hk (λe=>by cases e)⟩
theorem DF{w w':World}{r:Option Nat}(h:w.grownBy w' r){b:Nat}(hb:r=some b\/w.heap.size<=b)(o:Nat)(u:Value):w.grownBy (w'.setCell ⟨b,o,none⟩ u) r:=
 ⟨h.os,h.tape,h.output,by simp[World.setCell];exact h.size,λk hk hne=>(jf _ _ _ _ (λe=>by
  have e:k=b:=e;rcases hb with hb|hb
  ·exact hne (by rw[hb,e])
  omega)).trans (h.block k hk hne)⟩
theorem Ec{w w' w'':World}{r:Option Nat}(h:w.grownBy w' r)(hb:Below w'.heap.size w' w''):w.grownBy w'' r:=h.trans (qV hb r)
theorem TC{w w':World}{r:Option Nat}(h:w.grownBy w' r):w.grownBy w'.drew r:=Ec h (fI _ _).drew
theorem Iw{w w':World}{g B:Nat}(h:w.grownBy w' (some g))(hB:B<=g)(hw:B<=w.heap.size):Below B w w':=(fI B w).grown h hw (λk hk=>by have e:g=k:=jl hk;omega)
def Al(R:List Nd)(B g:Nat)(v:Value)(w:World)(e:Ending)(w':World):Prop:=
 e=.returned (.tuple #[])/\(∃L,L.map Ln.nd=R/\PT w' B v L)/\w.grownBy w' (some g)
theorem PT.drew{w:World}{B:Nat}{v:Value}{L:List Ln}(h:PT w B v L):PT w.drew B v L:=h.below (fI _ _).drew
theorem Ot(g cap B n:Nat)(L:List Ln)(k jr:Int)(w:World)(h:PT w B (.slice (some ⟨g,0,none⟩) n cap) L)(hn:L.length=n)(hG:Ar.eu (L.map Ln.nd))(hk1:-1<=k)(hk2:k<n):
 Calls prog 187 #[.agg #[.slice (some ⟨g,0,none⟩) n cap],.agg #[.int .i64 k,.int .i64 jr]] w (Al (iG (L.map Ln.nd) k jr) B g (.slice (some ⟨g,0,none⟩) n cap) w):=by
 obtain⟨R,hR⟩:=fq (iG (L.map Ln.nd) k jr);rw[hR];have HQ:=eZ (λw'=>show((∃L,L.map Ln.nd=R/\PT w' B (.slice (some ⟨g,0,none⟩) n cap) L)/\w.grownBy w' (some g))->Al R B g (.slice (some ⟨g,0,none⟩) n cap) w (.returned (.tuple #[])) w' from λh=>⟨rfl,h⟩);obtain⟨Q,hQ⟩:=fq (Al R B g (.slice (some ⟨g,0,none⟩) n cap) w);rw[hQ]at HQ⊢;have hcap:=rY h.row;simp only[maxLen]at hcap;obtain⟨-,hc1,hc2⟩:=hcap;obtain⟨Bt,ag⟩:=fq (w.heap.size);obtain⟨Bg,hBg⟩:=fq (w.heap.size+1);obtain⟨w1,hw1⟩:=fq ((w.alloc (.cells #[.slice (some ⟨g,0,none⟩) n cap] 31)).alloc (.cells #[.int .i64 k,.int .i64 jr] 186));have hgw:B<=g/\g<w.heap.size:=h.row.lt g rfl
 have hb1:Below w.heap.size w w1:=by rw[<-hw1];exact gX (fo w _) _
 have ct:w1.cell? ⟨Bt,0,none⟩=some (.slice (some ⟨g,0,none⟩) n cap):=by rw[<-hw1,<-ag];exact gI (at_new rfl)
 have hsz:(w.alloc (.cells #[.slice (some ⟨g,0,none⟩) n cap] 31)).heap.size=Bg:=by rw[size_alloc];exact hBg
 have aA:w1.cell? ⟨Bg,0,none⟩=some (.int .i64 k):=by rw[<-hw1,<-hsz];exact at_new rfl
 have ah:w1.cell? ⟨Bg,1,none⟩=some (.int .i64 jr):=by rw[<-hw1,<-hsz];exact at_new rfl
 have ht1:g≠Bt:=by omega
 have ht2:g≠Bg:=by omega
 have H0:=eZ (h.below hb1);have HB0:=eZ (qV hb1 (some g));obtain⟨ai,aj,ak,HW1,av,ax⟩:=kJ hG hR hn hw1 ag hBg;clear h hG hR hn hQ hw1 ag hBg hb1 hsz;obtain⟨aG,-⟩:=hgw
 go_enter func187,ntmps187
 go_upto_region 1 with fail
 rw[HW1.out,ax.out,av.out];clear HW1 ax av;go_wp2_with fail
 obtain⟨ay,aa⟩:=fT ct ah;clear aA ct ah
 go_loopw [4] (λkv wr=>∃(k:Int)(L:List Ln),kv=.int .i64 k/\-1<=k/\k<n/\Hid (PT wr B (.slice (some ⟨g,0,none⟩) n cap) L)/\Hid (Ar.eu (L.map Ln.nd))/\Hid (iG (L.map Ln.nd) k jr=R)/\Hid (L.length=n)/\Hid (w.grownBy wr (some g))/\Hid (wr.cell? ⟨Bt,0,none⟩=some (.slice (some ⟨g,0,none⟩) n cap))/\Hid (wr.cell? ⟨Bg,1,none⟩=some (.int .i64 jr))) (λkv _=>(intOf kv+1).toNat)
 case atStart=>exact⟨k,L,rfl,hk1,hk2,H0,ai,aj,ak,HB0,ay,aa⟩
 case round=>
  clear hk1 hk2 H0 ai aj ak HB0 ay aa;obtain⟨k,L,rfl,hk1,hk2,HO,HG,HR,HN,HB,aB,aC⟩:=hrel;by_cases hneg:k<0
  ·obtain rfl:k=-1:=by omega
   have hr:=HR.out;rw[AL _ _ _ (by omega)]at hr;have HD:=eZ (HQ.out wr ⟨⟨L,hr,HO.out⟩,HB.out⟩);clear hr hk2;go_wp2_with fail
   go_end0
   exact HD.out
  obtain⟨i,rfl⟩:∃i:Nat,k=(i:Int):=⟨k.toNat,by omega⟩
  have hin:i<n:=by omega
  obtain⟨p,hp⟩:=jB L i (by rw[HN.out];exact hin);have hrow:=HO.out.row;have c2:wr.cell? ⟨g,i*6+2,none⟩=some (.int .i64 p.nd.t):=by
   have:=hrow.cells (g:=g) rfl _ _ ((iO gP L i p hp 2 (by decide)).trans rfl);rw[gQ,kU]at this;exact this
  have c3:wr.cell? ⟨g,i*6+3,none⟩=some (.int .i64 p.nd.u):=by
   have:=hrow.cells (g:=g) rfl _ _ ((iO gP L i p hp 3 (by decide)).trans rfl);rw[gQ,kU]at this;exact this
  obtain⟨g',cap',hv,-,hfz,-,-⟩:=jM hrow (by rw[HN.out];omega);have e1:=(ll hv).1;injection e1 with e1
  injection e1 with e1
  subst e1;have f2:=hfz (i*6+2);have d3:=tQ (o:=i*6+2) (v:=.int .i64 (max p.nd.t jr)) (by omega) c3;have e3:=fE d3;have hx:(L.map Ln.nd)[i]?=some p.nd:=by rw[lS,hp];rfl
  have hu:=HG.out.up i p.nd hx;have hst:=AJ (L.map Ln.nd) i jr p.nd HG.out (by omega) (by rw[jk];exact hx);rw[jk]at hst;have hO2:=HO.out.set i 2 p {p with nd:={p.nd with t:=max p.nd.t jr }} (.int .i64 (max p.nd.t jr)) hp rfl (by decide) ((HO.out.kids p (iK hp)).nd _ rfl);have hmap:(L.set i {p with nd:={p.nd with t:=max p.nd.t jr }}).map Ln.nd=(L.map Ln.nd).set i {p.nd with t:=max p.nd.t jr }:=by rw[EO]
  obtain⟨L2,hL2⟩:=fq (L.set i {p with nd:={p.nd with t:=max p.nd.t jr }});rw[hL2]at hO2 hmap;have az:=eZ hO2.drew;have aD:=eZ (show Ar.eu (L2.map Ln.nd)by rw[hmap];exact tT HG.out i p.nd hx _ (Hm _ _));have HR2:=eZ (show iG (L2.map Ln.nd) p.nd.u jr=R by rw[hmap,<-hst];exact HR.out);have aF:=eZ (show L2.length=n by rw[<-hL2,lT];exact HN.out);have HB2:=eZ (TC (DF HB.out (.inl rfl) (i*6+2) (.int .i64 (max p.nd.t jr))));have ct:=aB.out;have cg:=aC.out;have ae:=eZ (fE (jL (o:=i*6+2) (v:=.int .i64 (max p.nd.t jr)) ht1 ct));have af:=eZ (fE (jL (o:=i*6+2) (v:=.int .i64 (max p.nd.t jr)) ht2 cg));have hi2:(i:Int)<(n:Int):=by omega
  have hup:¬((i:Int)<=p.nd.u):=by omega
  clear hrow hv hfz hx hst hO2 hmap hL2 hp;go_upto_region 4 with fail
  go_region
  obtain⟨w2,hw2⟩:=fq ((wr.setCell ⟨g,i*6+2,none⟩ (.int .i64 (max p.nd.t jr))).drew);rw[hw2]at az HB2 ae af e3;rw[hw2];clear hw2 d3 c2 c3 f2 ct cg;go_wp2_with fail
  go_roundw
  case rel=>exact⟨p.nd.u,L2,rfl,by omega,by omega,az,aD,HR2,aF,HB2,ae,af⟩
  case measure=>simp[intOf];omega
end
section
open Go.RowKit
open Sq
open Ar
def VI(R:List Nd)(B g:Nat)(w:World)(e:Ending)(w':World):Prop:=
 ∃u,e=.returned (.agg #[u])/\(∃L,L.map Ln.nd=R/\PT w' B u L)/\w.grownBy w' (some g)
theorem Bf(w:World)(o1 o2 o3:Obj):∃w1,((w.alloc o1).alloc o2).alloc o3=w1/\Below w.heap.size w w1/\w1.heap[w.heap.size]?=some o1/\w1.heap[w.heap.size+1]?=some o2/\w1.heap[w.heap.size+2]?=some o3:=by
 refine⟨_,rfl,gX (gX (fo w _) _) _,?_,?_,?_⟩
 ·exact(Df _ _ _ (by simp;omega)).trans ((Df _ _ _ (by simp)).trans (j5 _ _))
 ·have h:=j5 (w.alloc o1) o2;rw[size_alloc]at h;exact(Df _ _ _ (by simp)).trans h
 have h:=j5 ((w.alloc o1).alloc o2) o3;rw[size_alloc,size_alloc]at h;exact h
theorem P6(w:World)(z:Int):∀j c,(encI.all [z])[j]?=some c->(w.alloc (.cells #[.int .i64 z] 3)).drew.cell? ⟨w.heap.size,j,none⟩=some c:=by
 intro j c hj;show(w.alloc (.cells #[.int .i64 z] 3)).cell? ⟨w.heap.size,j,none⟩=some c;rw[vH]
 simpa [mr.all,encI]using hj
theorem full_of{w:World}{B:Nat}{p:Ln}(h:BZ w B p)(hf:p.c=p.n):Full encI w p.val p.nd.ks:=by
 have hn:=JU h.reads;exact⟨h.reads,p.a,by show Value.slice p.a p.n p.c=_;rw[hf,hn]⟩
theorem YK(g cap B N i:Nat)(L:List Ln)(kind f t:Int)(w:World)(h:PT w B (.slice (some ⟨g,0,none⟩) N cap) L)(hf:∀p∈L,p.c=p.n)(hn:L.length=N)(hN:N<=20000)(p:Ln)(hp:L[i]?=some p)(hpk:p.nd.ks.length<=20000):
 Calls prog 186 #[.agg #[.slice (some ⟨g,0,none⟩) N cap],.agg #[.int .i64 i,.int .i64 t,.int .i64 kind,.int .i64 f]] w
  (VI (((L.map Ln.nd)++[(⟨kind,f,t,(i:Int),[],false⟩:Nd)]).set i {p.nd with ks:=p.nd.ks++[(N:Int)]}) B g w):=by
 obtain⟨R,hR⟩:=fq (((L.map Ln.nd)++[(⟨kind,f,t,(i:Int),[],false⟩:Nd)]).set i {p.nd with ks:=p.nd.ks++[(N:Int)]});rw[hR];have HQ:=eZ (λu w'=>show((∃L,L.map Ln.nd=R/\PT w' B u L)/\w.grownBy w' (some g))->VI R B g w (.returned (.agg #[u])) w' from λh=>⟨u,rfl,h⟩);obtain⟨Q,hQ⟩:=fq (VI R B g w);rw[hQ]at HQ⊢;have hi:i<N:=by rw[<-hn];exact(gD.1 hp).1
 have hcap:=rY h.row;simp only[maxLen]at hcap;obtain⟨-,hc1,hc2⟩:=hcap;obtain⟨hgl,hgw⟩:B<=g/\g<w.heap.size:=h.row.lt g rfl
 obtain⟨w1,hw1,hb1,bT,bA,bR⟩:=Bf w (.cells #[.slice (some ⟨g,0,none⟩) N cap] 31) (.cells #[.int .i64 i,.int .i64 t,.int .i64 kind,.int .i64 f] 188) (.cells #[.slice none 0 0] 31);obtain⟨Bt,aG⟩:=fq (w.heap.size);obtain⟨Ba,hBa⟩:=fq (w.heap.size+1);obtain⟨Br,hBr⟩:=fq (w.heap.size+2);rw[aG]at bT;rw[hBa]at bA;rw[hBr]at bR;have ht1:Bt≠g:=by omega
 have ht2:Ba≠g:=by omega
 have ht3:Br≠g:=by omega
 have bY:B<=Bt:=by omega
 have aM:w.heap.size<=Bt:=by omega
 have aN:w.heap.size<=Br:=by omega
 have bZ:B<=Br:=by omega
 have bK:Bt≠Br:=by omega
 obtain⟨wx,hwx⟩:=fq ((w1.alloc (.cells #[.int .i64 (N:Int)] 3)).drew);have hbx:Below w1.heap.size w1 wx:=by rw[<-hwx];exact(fo w1 _).drew
 have hX:=(h.below hb1).below hbx;have hBw1:B<=w1.heap.size:=by have:=hb1.size;omega
 have aO:B<=wx.heap.size:=by have:=hbx.size;omega
 have hnew:=P6 w1 (N:Int);rw[hwx]at hnew;have hpm:=iK hp;have hfu:=full_of (hX.kids p hpm) (hf p hpm);obtain⟨aP,aQ,HX,aH⟩:=oN hfu hnew hX hwx;have aa:=eZ (show w.grownBy wx (some g)from Ec (qV hb1 (some g)) hbx);have xT:=(hbx.block Bt (il bT)).trans bT;have xA:=(hbx.block Ba (il bA)).trans bA;have xR:=(hbx.block Br (il bR)).trans bR;obtain⟨ah,ai,aj⟩:=jF xT xA xR;have c4:w1.cell? ⟨g,i*6+4,none⟩=some p.val:=by
  have:=(h.below hb1).row.cells (g:=g) rfl _ _ ((iO gP L i p hp 4 (by decide)).trans rfl);rw[gQ,kU]at this;exact this
 obtain⟨a4,bL,hv4⟩:=hfu.1.shape;obtain⟨n4,ak⟩:=fq (p.nd.ks.length);have hm1:n4+1<=maxLen:=by simp only[maxLen];omega
 have hm2:(n4+1)*8<=140737488355328:=by omega
 have bM:=eZ (show p.nd.ks.length+1<=maxLen by rw[ak];exact hm1);have bN:=eZ (show(p.nd.ks.length+1)*8<=140737488355328 by rw[ak];exact hm2);rw[ak]at hv4;have cr:=eZ hv4;rw[hv4]at c4 aP;have ct:=iF bT;have aR:=λo=>gI (o:=o) c4
 have aS:=λo=>gI (o:=o) ct
 have aT:=gG bA 0;obtain⟨HP,HN,HR,HW1,aU,aV⟩:=kJ hp hn hR hw1 aG hBa;have aW:=eZ hBr;have hii:(i:Int)<(N:Int):=by omega
 clear h hf hn hp hpk hR hQ hw1 hb1 bT bA bR aG hBa hBr hX hbx hnew hpm hfu hwx xT xA xR hv4 ak hm1 hm2
 go_enter func186,ntmps186
 go_upto_region 1 with fail
 rw[HW1.out,aW.out,aV.out,aU.out];clear HW1 aW aV aU;go_upto_region 2 with fail
 go_cut [] (λwz=>∃L3,Hid (PT wz B (.slice (some ⟨g,0,none⟩) N cap) L3)/\Hid (L3.map Ln.nd++[(⟨kind,f,t,(i:Int),[],false⟩:Nd)]=R)/\Hid (L3.length=N)/\Hid (wz.heap[Bt]?=some (.cells #[.slice (some ⟨g,0,none⟩) N cap] 31 (0,0)))/\Hid (wz.heap[Ba]?=some (.cells #[.int .i64 i,.int .i64 t,.int .i64 kind,.int .i64 f] 188 (0,0)))/\Hid (wz.heap[Br]?=some (.cells #[.slice none 0 0] 31 (0,0)))/\Hid (w.grownBy wz (some g)))
 case first=>
  go_region_law ((refine yz Ra rfl (.tmp 16) (.tmp 20) rfl (.slice a4 n4 bL) p.nd.ks rfl (by rw[aH.out];exact aP.out) w1.heap.size 1 [(N:Int)] rfl (by decide) rfl (by rw[aH.out];exact aQ.out) bM.out bN.out ?_;rw[aH.out];intro v2 w2 hown2 hg2;obtain⟨a2,c2,hv2⟩:=(Reads.fJ (E:=encI) hown2).shape;obtain⟨n2,hn2⟩:∃n2,(p.nd.ks++[(N:Int)]).length=n2:=⟨_,rfl⟩;rw[hn2]at hv2;clear hn2;subst hv2;have aX:=eZ hown2;have av:=eZ (HX.out.keep (HX.out.row.kept hg2 (.inr (by simp[Value.ownBlock]))) (A9 hg2));have aY:=eZ ((hg2.block Bt (il ah.out) (λe=>by cases e)).trans ah.out);have aZ:=eZ ((hg2.block Ba (il ai.out) (λe=>by cases e)).trans ai.out);have bf:=eZ ((hg2.block Br (il aj.out) (λe=>by cases e)).trans aj.out);have HB2:=eZ (aa.out.trans (Wu hg2 (some g)));have d4:w2.cell? ⟨g,i*6+4,none⟩=some p.val:=(by have h5:=av.out.row.cells (g:=g) rfl _ _ ((iO gP L i p HP.out 4 (by decide)).trans rfl);rw[gQ,kU]at h5;exact h5);obtain⟨gx,cz,bg,-,hfx,-,-⟩:=jM (E:=gP) av.out.row (by rw[HN.out];omega);have ex:=(ll bg).1;injection ex with ex;injection ex with ex;have bO:w2.frozen? ⟨g,i*6+4,none⟩=false:=(by rw[ex];exact hfx _);clear hown2 hg2 bg hfx ex))
  all_goals
   obtain⟨p',hp'⟩:∃p':Ln,(⟨{p.nd with ks:=p.nd.ks++[(N:Int)]},a2,n2,c2⟩:Ln)=p':=⟨_,rfl⟩
   have aA:BZ w2 B p':=by
    rw[<-hp'];exact BZ.own (x:={p.nd with ks:=p.nd.ks++[(N:Int)]}) (lq aX.out aO)
   have hp3:=av.out.set i 4 p p' (.slice a2 n2 c2) HP.out (by rw[<-hp'];rfl) (by decide) aA;have hL3:(L.set i p').map Ln.nd++[(⟨kind,f,t,(i:Int),[],false⟩:Nd)]=R:=by
    rw[<-HR.out,EO,<-hp',RA _ _ (by rw[jD,HN.out];exact hi)]
   have aI:(L.set i p').length=N:=by rw[lT];exact HN.out
   obtain⟨L3,aB⟩:=fq (L.set i p');rw[aB]at hp3 hL3 aI;obtain⟨w3,hw3⟩:=fq (w2.setCell ⟨g,i*6+4,none⟩ (.slice a2 n2 c2));have bn:w3.heap[Bt]?=some (.cells #[.slice (some ⟨g,0,none⟩) N cap] 31 (0,0)):=by rw[<-hw3,jf _ _ _ _ ht1];exact aY.out
   have bq:w3.heap[Ba]?=some (.cells #[.int .i64 i,.int .i64 t,.int .i64 kind,.int .i64 f] 188 (0,0)):=by rw[<-hw3,jf _ _ _ _ ht2];exact aZ.out
   have bz:w3.heap[Br]?=some (.cells #[.slice none 0 0] 31 (0,0)):=by rw[<-hw3,jf _ _ _ _ ht3];exact bf.out
   have HB3:=eZ (DF HB2.out (.inl rfl) (i*6+4) (.slice a2 n2 c2));rw[hw3]at hp3 HB3;obtain⟨HT3,af,HR3,ax,aJ,ay⟩:=kJ bn bq bz hp3 hL3 aI;clear hp' aA hp3 hL3 aI aB d4 bO aY aZ bf av aX bn bq bz HX ah ai aj aa HB2 c4 ct aT aR aS;rw[hw3];clear hw3;go_wp2_with fail
   go_meet
   exact⟨L3,ax,aJ,ay,HT3,af,HR3,HB3⟩
 case rest=>
 obtain⟨L3,ax,aJ,ay,HT3,af,HR3,HB3⟩:=hcut
 rename World=>w3
 clear HX ah ai aj aa c4 ct aT aR aS;have bP:=iF HT3.out;have bB:=gG af.out 0;have bC:=gG af.out 1;have bD:=gG af.out 2;have bE:=gG af.out 3;have hs3:B<=w3.heap.size:=by have h1:=il HT3.out;omega
 have bQ:=eZ (show L3.length+1<=maxLen by rw[ay.out];simp only[maxLen];omega);have HL2:=eZ (show(L3.length+1)*64<=140737488355328 by rw[ay.out];omega);have bF:=eZ (show w3.ownsRow B 38 gP.k (.slice (some ⟨g,0,none⟩) N cap) L3.length (gP.all L3)from ax.out.row);have aC:=eZ (λo=>ax.out.below (fo w3 o));have aD:=eZ (λo=>(Df w3 o Bt (il HT3.out)).trans HT3.out);have aF:=eZ (λo=>(Df w3 o Br (il HR3.out)).trans HR3.out);have bG:=eZ (λo=>Ec HB3.out (fo w3 o));go_upto_region 4 with(at_builtin;go_must (refine vQ Hl rfl (.tmp 25) (.tmp 37) rfl B _ L3 (⟨⟨kind,f,t,(i:Int),[],false⟩,none,0,0⟩:Ln) _ rfl rfl bF.out rfl bQ.out HL2.out hs3 ?_;intro v4 w4 ae hg4;obtain⟨a5,k5,hv4⟩:=(Reads.fJ (E:=gP) ae).shape;obtain⟨M5,bH⟩:∃M5,(L3++[(⟨⟨kind,f,t,(i:Int),[],false⟩,none,0,0⟩:Ln)]).length=M5:=⟨_,rfl⟩;rw[bH]at hv4;clear bH;subst hv4;have bS:=eZ ((aC.out _).push (BZ.nil _ _ ⟨kind,f,t,(i:Int),[],false⟩ rfl) (uy (aC.out _).row hg4) ae);have az:=eZ ((hg4.block Bt (il (aD.out _)) (λe=>ht1 (jl e))).trans (aD.out _));have HR4:=eZ ((hg4.block Br (il (aF.out _)) (λe=>ht3 (jl e))).trans (aF.out _));have bU:=eZ ((bG.out _).trans hg4);have bV:=iF az.out;have bW:=wD az.out;clear ae hg4))
 have bI:=eZ (bS.out.box az.out (by decide) (by decide) 0 (.slice a5 M5 k5));have bJ:=eZ (DF (b:=Bt) bU.out (.inr aM) 0 (.slice a5 M5 k5));have aK:=Ic (u:=.slice a5 M5 k5) az.out;have ag:=(jf w4 ⟨Bt,0,none⟩ (.slice a5 M5 k5) Br (λe=>bK e.symm)).trans HR4.out;obtain⟨w5,aL⟩:=fq (w4.setCell ⟨Bt,0,none⟩ (.slice a5 M5 k5));rw[aL]at bI bJ aK ag;rw[aL];have cB:=iF aK;have bX:=iF ag;have cK:=wD ag;have HD:=eZ (HQ.out (.slice a5 M5 k5) (w5.setCell ⟨Br,0,none⟩ (.slice a5 M5 k5)) ⟨⟨_,by rw[wy];exact aJ.out,bI.out.box ag (by decide) (by decide) 0 _⟩,DF (b:=Br) bJ.out (.inr aN) 0 _⟩);clear aL aK ag bP bB bC bD bE bV bW;go_wp2_with fail
 refine pW (v:=.agg #[.slice a5 M5 k5]) ?_ rfl HD.out;simp[results,results186,go_sem,bX,gU]
end
section
open Go.RowKit
open Sq
open Ar
inductive Ch where
 |none
 |grow (i:Nat) (t:Int)
 |add (i:Nat) (kind f t:Int)
def Ch.n:Ch->Nat
 | .none=>0
 | .grow _ _=>1
 | .add _ _ _ _=>1
def Ch.cell:Ch->Value
 | .none=>.nilIface
 | .grow i t=>.iface 186 (.agg #[.int .i64 i,.int .i64 t])
 | .add i kind f t=>.iface 188 (.agg #[.int .i64 i,.int .i64 t,.int .i64 kind,.int .i64 f])
def EY(l:List Nd)(i:Nat)(kind f t:Int)(p:Nd):List Nd:=(l++[(⟨kind,f,t,(i:Int),[],false⟩:Nd)]).set i {p with ks:=p.ks++[(l.length:Int)]}
def Ch.res(l:List Nd):Ch->List Nd
 | .none=>l
 | .grow i t=>iG l i t
 | .add i kind f t=>match l[i]? with
  |some p=>iG (EY l i kind f t p) i t
  |Option.none=>l
def Ch.ok(l:List Nd):Ch->Prop
 | .none=>True
 | .grow i t=>i<l.length
 | .add i kind f t=>∃p,l[i]?=some p/\p.f<=t
theorem Jc(v:Value)(w:World):(Instr.typeAssert (.iface 188 v) 20 188 true).run prog w=.ok (.tuple #[v,.bool true]) w:=by kernel_rfl
theorem Ex(v:Value)(w:World):(Instr.typeAssert (.iface 186 v) 20 188 true).run prog w=.ok (.tuple #[.agg #[.int .i64 0,.int .i64 0,.int .i64 0,.int .i64 0],.bool false]) w:=by kernel_rfl
theorem yQ(v:Value)(w:World):(Instr.typeAssert (.iface 186 v) 20 186 false).run prog w=.ok v w:=by kernel_rfl
def zR(R:List Nd)(w:World)(e:Ending)(w':World):Prop:=
 ∃u,e=.returned (.agg #[u])/\iM w' u R/\(∃L,L.map Ln.nd=R/\PT w' w.heap.size u L)/\Below w.heap.size w w'
theorem FX(ch:Ch)(v:Value)(l:List Nd)(ca:Option Addr)(cc:Nat)(w:World)(h:iM w v l)(hG:Ar.eu l)(hs:l.length<=9000)(hk:∀x∈l,x.ks.length<=9000)(ho:ch.ok l)
 (hc:∀k,k<ch.n->∃cb,ca=some ⟨cb,0,none⟩/\w.cell? ⟨cb,k,none⟩=some ch.cell):
 Calls prog 177 #[.agg #[v],.slice ca ch.n cc] w (zR (ch.res l) w):=by
 obtain⟨a,cap,rfl⟩:=h.shape;obtain⟨R,hR⟩:=fq (ch.res l);obtain⟨M,hM⟩:=fq (ch.n);have hM1:M<=1:=by
  rw[<-hM];cases ch<;>simp[Ch.n]
 have hR0:M=0->l=R:=λe=>by
  rw[<-hR];cases ch with
  |none=>rfl
  |grow i t=>rw[<-hM]at e;simp[Ch.n]at e
  |add i kind f t=>rw[<-hM]at e;simp[Ch.n]at e
 rw[hR,hM];rw[hM]at hc;have HQ:=eZ (λu w'=>show(iM w' u R/\(∃L,L.map Ln.nd=R/\PT w' w.heap.size u L)/\Below w.heap.size w w')->zR R w (.returned (.agg #[u])) w' from λh=>⟨u,rfl,h⟩);obtain⟨Q,hQ⟩:=fq (zR R w);rw[hQ]at HQ⊢;have hpos:=hG.pos;have az:=eZ (λW (hb:Below w.heap.size w W)=>TA _ l M W (h.below hb) (by omega) (λx hx=>jU (hk x hx) (by omega)) (by omega));have bK:=eZ hk;obtain⟨N,hN⟩:=fq (l.length);rw[hN]at hs hpos az⊢;have HN:=eZ hN;obtain⟨w1,hw1⟩:=fq ((w.alloc (.cells #[.slice a N cap] 31)).alloc (.cells #[.slice none 0 0] 31));obtain⟨Bt,aA⟩:=fq (w.heap.size);obtain⟨Br,hBr⟩:=fq (w.heap.size+1);have hb1:=gX (fo w (.cells #[.slice a N cap] 31)) (.cells #[.slice none 0 0] 31);have ct:w1.cell? ⟨Bt,0,none⟩=some (.slice a N cap):=by rw[<-hw1,<-aA];exact gI (at_new rfl)
 have cr:EI w1 Br 0 (.slice none 0 0):=by
  rw[<-hw1,<-hBr];have h:=qh (W:=w.alloc (.cells #[.slice a N cap] 31)) (C:=#[.slice none 0 0]) (t:=31) (k:=0) rfl;rw[size_alloc]at h;exact h
 rw[hw1]at hb1;obtain⟨B,hB⟩:=fq (w1.heap.size);have hlr:Br<B:=by rw[<-hB];exact lt_of_cell cr.1
 have hwr:w.heap.size<=Br:=by omega
 have aL:w.heap.size<=B:=by omega
 have bL:=eZ (λW (hb:Below B w1 W)=>show EI W Br 0 (.slice none 0 0)from⟨by rw[hb.cell (p:=⟨Br,0,none⟩) hlr];exact cr.1,by rw[hb.frozen (p:=⟨Br,0,none⟩) hlr];exact cr.2⟩);have bM:=eZ aL;have ay:=eZ (λW (hb:Below B w1 W)=>show Below w.heap.size w W from hb1.trans (hb.mono aL));obtain⟨aM,HG,bN,bO,HM,HR⟩:=kJ (az.out w1 hb1) hG ho hc hM hR;obtain⟨bP,HW1,aN,aO,HB⟩:=sP hR0 hw1 aA hBr hB;clear h hG hk ho hc hR hM hR0 hQ hN hw1 aA hBr hb1 cr hB az
 go_enter func177,ntmps177
 go_upto_region 1 with fail
 rw[HW1.out,aO.out,aN.out];clear HW1 aO aN;go_wp2_with fail
 refine aM.out.mono ?_;rintro e w2 ⟨u,rfl,⟨L,hL,hP,hF⟩,hb2⟩;rw[HB.out]at hP hb2;obtain⟨Bn,ak⟩:=fq (w2.heap.size);have hln:L.length=N:=by rw[<-HN.out,<-hL,jD]
 obtain⟨g,cp,hu,-,-,-,-⟩:=jM (E:=gP) hP.row (by omega);rw[hln]at hu;subst hu;obtain⟨w3,hw3⟩:=fq (w2.alloc (.cells #[.slice (some ⟨g,0,none⟩) N cp] 31));have bQ:B<=Bn:=by rw[<-ak,<-HB.out];exact hb2.size
 have hP3:=hP.below (fo w2 (.cells #[.slice (some ⟨g,0,none⟩) N cp] 31));have hb3:Below B w1 w3:=by rw[<-hw3];exact hb2.alloc (by omega) _
 have Xp:w3.heap[Bn]?=some (.cells #[.slice (some ⟨g,0,none⟩) N cp] 31 (0,0)):=by rw[<-hw3,<-ak];exact j5 _ _
 rw[hw3]at hP3;have aP:=eZ hP3;have aQ:=eZ (show L.map Ln.nd=l/\∀p∈L,p.c=p.n from⟨hL,hF⟩);obtain⟨HB3,aR,HW3,aS⟩:=oN hb3 Xp hw3 ak;clear hL hP hF hb2 ak hln hw3 hP3 hb3 Xp aM;go_upto_region 2 with fail
 rw[HW3.out,aS.out];clear HW3 aS ct;go_wp2_with fail
 go_loopw [16] (λiv wr=>∃(k:Nat)(nv:Value)(L:List Ln),iv=.int .i64 k/\k<=M/\Hid (PT wr B nv L)/\Hid (k=0->L.map Ln.nd=l/\∀p∈L,p.c=p.n)/\Hid (k=1->L.map Ln.nd=R)/\Hid (wr.heap[Bn]?=some (.cells #[nv] 31 (0,0)))/\Hid (Below B w1 wr)) (λiv _=>M-(intOf iv).toNat)
 case atStart=>exact⟨0,_,L,rfl,ic _,aP,eZ (λ_=>aQ.out),eZ (λe=>by cases e),aR,HB3⟩
 case round=>
  clear aP aQ aR HB3 L;obtain⟨k,nv,L,rfl,bR,HP,aB,aT,HX,ae⟩:=hrel;by_cases hlt:k<M
  ·obtain rfl:k=0:=by omega
   obtain rfl:M=1:=by omega
   obtain⟨cb,rfl,hcb⟩:=bO.out 0 (by decide);have c0:=fu (ay.out wr ae.out) hcb;obtain⟨hL,hF⟩:=aB.out rfl;have hln:L.length=N:=by rw[<-HN.out,<-hL,jD]
   obtain⟨g,cp,hu,hBg,-,-,-⟩:=jM (E:=gP) HP.out.row (by omega);rw[hln]at hu;subst hu;have hne:Bn≠g:=λe=>by
    obtain⟨cs,fr,e2⟩:=qi HP.out.row (g:=g) rfl;exact lg HX.out e2 (by decide) e
   have bx:=iF HX.out;obtain⟨HL,HF,aC⟩:=jF hL hF hln;have hBw:B<=wr.heap.size:=by have:=il HX.out;omega
   have hm:=HM.out;have hok:=bN.out;have hr:=HR.out;clear hcb hL hF hln aB aT hlt bR;cases ch with
   |none=>exact absurd hm (by decide)
   |grow i t=>
    have hok:i<l.length:=hok
    rw[HN.out]at hok;have aD:=eZ (show iG l i t=R from hr);have c1:wr.cell? ⟨cb,0,none⟩=some (.iface 186 (.agg #[.int .i64 i,.int .i64 t])):=c0;have h1:=Ex (.agg #[.int .i64 i,.int .i64 t]);have h2:=yQ (.agg #[.int .i64 i,.int .i64 t]);obtain⟨w4,hw4⟩:=fq (wr.alloc (.cells #[.int .i64 0,.int .i64 0,.int .i64 0,.int .i64 0] 188));have hb4:Below wr.heap.size wr w4:=by rw[<-hw4];exact fo wr _
    have Dk:=(hb4.block Bn (il HX.out)).trans HX.out;have aF:=iF Dk;have af:=eZ Dk;have bS:=eZ ((HP.out.below hb4).drew);have aG:=eZ ((ae.out.trans (hb4.mono hBw)).drew);have ag:B<=w4.drew.heap.size:=by have:=hb4.size;show B<=w4.heap.size;omega
    have ah:=eZ hw4;clear hm hr c0 hw4 hb4 Dk;go_upto_region 9 with fail
    rw[ah.out];clear ah bx c1;refine iA 3 (by kernel_rfl) (by kernel_rfl) ?_;simp only[uA,vG,wh,lQ]
    repeat (go_big_quiet_step (fail))
    refine EX ?_;have hre:=Ot g cp B N L i t w4.drew bS.out aC.out (by rw[HL.out];exact HG.out) (by omega) (by omega);rw[HL.out,aD.out]at hre;have aH:=eZ hre;clear hre h1 h2;go_wp2_with fail
    refine aH.out.mono ?_;rintro e w5 ⟨rfl,⟨L2,hL2,hP2⟩,hg5⟩;have aU:=eZ ((hg5.block Bn (il af.out) (λe=>hne (jl e))).trans af.out);have aV:=eZ (aG.out.trans (Iw hg5 hBg ag));obtain⟨aW,aX⟩:=fT hP2 hL2;clear hL2 hP2 hg5 aF;go_wp2_with fail
    go_roundw
    case rel=>
     first
      |exact⟨1,_,L2,by go_num,by omega,aW,eZ (λe=>absurd e (by decide)),eZ (λ_=>aX.out),aU,aV⟩
      |((repeat apply Exists.intro);exact⟨⟨1,_,L2,by go_num,by omega,aW,eZ (λe=>absurd e (by decide)),eZ (λ_=>aX.out),aU,aV⟩,rfl⟩)
    case measure=>simp[intOf]
   |add i kind f t=>
    obtain⟨p,hp,bT⟩:=hok;have hi:=(gD.1 hp).1;rw[HN.out]at hi;have hr2:iG (EY l i kind f t p) i t=R:=by rw[<-hr];simp only[Ch.res,hp]
    have aY:Ar.eu (EY l i kind f t p):=by
     have:=wS HG.out (i:Int) kind f t p (by omega) (by rw[jk];exact hp) bT;rw[jk]at this;exact this
    have hpl:(EY l i kind f t p).length=N+1:=by unfold EY;rw[lT,iJ,HN.out];rfl
    obtain⟨pl,ai⟩:=jB L i (by rw[aC.out];exact hi);have hpn:pl.nd=p:=by
     have h1:(L.map Ln.nd)[i]?=some pl.nd:=by rw[lS,ai];rfl
     rw[HL.out,hp]at h1;exact(jl h1).symm
    have hkp:=bK.out p (iK hp);obtain⟨aD,bU,bV⟩:=jF hr2 aY hpl;have c1:wr.cell? ⟨cb,0,none⟩=some (.iface 188 (.agg #[.int .i64 i,.int .i64 t,.int .i64 kind,.int .i64 f])):=c0;have h1:=Jc (.agg #[.int .i64 i,.int .i64 t,.int .i64 kind,.int .i64 f]);have h2:=yQ (.agg #[.int .i64 i,.int .i64 t]);obtain⟨Ba,hBa⟩:=fq (wr.heap.size);obtain⟨w4,hw4⟩:=fq (wr.alloc (.cells #[.int .i64 i,.int .i64 t,.int .i64 kind,.int .i64 f] 188));have hb4:Below wr.heap.size wr w4:=by rw[<-hw4];exact fo wr _
    have aa:w4.heap[Ba]?=some (.cells #[.int .i64 i,.int .i64 t,.int .i64 kind,.int .i64 f] 188 (0,0)):=by rw[<-hw4,<-hBa];exact j5 _ _
    have Dk:=(hb4.block Bn (il HX.out)).trans HX.out;have hne2:Ba≠Bn:=by have:=il HX.out;omega
    have aZ:Ba≠g:=by have:=(HP.out.row.lt g rfl).2;omega
    have aF:=iF Dk;have a40:=gG aa 0;have a41:=gG aa 1;have a42:=gG aa 2;have a43:=gG aa 3;have aI:=YK g cp B N i L kind f t w4 (HP.out.below hb4) HF.out aC.out (by omega) pl ai (by rw[hpn];omega);have eR:((L.map Ln.nd)++[(⟨kind,f,t,(i:Int),[],false⟩:Nd)]).set i {pl.nd with ks:=pl.nd.ks++[(N:Int)]}=EY l i kind f t p:=by unfold EY;rw[HL.out,hpn,HN.out]
    rw[eR]at aI;obtain⟨bW,af,bf⟩:=jF aI Dk aa;have aG:=eZ (ae.out.trans (hb4.mono hBw));have ag:B<=w4.heap.size:=by have:=hb4.size;omega
    obtain⟨ah,bg⟩:=fT hw4 hBa;clear hm hr hr2 aY hpl ai hpn hkp hp c0 hw4 hb4 Dk aa aI eR hBa;go_upto_region 6 with fail
    rw[ah.out,bg.out];clear ah bg bx c1;go_wp2_with fail
    refine bW.out.mono ?_;rintro e w5 ⟨u2,rfl,⟨L2,hL2,hP2⟩,hg5⟩;have aj:L2.length=N+1:=by rw[<-bV.out,<-hL2,jD]
    obtain⟨g2,cp2,hu2,bn,-,-,-⟩:=jM (E:=gP) hP2.row (by omega);rw[aj]at hu2;subst hu2;have MR:=(hg5.block Bn (il af.out) (λe=>hne (jl e))).trans af.out;have bq:=(hg5.block Ba (il bf.out) (λe=>aZ (jl e))).trans bf.out;have bX:=iF MR;have bY:=wD MR;obtain⟨w6,aJ⟩:=fq (w5.setCell ⟨Bn,0,none⟩ (.slice (some ⟨g2,0,none⟩) (N+1) cp2));have av:=hP2.box MR (by decide) (by decide) 0 (.slice (some ⟨g2,0,none⟩) (N+1) cp2);have Q7:=Ic (u:=.slice (some ⟨g2,0,none⟩) (N+1) cp2) MR;have ax:=(jf w5 ⟨Bn,0,none⟩ (.slice (some ⟨g2,0,none⟩) (N+1) cp2) Ba hne2).trans bq;have hb6:=(aG.out.trans (Iw hg5 hBg ag)).setCell (p:=⟨Bn,0,none⟩) bQ (.slice (some ⟨g2,0,none⟩) (N+1) cp2);rw[aJ]at av Q7 ax hb6;have bZ:=iF Q7;have a60:=gG ax 0;have a61:=gG ax 1;have bz:Bn≠g2:=λe=>by
     obtain⟨cs,fr,e2⟩:=qi av.row (g:=g2) rfl;exact lg Q7 e2 (by decide) e
    obtain⟨bA,cz,cB,bB,bC⟩:=sP Q7 av.drew hb6.drew hL2 aj;have bD:B<=w6.drew.heap.size:=by have:=il Q7;show B<=w6.heap.size;omega
    have bE:=eZ aJ;clear hL2 hP2 hg5 aj MR bq aJ av Q7 ax hb6 aF a40 a41 a42 a43;go_upto_region 8 with fail
    rw[bE.out];clear bE bX bY;go_upto_region 9 with fail
    refine iA 3 (by kernel_rfl) (by kernel_rfl) ?_;simp only[uA,vG,wh,lQ]
    repeat (go_big_quiet_step (fail))
    refine EX ?_;have hre:=Ot g2 cp2 B (N+1) L2 i t w6.drew cz.out bC.out (by rw[bB.out];exact bU.out) (by omega) (by omega);rw[bB.out,aD.out]at hre;have aH:=eZ hre;clear hre h1 h2 a60 a61;go_wp2_with fail
    refine aH.out.mono ?_;rintro e w7 ⟨rfl,⟨L7,hL7,bF⟩,aK⟩;have bG:=eZ ((aK.block Bn (il bA.out) (λe=>bz (jl e))).trans bA.out);have bH:=eZ (cB.out.trans (Iw aK bn bD));obtain⟨bI,bJ⟩:=fT bF hL7;clear hL7 bF aK bZ;go_wp2_with fail
    go_roundw
    case rel=>
     first
      |exact⟨1,_,L7,by go_num,by omega,bI,eZ (λe=>absurd e (by decide)),eZ (λ_=>bJ.out),bG,bH⟩
      |((repeat apply Exists.intro);exact⟨⟨1,_,L7,by go_num,by omega,bI,eZ (λe=>absurd e (by decide)),eZ (λ_=>bJ.out),bG,bH⟩,rfl⟩)
    case measure=>simp[intOf]
  obtain rfl:k=M:=by omega
  have hii:¬((k:Int)<(k:Int)):=by omega
  have hL:L.map Ln.nd=R:=by
   rcases uB k with e|e
   ·rw[(aB.out e).1];exact bP.out e
   exact aT.out (by omega)
  obtain⟨na,nc,cK⟩:=(Reads.fJ (E:=gP) HP.out.row).shape;subst cK;have bx:=iF HX.out;have cr:=bL.out wr ae.out;have cO:=cr.1;have cZ:=cr.2;have HD:=eZ (HQ.out (.slice na L.length nc) (wr.setCell ⟨Br,0,none⟩ (.slice na L.length nc)) ⟨by rw[<-hL];exact(HP.out.vN hlr _).nodes,⟨L,hL,(HP.out.vN hlr _).base bM.out⟩,(ay.out wr ae.out).setCell (p:=⟨Br,0,none⟩) hwr _⟩);obtain⟨ln,hln⟩:=fq (L.length);rw[hln]at bx HD;clear hL hlt cr hln;go_wp2_with fail
  refine pW (v:=.agg #[.slice na ln nc]) ?_ rfl HD.out;simp[results,results177,go_sem,cO,gU]
end
end Go.Proofs.YtmkkdjpebbdikaaGreatDoor

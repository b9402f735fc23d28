import Derived.Test.YtmkkdjpebbdikaaGreatDoorZb13
import Derived.Test.YtmkkdjpebbdikaaGreatDoorZb14
import Derived.BigRegion
set_option linter.all false
set_option maxHeartbeats 16000000
set_option maxRecDepth 100000
namespace Go.Proofs.YtmkkdjpebbdikaaGreatDoor
open Go.RowKit Tryz
def X7:=@wp_region_held_drew
section
open Go.RowKit
open Sg
open Sq
structure EM(w:World)(Br Be Bs Bw Ba:Nat)(F:Nat)(ev:Value)(es:List Rw.E)(rest:Int)(rowv:Value)(p:Nat):Prop where
 r1:w.cell? ⟨Br,1,none⟩=some (.int .i64 F)
 e:w.heap[Be]?=some (.cells #[ev] 93 (0,0))
 s:w.heap[Bs]?=some (.cells #[.int .i64 rest] 3 (0,0))
 row:w.heap[Bw]?=some (.cells #[rowv] 28 (0,0))
 at':w.heap[Ba]?=some (.cells #[.int .i64 p] 3 (0,0))
 own:w.ownsRow (Ba+1) 97 4 ev es.length (uK.all es)
 ord:Br<Be/\Be<Bs/\Bs<Bw/\Bw<Ba
structure EV(w:World)(Br Be Bs Bw Ba:Nat)(F:Nat)(ev:Value)(rest:Int)(rowv:Value)(p:Nat):Prop where
 r1:w.cell? ⟨Br,1,none⟩=some (.int .i64 F)
 e:w.heap[Be]?=some (.cells #[ev] 93 (0,0))
 s:w.heap[Bs]?=some (.cells #[.int .i64 rest] 3 (0,0))
 row:w.heap[Bw]?=some (.cells #[rowv] 28 (0,0))
 at':w.heap[Ba]?=some (.cells #[.int .i64 p] 3 (0,0))
theorem RD{w w':World}{o:Obj}{r:Option Nat}(h:(w.alloc o).grownBy w' r):w.grownBy w' r:=
 ⟨h.os,h.tape,h.output,iU eG h.size,λk hk hne=>(h.block k eQ hne).trans (I1 _ _ _ hk)⟩
section
variable {w w':World}{Br Be Bs Bw Ba F p:Nat}{ev rowv:Value}{es:List Rw.E}{rest:Int}
theorem EM.below(h:EM w Br Be Bs Bw Ba F ev es rest rowv p)(hb:Below w.heap.size w w'):EM w' Br Be Bs Bw Ba F ev es rest rowv p:=
 ⟨eB hb h.r1,(hb.block _ (gK h.e)).trans h.e,(hb.block _ (gK h.s)).trans h.s,(hb.block _ (gK h.row)).trans h.row,(hb.block _ (gK h.at')).trans h.at',eZ h.own hb,h.ord⟩
theorem mK{b b2 o:Nat}{u:Value}{x:Obj}(h:w.heap[b]?=some x)(hne:b≠b2):(w.setCell ⟨b2,o,none⟩ u).heap[b]?=some x:=(jo _ _ _ _ hne).trans h
theorem Aw{base e size n B:Nat}{v:Value}{xs:List Value}(h:w.ownsRow base e size v n xs)(hB:B<base):v.ownBlock≠some B:=λe=>by have:=(h.lt _ e).1;omega
theorem EM.nU(h:EM w Br Be Bs Bw Ba F ev es rest rowv p)(u:Int):EM (w.setCell ⟨Bs,0,none⟩ (.int .i64 u)) Br Be Bs Bw Ba F ev es u rowv p:=by
 have ho:=h.ord;exact⟨mQ dS h.r1,mK h.e dS,Pj h.s,mK h.row dS,mK h.at' dS,Pk h.own (a:=⟨Bs,0,none⟩) (by show Bs<_;omega) _,ho⟩
theorem EM.alY(h:EM w Br Be Bs Bw Ba F ev es rest rowv p)(u:Nat):EM (w.setCell ⟨Ba,0,none⟩ (.int .i64 u)) Br Be Bs Bw Ba F ev es rest rowv u:=by
 have ho:=h.ord;exact⟨mQ dS h.r1,mK h.e dS,mK h.s dS,mK h.row dS,Pj h.at',Pk h.own (a:=⟨Ba,0,none⟩) (by show Ba<_;omega) _,ho⟩
theorem EM.grown(h:EM w Br Be Bs Bw Ba F ev es rest rowv p)(hg:w.grownBy w' ev.ownBlock):EV w' Br Be Bs Bw Ba F ev rest rowv p:=by
 have ho:=h.ord;have hn:∀B,B<Ba+1->some B≠ev.ownBlock:=λB hB e=>Aw h.own hB e.symm
 exact⟨hg.cell h.r1 (hn Br dS),(hg.block Be (gK h.e) (hn Be dS)).trans h.e,(hg.block Bs (gK h.s) (hn Bs dS)).trans h.s,(hg.block Bw (gK h.row) (hn Bw dS)).trans h.row,(hg.block Ba (gK h.at') (hn Ba dS)).trans h.at'⟩
theorem EM.alM(h:EM w Br Be Bs Bw Ba F ev es rest rowv p){aa:Value}{es2:List Rw.E}(hg:w.grownBy w' ev.ownBlock)(hown:w'.ownsRow (Ba+1) 97 4 aa es2.length (uK.all es2)):EM (w'.setCell ⟨Be,0,none⟩ aa) Br Be Bs Bw Ba F aa es2 rest rowv p:=by
 have ho:=h.ord;have hn:∀B,B<Ba+1->some B≠ev.ownBlock:=λB hB e=>Aw h.own hB e.symm
 have he:=(hg.block Be (gK h.e) (hn Be dS)).trans h.e;exact⟨mQ dS (hg.cell h.r1 (hn Br dS)),Pj he,mK ((hg.block Bs (gK h.s) (hn Bs dS)).trans h.s) dS,mK ((hg.block Bw (gK h.row) (hn Bw dS)).trans h.row) dS,mK ((hg.block Ba (gK h.at') (hn Ba dS)).trans h.at') dS,Pk hown (a:=⟨Be,0,none⟩) (by show Be<_;omega) _,ho⟩
end
theorem ae3(W:World)(x:Rw.E)(cs:List Value)(t:TypeId)(h:uK.cells x=cs):∀j c,(uK.all [x])[j]?=some c->(W.alloc (.cells cs.toArray t)).cell? ⟨W.heap.size,j,none⟩=some c:=by
 intro j c hj;rw[yJ,<-h];have ea:uK.all [x]=uK.cells x:=by rw[mW.all,mW.all,nJ]
 rw[ea]at hj
 simpa using hj
def KP(Br Be Bs Bw Ba F:Nat)(es:List Rw.E)(x:Rw.E)(rest:Int)(rowv:Value)(p:Nat)(w:World)(e:Ending)(w':World):Prop:=
 e=.returned (.tuple #[])/\(∃ev,EM w' Br Be Bs Bw Ba F ev (es++[x]) rest rowv p)/\Below Br w w'
theorem abx(dash:Bool)(tq:Nat)(Br Be Bs Bw Ba F p:Nat)(ev rowv:Value)(es:List Rw.E)(rest:Int)(ts:List Tk)(w:World)(hM:EM w Br Be Bs Bw Ba F ev es rest rowv p)(hR:∀W,Below Br w W->Reads iQ W rowv ts)(hs:ts.length<=100000)(hf:∀x∈ts,x.2.1<=1000000)(hp:p<=ts.length)(hto:tq<=ts.length)(hF:F<=100000)(hes:es.length<=100000):
 Calls prog 98 #[.bool dash,.int .i64 tq,.pointer (some ⟨Br,0,none⟩),.pointer (some ⟨Bs,0,none⟩),.pointer (some ⟨Be,0,none⟩),.pointer (some ⟨Bw,0,none⟩),.pointer (some ⟨Ba,0,none⟩)] w
  (KP Br Be Bs Bw Ba F es ⟨dash,Rw.qJ ts p,F+p,F+tq⟩ (F+tq:Nat) rowv (tq+Rw.blanks (ts.drop tq)) w):=by
 have ho:=hM.ord;have hM1:=hM.nU ((F:Int)+(tq:Int));have k1:=hM.r1;have f2:=Dx hM.s;have cS:=jh hM.s;have hb1:Below Br w (w.setCell ⟨Bs,0,none⟩ (.int .i64 ((F:Int)+(tq:Int)))):=(fD Br w).setCell (p:=⟨Bs,0,none⟩) (by show Br<=Bs;omega) _;obtain⟨W1,hW1⟩:=eu (w.setCell ⟨Bs,0,none⟩ (.int .i64 ((F:Int)+(tq:Int))));rw[hW1]at hM1 hb1;obtain⟨HW1,aa,HB1⟩:=je hW1 hM1 hb1;have af:Br<=w.heap.size:=pJ (Ky hM.r1);have hbr:Br<=W1.heap.size:=pJ (Ky hM1.r1);have HC:=dY (λW (hb:Below W1.heap.size W1 W)=>Uk rowv ts p W (hR W (hb1.trans (hb.mono hbr))) dS hp hf);have HP:=dY (λW (hb:Below Br w W)=>ahg rowv ts tq W (hR W hb) dS hto);have HQ:=dY (λe w'=>show(e=.returned (.tuple #[])/\(∃ev,EM w' Br Be Bs Bw Ba F ev (es++[⟨dash,Rw.qJ ts p,F+p,F+tq⟩]) (F+tq:Nat) rowv (tq+Rw.blanks (ts.drop tq)))/\Below Br w w')->KP Br Be Bs Bw Ba F es ⟨dash,Rw.qJ ts p,F+p,F+tq⟩ (F+tq:Nat) rowv (tq+Rw.blanks (ts.drop tq)) w e w' from λh=>h);obtain⟨Q,hQ⟩:=eu (KP Br Be Bs Bw Ba F es ⟨dash,Rw.qJ ts p,F+p,F+tq⟩ (F+tq:Nat) rowv (tq+Rw.blanks (ts.drop tq)) w);rw[hQ]at HQ⊢;obtain⟨N,hN⟩:=eu (ts.length);rw[hN]at hs hp hto;obtain⟨C,hC⟩:=eu (Rw.qJ ts p);rw[hC]at HC HQ;obtain⟨Z,hZ⟩:=eu (tq+Rw.blanks (ts.drop tq));rw[hZ]at HP HQ;have Bo:=dY (show uK.cells ⟨dash,C,F+p,F+tq⟩=[.bool dash,.int .i64 C,.int .i64 ((F:Int)+(p:Int)),.int .i64 ((F:Int)+(tq:Int))]by simp[uK,abm]);clear hM hM1 hb1 hR hf hN hC hZ hQ hW1
 go_enter func98,ntmps98
 go_upto_region 1 with fail
 rw[HW1.out];clear k1 f2 cS;have c1:=aa.out.r1;have c2:=jh aa.out.s;have c3:=jh aa.out.row;have c4:=jh aa.out.at';have c5:=jh aa.out.e;have hw:=sj ((F:Int)+(p:Int)) dS;have HD:=dY (show Below W1.heap.size W1 W1.drew from⟨rfl,rfl,rfl,eO _,λ_ _=>rfl⟩);have M1:=dY (show es.length+1<=maxLen by simp only[maxLen];omega);have M2:=dY (show(es.length+1)*32<=140737488355328 by omega);have alN:=dY (λW (hb:Below Br w W)=>iU af hb.size);clear HW1
 go_cut [] (λwx=>∃ae,EM wx Br Be Bs Bw Ba F ae (es++[⟨dash,C,F+p,F+tq⟩]) ((F:Int)+(tq:Int)) rowv p/\Below Br w wx)
 case first=>
  go_wp2_with fail
  refine X7 (S:=λwx=>wx.cell? ⟨Br,1,none⟩=some (.int .i64 F)/\wx.cell? ⟨Bs,0,none⟩=some (.int .i64 ((F:Int)+(tq:Int)))/\wx.cell? ⟨Bw,0,none⟩=some rowv/\wx.cell? ⟨Ba,0,none⟩=some (.int .i64 p)) dV (⟨c1,c2,c3,c4⟩) (λhH=>?_);refine iI 1 (.bool dash) hH ?_;refine uf 2 rowv (λW hW=>?_) hH ?_
  ·obtain⟨z1,z2,z3,z4⟩:=hW;go_simp
  refine uf 3 (.int .i64 p) (λW hW=>?_) hH ?_
  ·obtain⟨z1,z2,z3,z4⟩:=hW;go_simp
  refine iI 5 (.pointer (some ⟨Br,1,none⟩)) hH ?_;refine uf 6 (.int .i64 F) (λW hW=>?_) hH ?_
  ·obtain⟨z1,z2,z3,z4⟩:=hW;go_simp
  refine uf 7 (.int .i64 p) (λW hW=>?_) hH ?_
  ·obtain⟨z1,z2,z3,z4⟩:=hW;go_simp
  refine iI 8 (.int .i64 ((F:Int)+(p:Int))) hH ?_;refine uf 9 (.int .i64 ((F:Int)+(tq:Int))) (λW hW=>?_) hH ?_
  ·obtain⟨z1,z2,z3,z4⟩:=hW;go_simp
  refine aeT (rs:=[0,4]) dV eG ?_;refine Ph (o:=⟨_,_,_,_,_,_⟩) rfl (λK hK=>?_) (Ph (o:=⟨_,_,_,_,_,_⟩) rfl (λK hK=>?_) (aeU))
  ·skip
   go_simp;refine hK.out _ _ (⟨c1,c2,c3,c4⟩) (λhH2=>?_);clear hK K;try simp only[Act.put,fG,fB,fC]
   refine Cc 4 λK hK=>?_
   go_simp;refine(HC.out _ HD.out).mono ?_;rintro e w2 ⟨rfl,hb2⟩;have qx:=dY ((aa.out.below HD.out).below hb2);have HB2:=dY (HB1.out.trans ((HD.out.trans (hb2.mono HD.out.size)).mono hbr));have q1:=qx.out.r1;have q2:=jh qx.out.s;have q3:=jh qx.out.row;have q4:=jh qx.out.at';have q5:=jh qx.out.e;have x5:=iL (o:=.cells #[.bool dash,.int .i64 C,.int .i64 ((F:Int)+(p:Int)),.int .i64 ((F:Int)+(tq:Int))] 97) q5;have xm:=dY qx.out.own;have Xx:=dY (show Ba+1<=(w2.alloc (.cells #[.bool dash,.int .i64 C,.int .i64 ((F:Int)+(p:Int)),.int .i64 ((F:Int)+(tq:Int))] 97)).heap.size from by have:=gK qx.out.at';simp;omega);clear hb2;try go_wp2_with fail
   refine hK.out _ _ (⟨q1,q2,q3,q4⟩) (λhH2=>?_);clear hK K;try simp only[Act.put,fG,fB,fC]
   refine iI 10 (.agg #[.bool dash,.int .i64 C,.int .i64 ((F:Int)+(p:Int)),.int .i64 ((F:Int)+(tq:Int))]) hH2 ?_;refine Cc 11 λK hK=>?_
   exact QB
  ·skip
   go_simp;refine(HC.out _ HD.out).mono ?_;rintro e w2 ⟨rfl,hb2⟩;have qx:=dY ((aa.out.below HD.out).below hb2);have HB2:=dY (HB1.out.trans ((HD.out.trans (hb2.mono HD.out.size)).mono hbr));have q1:=qx.out.r1;have q2:=jh qx.out.s;have q3:=jh qx.out.row;have q4:=jh qx.out.at';have q5:=jh qx.out.e;have x5:=iL (o:=.cells #[.bool dash,.int .i64 C,.int .i64 ((F:Int)+(p:Int)),.int .i64 ((F:Int)+(tq:Int))] 97) q5;have xm:=dY qx.out.own;have Xx:=dY (show Ba+1<=(w2.alloc (.cells #[.bool dash,.int .i64 C,.int .i64 ((F:Int)+(p:Int)),.int .i64 ((F:Int)+(tq:Int))] 97)).heap.size from by have:=gK qx.out.at';simp;omega);clear hb2;try go_wp2_with fail
   refine hK.out _ _ (⟨q1,q2,q3,q4⟩) (λhH2=>?_);clear hK K;try simp only[Act.put,fG,fB,fC]
   refine iI 10 (.agg #[.bool dash,.int .i64 C,.int .i64 ((F:Int)+(p:Int)),.int .i64 ((F:Int)+(tq:Int))]) hH2 ?_;refine aeT (rs:=[0,11]) dV eG ?_;refine Ph (o:=⟨_,_,_,_,_,_⟩) rfl (λK hK=>?_) (Ph (o:=⟨_,_,_,_,_,_⟩) rfl (λK hK=>?_) (aeU))
   ·skip
    go_simp;refine hK.out _ _ (⟨q1,q2,q3,q4⟩) (λhH2=>?_);clear hK K;try simp only[Act.put,fG,fB,fC]
    refine Cc 11 λK hK=>?_
    exact QB
   ·skip
    go_simp;refine hK.out _ _ (⟨iL q1,iL q2,iL q3,iL q4⟩) (λhH2=>?_);clear hK K;try simp only[Act.put,fG,fB,fC]
    refine Cc 0 λK hK=>?_
    exact QB
 case rest=>
  obtain⟨ae,hM,hB⟩:=hcut;have c3:=jh hM.row;have c4:=jh hM.at';have f4:=Dx hM.at';obtain⟨HM,HB,ag⟩:=je hM hB (HP.out wc hB);clear hM hB HP;go_wp2_with fail
  refine ag.out.mono ?_;rintro e w2 ⟨rfl,rfl⟩;have HD:=dY (HQ.out _ _ ⟨rfl,⟨ae,by rw[show((F+tq:Nat):Int)=(F:Int)+(tq:Int)from dS];exact HM.out.alY Z⟩,HB.out.setCell (p:=⟨Ba,0,none⟩) (by show Br<=Ba;omega) _⟩);go_wp2_with fail
  go_end0
  exact HD.out
end
section
open Go.RowKit
open Sg
open Sq
abbrev XF(ts:List Tk)(p:Nat):Int:=Rw.vN ts (p+Rw.blanks (ts.drop p))
theorem afX(v:Value)(ts:List Tk)(p0:Nat)(w:World)(h:Reads iQ w v ts)(hs:ts.length<=1000000)(hp0:p0<=ts.length):
 Calls prog 100 #[v,.int .i64 p0] w λe w'=>e=.returned (.int .i64 (XF ts p0))/\w=w':=by
 have HP:=dY (λp (hp:p<=ts.length)=>ahg v ts p w h hs hp);have rM:=dY (Rw.kN ts);obtain⟨a,cap,rfl⟩:=h.shape;have H:=dY (λj x (hj:ts[j]?=some x)=>iY h j x hj);obtain⟨V,hV⟩:=eu (XF ts p0);rw[hV];have aa:=dY hV;obtain⟨N,hN⟩:=eu (ts.length);have HN:=dY hN;rw[hN]at hs hp0 HP rM;rw[hN];clear h hN hV
 go_enter func100,ntmps100
 go_wp2;refine aih 0 (λa' w'=>w'=w/\∃(p:Nat)(u5 u6 u7 u8 u9 af ag ah ai aj ak u16 av ax ay u20 u21 u22 u23 u24 u25 u26 u27 u28 u29 u30 u31 u32 u33 u34 u35 u36 u37 u38 az u40 aA u42 aB u44:Value),a'={tmps:=#[.slice a N cap,.int .i64 p,undef,undef,.int .i64 0,u5,u6,u7,u8,u9,af,ag,ah,ai,aj,ak,u16,av,ax,ay,u20,u21,u22,u23,u24,u25,u26,u27,u28,u29,u30,u31,u32,u33,u34,u35,u36,u37,u38,az,u40,aA,u42,aB,u44],defers:=[]}/\p<=N/\Hid (XF ts p=V)) (λa' _=>N-(intOf (a'.tmps.getD 1 undef)).toNat) rfl ?_ ?_
 ·obtain⟨p,hpe⟩:=eu (p0);rw[hpe]at hp0 aa⊢;have hp:=hp0;have HV:=aa;clear hp0 aa hpe;obtain⟨q,hq⟩:=eu (p+Rw.blanks (ts.drop p));have tQ:=HP.out p hp;have ae:=rM.out p hp;have hV:=HV.out;unfold XF at hV;rw[hq]at tQ ae hV;have hpq:p<=q:=by omega
  obtain⟨Gb,Di⟩:=fw tQ hV;clear tQ hV hq HV;go_wp2_with fail
  go_step3
  go_wp2_with fail
  refine Gb.out.mono ?_;rintro e w2 ⟨rfl,rfl⟩;by_cases hqe:q=N
  ·exact aaO
  have gq:((q:Int)==(N:Int))=false:=eQ
  have hqi:(q:Int)<(N:Int):=dS
  obtain⟨x,hx⟩:∃x,ts[q]?=some x:=⟨_,fu mP⟩
  obtain⟨b,off,rfl,c0,c1,c2⟩:=H.out q x hx;obtain⟨K,hK⟩:=eu (x.1);obtain⟨HX,HK⟩:=fw hx hK;rw[hK]at c0;clear hx hK c1 c2 hqe;by_cases GK:K=12
  ·subst GK;have HJ:=dY (show XF ts (q+1)=V by rw[<-Di.out];exact(Rw.yf ts q x HX.out wG).symm);clear H HP rM Gb Di HN;go_wp2_with fail
   go_step3
   exact Zk
  have g12:((K:Int)==12)=false:=eQ
  by_cases Ll:K=14
  ·subst Ll;have HJ:=dY (show XF ts (q+1)=V by rw[<-Di.out];exact(Rw.yf ts q x HX.out wG).symm);clear H HP rM Gb Di HN GK g12;go_wp2_with fail
   go_step3
   exact Zk
  exact aaC
 ·rintro a' w' ⟨rfl,p,u5,u6,u7,u8,u9,af,ag,ah,ai,aj,ak,u16,av,ax,ay,u20,u21,u22,u23,u24,u25,u26,u27,u28,u29,u30,u31,u32,u33,u34,u35,u36,u37,u38,az,u40,aA,u42,aB,u44,rfl,hp,HV⟩;clear hp0 aa;obtain⟨q,hq⟩:=eu (p+Rw.blanks (ts.drop p));have tQ:=HP.out p hp;have ae:=rM.out p hp;have hV:=HV.out;unfold XF at hV;rw[hq]at tQ ae hV;have hpq:p<=q:=by omega
  obtain⟨Gb,Di⟩:=fw tQ hV;clear tQ hV hq HV;go_wp2_with fail
  refine Gb.out.mono ?_;rintro e w2 ⟨rfl,rfl⟩;by_cases hqe:q=N
  ·exact aaO
  have gq:((q:Int)==(N:Int))=false:=eQ
  have hqi:(q:Int)<(N:Int):=dS
  obtain⟨x,hx⟩:∃x,ts[q]?=some x:=⟨_,fu mP⟩
  obtain⟨b,off,rfl,c0,c1,c2⟩:=H.out q x hx;obtain⟨K,hK⟩:=eu (x.1);obtain⟨HX,HK⟩:=fw hx hK;rw[hK]at c0;clear hx hK c1 c2 hqe;by_cases GK:K=12
  ·subst GK;have HJ:=dY (show XF ts (q+1)=V by rw[<-Di.out];exact(Rw.yf ts q x HX.out wG).symm);clear H HP rM Gb Di HN;go_wp2_with fail
   go_step3
   exact Ze
  have g12:((K:Int)==12)=false:=eQ
  by_cases Ll:K=14
  ·subst Ll;have HJ:=dY (show XF ts (q+1)=V by rw[<-Di.out];exact(Rw.yf ts q x HX.out wG).symm);clear H HP rM Gb Di HN GK g12;go_wp2_with fail
   go_step3
   exact Ze
  exact aaC
end
namespace Rw
theorem Oq:∀(l:List Tk),blanks (l.drop (blanks l))=0:=by
 intro l
 induction l with
 |nil=>rfl
 |cons x r ih=>
  rw[blanks];by_cases h:x.1=3
  ·rw[dX h,xB];exact ih
  ·rw[dW h,lM,blanks,dW h]
theorem Sn(ts:List Tk)(p:Nat):blanks (ts.drop (p+blanks (ts.drop p)))=0:=by
 have:=Oq (ts.drop p);rw[nP]at this;exact this
theorem Sr(ts:List Tk):blanks (ts.drop (gJ ts))=0:=by
 induction ts with
 |nil=>rfl
 |cons x r ih=>
  rw[gJ];by_cases h:Sc.counts x.1=true
  ·rw[dX h,lM,blanks,dW];intro e;rw[e]at h;cases h
  ·rw[dW h,xB];exact ih
def qE(F:Nat)(ts:List Tk)(p:Nat):List E:=(lU (ts.drop p).length (ts.drop p)).map (λi=>yz F ts (p+i))
def qG(ts:List Tk)(p:Nat):Nat:=p+kV (ts.drop p).length (ts.drop p)
theorem Ot(F:Nat)(ts:List Tk)(p:Nat)(h:jS (ts.drop p)=5):qE F ts p=yz F ts p::qE F ts (p+1+blanks (ts.drop (p+1)))/\qG ts p=qG ts (p+1+blanks (ts.drop (p+1))):=by
 have hd:=VD (ts.drop p) h;rw[nP,nP]at hd;obtain⟨n,hn⟩:=eu (blanks (ts.drop (p+1)));rw[hn]at hd⊢;have e1:p+(n+1)=p+1+n:=dS
 rw[e1]at hd;constructor
 ·unfold qE;rw[hd.1,yG,XO,oW];congr 1;apply aet;intro i _;show yz F ts (p+(i+(n+1)))=yz F ts (p+1+n+i);congr 1;omega
 ·unfold qG;rw[hd.2];omega
theorem Cn(F:Nat)(ts:List Tk)(p:Nat)(h:jS (ts.drop p)≠5):qE F ts p=[]/\qG ts p=p:=by
 have hd:=VE (ts.drop p) h;unfold qE qG;rw[hd.1,hd.2];exact⟨rfl,rfl⟩
theorem Ss(F:Nat)(ts:List Tk)(p:Nat)(h:ts.length<=p):qE F ts p=[]/\qG ts p=p:=by
 refine Cn F ts p ?_;rw[oG h];decide
theorem Uz(ts:List Tk)(p:Nat)(h:p<ts.length):qJ ts p=Ls ts p:=by
 unfold qJ Ls;rw[dW dS]
def Ep(A:Nat)(es:List E):Nat:=match es.getLast? with
 |some e=>e.bu
 |none=>A
theorem Co(A:Nat)(es:List E)(x:E):Ep A (es++[x])=x.bu:=by
 unfold Ep;rw[List.getLast?_concat]
def X8(F:Nat)(ts:List Tk)(k:Nat):List E:=match pO (ts.drop k)with
 |some n=>[⟨false,Ls ts k,F+k,F+k+n⟩]
 |none=>[]
theorem acL(F:Nat)(ts:List Tk):mG F ts=qE F ts (gJ ts)++X8 F ts (qG ts (gJ ts)):=by rw[pG];rfl
theorem acM(F:Nat)(ts:List Tk):rW F ts=Ep (F+gJ ts) (mG F ts):=rfl
theorem acN(F:Nat)(ts:List Tk)(k:Nat)(h:vN ts k=-1):X8 F ts k=[]:=by
 unfold vN at h;unfold X8;cases hk:pO (ts.drop k)with
 |none=>rfl
 |some n=>rw[hk]at h;dsimp only at h;omega
theorem acO(F:Nat)(ts:List Tk)(k:Nat)(h:vN ts k≠-1):∃q:Nat,vN ts k=(q:Int)/\k<q/\q<=ts.length/\k<ts.length/\X8 F ts k=[⟨false,Ls ts k,F+k,F+q⟩]:=by
 unfold vN at h;unfold vN X8;cases hk:pO (ts.drop k)with
 |none=>rw[hk]at h;exact absurd rfl h
 |some n=>
  have hi:=qW (ts.drop k) n hk;rw[ky]at hi;have hlt:k<ts.length:=by
   rcases mD k ts.length with h|h
   ·exact h
   ·exact absurd (oG h) hi.2.2
  refine⟨k+n,rfl,dS,dS,hlt,?_⟩;dsimp only;rw[aeB]
end Rw
section
open Go.RowKit
open Sg
open Sq
theorem akV(x:Rw.R)(n:Nat)(w:World)(h1:x.from'<=x.bu)(h2:x.bu<=n):
 Calls prog 97 #[Vj x,.int .i64 n] w λe w'=>e=.returned (.bool true)/\Below w.heap.size w w':=by
 obtain⟨k,f,t,c⟩:=x;dsimp only at h1 h2⊢;have g1:(0:Int)<=(f:Int):=dS
 have g2:(f:Int)<=(t:Int):=dS
 have g3:(t:Int)<=(n:Int):=dS
 go_enter func97,ntmps97
 go_wp2;go_ret;exact⟨rfl,dZ _ _⟩
end
section
open Go.RowKit
open Sg
open Sq
theorem Ld(bv v:Value)(l:List Tk)(x:Rw.R)(w:World)(hk:x.kind≠5):
 Calls prog 64 #[bv,v,Vj x] w (Rk 97 [] x.from' w):=by
 obtain⟨k,f,t,c⟩:=x;dsimp only at hk⊢;have g:((k:Int) !=5)=true:=eQ
 clear hk
 go_enter func64,ntmps64
 go_wp2_with fail
 go_region
 go_wp2_with fail
 refine vK (v:=.tuple #[.slice none 0 0,.int .i64 f]) ?_ rfl ⟨_,rfl,kX uK _ _,?_⟩
 ·simp[results,results64,go_sem]
 ·exact(gD (gD (dZ w _) _) _).drew
theorem Le(bv v:Value)(l:List Tk)(F T:Nat)(c:Int)(w:World)(h:Reads iQ w v l)(hs:l.length<=100000)(hf:∀x∈l,x.2.1<=1000000)(h1:F<=T)(h2:T<=l.length):
 Calls prog 64 #[bv,v,.agg #[.int .i64 5,.int .i64 F,.int .i64 T,.int .i64 c]] w (Rk 97 (Rw.mG F ((l.drop F).take (T-F))) (Rw.rW F ((l.drop F).take (T-F))) w):=by
 obtain⟨a,cap,rfl⟩:=h.shape;obtain⟨u,hu,Gq⟩:=Ka (P:=prog) tyT h h1 h2;have hfs:∀x∈(l.drop F).take (T-F),x.2.1<=1000000:=λx hx=>hf x (LG (Gl hx))
 have hlen:((l.drop F).take (T-F)).length=T-F:=Jd
 obtain⟨ts,hts⟩:=eu ((l.drop F).take (T-F));rw[hts]at Gq hfs hlen⊢;obtain⟨M,hM⟩:=eu (T-F);rw[hM]at hlen;have bM:M<=100000:=dS
 have hfn:F<=100000:=dS
 obtain⟨au,cu,rfl⟩:=Gq.shape;rw[hlen]at hu;have HRu:=dY (show Reads iQ w (.slice au M cu) ts by rw[<-hlen];exact Gq);obtain⟨aN,HLen⟩:=fw hfs hlen;have aA:=dY (λW=>akV ⟨5,F,T,c⟩ l.length W h1 h2);obtain⟨N,hN⟩:=eu (l.length);rw[hN]at hs h2 aA hu⊢;clear h hf hts Gq hfs hlen hN
 go_enter func64,ntmps64
 go_wp2_with fail
 refine(aA.out _).mono ?_;rintro e w4 ⟨rfl,hb4⟩;obtain⟨w3,hw3⟩:=eu (((w.alloc (.cells #[.int .i64 5,.int .i64 F,.int .i64 T,.int .i64 c] 61)).alloc (.cells #[.slice none 0 0] 93)).alloc (.cells #[.int .i64 0] 3));rw[hw3]at hb4;have c1:w3.cell? ⟨w.heap.size,1,none⟩=some (.int .i64 F):=YL
 have c2:w3.cell? ⟨w.heap.size,2,none⟩=some (.int .i64 T):=YL
 have e3:w3.heap[w.heap.size+1]?=some (.cells #[.slice none 0 0] 93 (0,0)):=by
  rw[<-hw3];have h:=lz (w.alloc (.cells #[.int .i64 5,.int .i64 F,.int .i64 T,.int .i64 c] 61)) (.cells #[.slice none 0 0] 93);simp only[size_alloc]at h;exact(I1 _ _ _ eG).trans h
 have s3:w3.heap[w.heap.size+2]?=some (.cells #[.int .i64 0] 3 (0,0)):=by
  rw[<-hw3];have h:=lz ((w.alloc (.cells #[.int .i64 5,.int .i64 F,.int .i64 T,.int .i64 c] 61)).alloc (.cells #[.slice none 0 0] 93)) (.cells #[.int .i64 0] 3);simp only[size_alloc]at h;exact h
 have hb3:Below w.heap.size w w3:=by rw[<-hw3];exact gD (gD (dZ w _) _) _
 have hlt3:=gK s3;have C1:=eB hb4 c1;have C2:=eB hb4 c2;have E4:=(hb4.block _ (gK e3)).trans e3;have S4:=(hb4.block _ hlt3).trans s3;obtain⟨qQ,aB,ak,aO⟩:=oK (eD hb3 hb4) E4 S4 C1;clear hb3 hb4 c1 c2 e3 s3 hw3 E4 S4 hlt3;have aP:=qQ.out.size;have hs4:w.heap.size+2<w4.heap.size:=gK ak.out
 obtain⟨w5,zC⟩:=eu (w4.alloc (.cells #[.slice au M cu] 28));obtain⟨Bw,hBw⟩:=eu (w4.heap.size);have ag:w5.heap[Bw]?=some (.cells #[.slice au M cu] 28 (0,0)):=by rw[<-zC,<-hBw];exact lz _ _
 have hb5:Below w4.heap.size w4 w5:=zC▸dZ w4 _;obtain⟨aQ,aR⟩:=fw zC hBw;have aS:w5.heap.size=Bw+1:=by rw[<-zC,<-hBw];simp
 have tY:=dY (eD qQ.out hb5);have hfi:=Rl _ ts w5 (HRu.out.below tY.out) nY;have aC:=dY hfi;have hld:=Rw.KA ts;rw[HLen.out]at hld;obtain⟨A,hA⟩:=eu (Rw.gJ ts);have HA:=dY hA;rw[hA]at hld aC;have E5:=(hb5.block _ (gK aB.out)).trans aB.out;have S5:=(hb5.block _ (gK ak.out)).trans ak.out;have C5:=eB hb5 aO.out;obtain⟨aD,aF,aT⟩:=je E5 S5 C5;have bA:=jh ag;have aG:=dY ag;rw[hBw]at hs4;have aH:=dY (show w.heap.size+2<Bw/\w5.heap.size=Bw+1 from⟨hs4,aS⟩);clear aP hs4 zC hBw ag hb5 aS hfi hA E5 S5 C5;go_upto_region 4 with fail
 rw[aQ.out,aR.out];clear C1 C2 aQ aR qQ aB ak aO;go_wp2_with fail
 refine aC.out.mono ?_;rintro e w6 ⟨rfl,hb6⟩;obtain⟨Ba,hBa⟩:=eu (w6.heap.size);obtain⟨w7,hw7⟩:=eu (w6.alloc (.cells #[.int .i64 A] 3));have az:Below w6.heap.size w6 w7:=hw7▸dZ w6 _;have ae:=eD hb6 az;have aU:w7.heap[Ba]?=some (.cells #[.int .i64 A] 3 (0,0)):=by rw[<-hw7,<-hBa];exact lz _ _
 have hbw:Bw<Ba:=by have:=hb6.size;have:=aH.out.2;omega
 have af:EM w7 w.heap.size (w.heap.size+1) (w.heap.size+2) Bw Ba F (.slice none 0 0) [] 0 (.slice au M cu) A:=
  ⟨eB ae aT.out,(ae.block _ (gK aD.out)).trans aD.out,(ae.block _ (gK aF.out)).trans aF.out,(ae.block _ (gK aG.out)).trans aG.out,aU,kX uK _ _,by have:=aH.out.1;omega⟩
 have aV:=dY (af.nU ((F:Int)+(A:Int)));have aW:=dY ((eD tY.out ae).setCell (p:=⟨w.heap.size+2,0,none⟩) (by show w.heap.size<=w.heap.size+2;omega) (.int .i64 ((F:Int)+(A:Int))));have C7:=af.r1;have A7:=jh af.at';have S7:=jh af.s;have Z7:=Dx af.s;obtain⟨aX,yn⟩:=fw hw7 hBa;clear hb6 hw7 az ae aU af aC bA aD aF aT aG hbw hBa;go_upto_region 5 with fail
 rw[aX.out,yn.out];clear aX yn tY aH;go_upto_region 6 with fail
 obtain⟨w8,hw8⟩:=eu (w7.setCell ⟨w.heap.size+2,0,none⟩ (.int .i64 ((F:Int)+(A:Int))));obtain⟨Br,hBr⟩:=eu (w.heap.size);obtain⟨Be,aI⟩:=eu (Br+1);obtain⟨Bs,aJ⟩:=eu (Be+1);have ah:=aV.out;have ai:=aW.out;rw[show w.heap.size+2=w.heap.size+1+1 from rfl]at ah ai hw8;rw[hw8]at ah ai;rw[hBr,aI,aJ]at ah;rw[hBr]at ai;rw[hw8,hBr,aI,aJ];have aK:=dY (λW (hb:Below Br w W)=>HRu.out.below (hBr▸hb));have Ga:=dY (λW (hb:Below Br w W) j x (hj:ts[j]?=some x)=>iY (a:=au) (cap:=cu) (l:=ts) (by rw[HLen.out];exact HRu.out.below (hBr▸hb)) j x hj);have ng:=dY hBr;obtain⟨DS,aL⟩:=eu (Rw.qE F ts A);obtain⟨KQ,aM⟩:=eu (Rw.qG ts A);have hlb:=Rw.Sr ts;have aj:=Rw.acL F ts;have hra:=Rw.acM F ts;rw[HA.out]at hlb aj hra;rw[aM,aL]at aj;obtain⟨EB,av⟩:=eu (Rw.mG F ts);obtain⟨aa,ax⟩:∃aa,Rw.rW F ts=aa:=⟨_,rfl⟩
 rw[av]at aj hra;rw[ax]at hra;rw[av,ax];obtain⟨bB,bC,aY,aZ,bD,bf⟩:=kG av ax aj hra hlb aL;obtain⟨bg,bn,bq⟩:=je aM ah ai;clear hw8 C7 A7 S7 Z7 aV aW aI aJ hBr HRu ah ai aL aM hlb aj hra av ax HA aA hu h1 h2 hM
 go_upto_block 0 with fail
 go_cut [] (λwx=>∃(ev:Value)(rest:Nat),EM wx Br Be Bs Bw Ba F ev DS rest (.slice au M cu) KQ/\KQ<=M/\DS.length<=KQ/\Hid (rest=Rw.Ep (F+A) DS)/\Hid (Rw.blanks (ts.drop KQ)=0)/\Below Br w wx)
 case first=>
  go_wp2_with fail
  go_loopw [] (λwr=>∃(p:Nat)(es:List Rw.E)(ev:Value)(rest:Nat),EM wr Br Be Bs Bw Ba F ev es rest (.slice au M cu) p/\p<=M/\es.length<=p/\Hid (rest=Rw.Ep (F+A) es)/\Hid (es++Rw.qE F ts p=DS)/\Hid (Rw.qG ts p=KQ)/\Hid (Rw.blanks (ts.drop p)=0)/\Below Br w wr) (λwr=>M-(intOf ((wr.cell? ⟨Ba,0,none⟩).getD undef)).toNat)
  case atStart=>exact⟨A,[],.slice none 0 0,F+A,by rw[show((F+A:Nat):Int)=(F:Int)+(A:Int)from dS];exact bn.out,hld,fP _,dY rfl,bf,bg,bD,bq.out⟩
  case round=>
   obtain⟨p,es,ev,rest,hm,hp,hel,HR,HE,HK,Xy,hb⟩:=hrel;obtain⟨HM,HB⟩:=fw hm hb;have ca:=jh hm.at';have cw:=jh hm.row;by_cases hpm:p<M
   ·obtain⟨x,hx⟩:∃x,ts[p]?=some x:=⟨_,fu (by rw[HLen.out];exact hpm)⟩
    obtain⟨b,off,rfl,c0,-,-⟩:=Ga.out wr hb p x hx;have hi:(p:Int)<(M:Int):=dS
    have hhd:=Rw.rE ts p x hx;obtain⟨K,hK⟩:=eu (x.1);rw[hK]at c0 hhd;by_cases q:K=5
    ·have hst:=Rw.Ot F ts p (by rw[hhd];exact q);have hci:=Rw.Uz ts p (by rw[HLen.out];exact hpm);have hen:=abx true (p+1) Br Be Bs Bw Ba F p ev _ es rest ts wr hm (λW hW=>aK.out W (hb.trans hW)) nY aN.out nY nY dS dS;rw[show((p+1:Nat):Int)=(p:Int)+1 from dS]at hen;have hbi:=Rw.kN ts (p+1) nY;rw[HLen.out]at hbi;have hpb:=Rw.Sn ts (p+1);obtain⟨P2,hP2⟩:=eu (p+1+Rw.blanks (ts.drop (p+1)));rw[hP2]at hst hen hbi hpb;have hp2:p+1<=P2:=by omega
     obtain⟨bz,bE,yN,bF⟩:=oK hst hci hen hpb;have g:((K:Int)==5)=true:=eQ
     clear hst hci hen hpb hP2 hm hb hx hhd q hK;go_wp2_with fail
     refine yN.out.mono ?_;rintro e w2 ⟨rfl,⟨ay,hM2⟩,hb2⟩;obtain⟨qx,HB2⟩:=fw hM2 (HB.out.trans hb2);have bG:=jh hM2.at';clear hM2 hb2;go_wp2
     go_roundw
     case rel=>
      refine⟨P2,es++[⟨true,Rw.qJ ts p,F+p,F+(p+1)⟩],ay,F+(p+1),qx.out,hbi,eQ,dY (by rw[Rw.Co]),dY ?_,dY (bz.out.2.symm.trans HK.out),bF,HB2.out⟩;rw[pI,<-HE.out,bz.out.1,bE.out];rfl
     case measure=>simp[intOf,ca,bG];omega
    ·have hst:=Rw.Cn F ts p (by rw[hhd];exact q);have g:((K:Int)==5)=false:=by simp;omega
     have hk:p=KQ:=by rw[<-HK.out];exact hst.2.symm
     have he:es=DS:=by rw[<-HE.out,hst.1,nJ]
     subst hk he;clear hst q hK hhd hx hm hb;go_wp2_with fail
     go_meet
     exact⟨ev,rest,HM.out,hp,hel,HR,Xy,HB.out⟩
   ·have hst:=Rw.Ss F ts p nY;have hi:¬((p:Int)<(M:Int)):=by omega
    have hk:p=KQ:=by rw[<-HK.out];exact hst.2.symm
    have he:es=DS:=by rw[<-HE.out,hst.1,nJ]
    subst hk he;clear hst hm hb;go_wp2_with fail
    go_meet
    exact⟨ev,rest,HM.out,hp,hel,HR,Xy,HB.out⟩
 case rest=>
 obtain⟨ev,rest,hm,bH,hdl,HR,Xy,hb⟩:=hcut;have hbk:=afX _ ts KQ wc (aK.out wc hb) nY (by rw[HLen.out];exact bH);have hkk:XF ts KQ=Rw.vN ts KQ:=by unfold XF;rw[Xy.out,oW]
 rw[hkk]at hbk;have hk0:=Rw.acN F ts KQ;have hk1:=Rw.acO F ts KQ;obtain⟨V,hV⟩:=eu (Rw.vN ts KQ);rw[hV]at hbk hk0 hk1;obtain⟨Py,HK1,bI,HM,HB⟩:=vV hk0 hk1 hbk hm hb;have ca:=jh hm.at';have cw:=jh hm.row;clear hbk hkk hV hm hb bg bf bn bq hk0 hk1
 go_upto_if 57 with fail
 refine bI.out.mono ?_;rintro e w2 ⟨rfl,rfl⟩
 go_upto_if 57 with fail
 go_cut [] (λwx=>∃(ev:Value)(p:Nat),EM wx Br Be Bs Bw Ba F ev EB aa (.slice au M cu) p/\Below Br w wx)
 case first=>
  by_cases hv:V=-1
  ·have hke:=Py.out hv;have hE:DS=EB:=by rw[aY.out,hke,nJ]
   have hRr:rest=aa:=by rw[HR.out,aZ.out,hE]
   subst hv;have qx:=dY (show EM wc Br Be Bs Bw Ba F ev EB aa (.slice au M cu) KQ by rw[<-hE,<-hRr];exact HM.out);clear hke hE hRr;go_wp2_with fail
   go_meet
   exact⟨ev,KQ,qx.out,HB.out⟩
  ·obtain⟨q,hq,hkq,bJ,hkn,hke⟩:=HK1.out hv;rw[HLen.out]at bJ hkn;have hci:=Rw.Uz ts KQ (by rw[HLen.out];exact hkn);have hE:DS++[⟨false,Rw.qJ ts KQ,F+KQ,F+q⟩]=EB:=by rw[aY.out,hke,hci]
   have hRr:F+q=aa:=by rw[aZ.out,<-hE,Rw.Co]
   have hen:=abx false q Br Be Bs Bw Ba F KQ ev _ DS rest ts wc HM.out (λW hW=>aK.out W (HB.out.trans hW)) nY aN.out nY nY dS dS;obtain⟨yN,HE2,HR2⟩:=je hen hE hRr;have g:((q:Int) !=-1)=true:=eG
   subst hq;clear hen hE hRr hci hke hv;go_wp2_with fail
   refine yN.out.mono ?_;rintro e w2 ⟨rfl,⟨ay,hM2⟩,hb2⟩;rw[HE2.out,HR2.out]at hM2;obtain⟨qx,HB2⟩:=fw hM2 (HB.out.trans hb2);clear hM2 hb2;go_wp2
   go_meet
   exact⟨ay,_,qx.out,HB2.out⟩
 case rest=>
 obtain⟨ay,p2,hm2,hb2⟩:=hcut;obtain⟨a3,Pf,hv3⟩:=(Reads.fo (E:=uK) hm2.own).shape;subst hv3;have ce:=jh hm2.e;have fe:=Dx hm2.e;have cs:=jh hm2.s;have fs:=Dx hm2.s;have bL:=hm2.ord;have HO:=dY (Pk (Pk hm2.own (a:=⟨Be,0,none⟩) (by show Be<_;omega) (.slice a3 EB.length Pf)) (a:=⟨Bs,0,none⟩) (by show Bs<_;omega) (.int .i64 aa));have HB2:=dY ((hb2.setCell (p:=⟨Be,0,none⟩) YK (.slice a3 EB.length Pf)).setCell (p:=⟨Bs,0,none⟩) (by show Br<=Bs;omega) (.int .i64 aa));have hes:Be≠Bs:=dS
 have bK:=dY (show w.heap.size<=Ba+1 by have:=ng.out;omega);clear hm2 hb2 ca cw;go_wp2_with fail
 go_region
 go_wp2_with fail
 refine vK (v:=.tuple #[.slice a3 EB.length Pf,.int .i64 aa]) ?_ rfl ⟨.slice a3 EB.length Pf,by rw[bC.out],by rw[bB.out];exact(lK HO.out bK.out).drew,by rw[ng.out];exact HB2.out.drew⟩;simp[results,results64,go_sem,ce,cs,ig]
theorem acP(bv v:Value)(l:List Tk)(x:Rw.R)(w:World)(h:Reads iQ w v l)(hs:l.length<=100000)(hf:∀x∈l,x.2.1<=1000000)(h1:x.from'<=x.bu)(h2:x.bu<=l.length):
 Calls prog 64 #[bv,v,Vj x] w (Rk 97 (Rw.iH l x).1 (Rw.iH l x).2 w):=by
 by_cases hk:x.kind=5
 ·obtain⟨k,f,t,c⟩:=x;dsimp only at hk h1 h2;subst hk;have e:Rw.iH l ⟨5,f,t,c⟩=(Rw.mG f ((l.drop f).take (t-f)),Rw.rW f ((l.drop f).take (t-f))):=by unfold Rw.iH;rw[dX rfl]
  rw[e];exact Le bv v l f t c w h hs hf h1 h2
 ·have e:Rw.iH l x=([],x.from'):=by unfold Rw.iH;rw[dW hk]
  rw[e];exact Ld bv v l x w hk
end
section
open Go.RowKit
open Sg
theorem UA(s:ByteArray)(p:Nat):(Utf8.decode s p).1<55296\/(57343<(Utf8.decode s p).1/\(Utf8.decode s p).1<=1114111):=Y6
theorem Su(s:ByteArray)(p:Nat):Utf8.valid ((Utf8.decode s p).1:Int)=true:=by
 have:=UA s p;simp[Utf8.valid];omega
theorem Ou(s:ByteArray)(w:World)(hs:s.size<=8):
 Calls prog 78 #[.string s,.string ⟨#[13,10]⟩] w λe w'=>e=.returned (.int .i64 (Ci (Sc.eH s)))/\Below w.heap.size w w':=by
 have HR:=dY (λk h1 h2=>Sc.run_end (λc=>!Sc.brk c) (Sc.eH s) k h1 h2);have hl:(Sc.eH s).length=s.size:=Sc.fM s;have HL:=dY hl;clear hl
 go_enter func78,ntmps78
 go_wp2
 go_loopg [] s.size (λgf wr=>∃(pos:Nat),wr.heap[w.heap.size]?=some (.stringIter s pos)/\Below w.heap.size w wr/\Hid (∀j,j<pos->(!Sc.brk ((Sc.eH s).getD j 0))=true)/\pos<=s.size/\s.size<=pos+gf)
 case atStart=>exact⟨0,AL w s 0,(fD _ w).alloc (eO _) _,dY (λj h=>absurd h (pK j)),fP _,dS⟩
 case round=>
  obtain⟨pos,hit,hb,hall,hle,hf⟩:=hrel;by_cases hlt:pos<s.size
  ·obtain⟨g',rfl⟩:∃g',gk=g'+1:=⟨gk-1,dS⟩
   have hgd:=Sc.jw s pos;have hge:=Sc.l7 s pos hlt;have hnx:∀ty,(Instr.next (.pointer (some ⟨w.heap.size,0,none⟩)) true ty).run prog wr=_:=λty=>Gs wr w.heap.size s pos ty hit hlt
   have hd:=Ei s pos hlt;have hwd:=Bd s pos hlt;have hwn:=Md s pos hlt;have hov:=Kw s pos hlt;have aa:=wJ s pos 13 hlt dU;have ae:=wJ s pos 10 hlt dU;have hvl:Utf8.valid ((Utf8.decode s pos).1:Int)=true:=Su s pos;have hbd:=UA s pos;rw[<-rq s pos hlt]at hnx;obtain⟨K,hK⟩:=eu ((nx s pos).2);obtain⟨R,hR⟩:=eu ((Utf8.decode s pos).1);rw[hK,hR]at hnx;rw[hK]at hwd hwn hov;rw[hR]at aa ae hvl hbd;have hit2:=yI wr w.heap.size s pos (pos+K) hit;have hb2:=tJ hb (k:=w.heap.size) (eO _) s (pos+K);obtain⟨W,hWd⟩:=eu (wr.iterAt w.heap.size s (pos+K));rw[hWd]at hnx hit2 hb2;have HC:=dY (Sk (R:Int) W dS dS hvl);cases hk:Sc.brk (s.get! pos).toNat with
   |true=>
    have hcr:0<=crlf (R:Int):=by
     unfold crlf;simp[Sc.brk]at hk;split
     ·omega
     ·split
      ·omega
      ·rename_i h1 h2;rcases hk with h|h
       ·exact absurd (ae.2 h) dS
       ·exact absurd (aa.2 h) dS
    have hres:=HR.out pos hall.out (.inr ⟨by rw[HL.out];exact hlt,by rw[hgd,hk];rfl⟩);have hrow:Ci (Sc.eH s)=(pos:Int):=by
     unfold Ci Sc.jg;rw[hres,HL.out,dW dS]
    have HS:=dY hrow;generalize crlf (R:Int)=X at*;clear hall hgd hge hit hb hd hwd hwn hov aa ae hvl hbd hK hR hWd hk hres HR hrow hit2;go_wp2_with fail
    refine HC.out.mono ?_;rintro e w1 ⟨rfl,hb3⟩;go_wp2;go_ret;exact⟨nZ,hb2.trans (hb3.mono hb2.size)⟩
   |false=>
    have hcr:crlf (R:Int)<0:=by
     unfold crlf;simp[Sc.brk]at hk;rw[dW (λh=>hk.2 (aa.1 dS)),dW (λh=>hk.1 (ae.1 dS))];omega
    have tT:∀j,j<pos+K->(!Sc.brk ((Sc.eH s).getD j 0))=true:=by
     intro j hj;rcases O3 j pos with h|h|h
     ·exact hall.out j h
     ·subst h;rw[hgd,hk];rfl
     ·have:=hov j h hj;rw[Sc.jw];simp[Sc.brk];omega
    have HA:=dY tT;have hn:¬(0<=crlf (R:Int)):=dS
    generalize crlf (R:Int)=X at*;clear hall tT hgd hge hit hb hd hov aa ae hvl hbd hK hR hWd hk HR;go_wp2_with fail
    refine HC.out.mono ?_;rintro e w1 ⟨rfl,hb3⟩;have hit3:w1.heap[w.heap.size]?=some (.stringIter s (pos+K)):=(hb3.block _ (Dl.1 hit2).1).trans hit2;have hb4:=hb2.trans (hb3.mono hb2.size);clear hit2 hb3 hb2;go_wp2
    go_roundg g'
    case measure=>omega
    case rel=>exact⟨pos+K,hit3,hb4,HA,hwn,dS⟩
  ·have hnx:∀ty,(Instr.next (.pointer (some ⟨w.heap.size,0,none⟩)) true ty).run prog wr=_:=λty=>Dv wr w.heap.size s pos ty hit hlt
   obtain rfl:pos=s.size:=dS
   have hres:=HR.out s.size hall.out (.inl HL.out.symm);have hrow:Ci (Sc.eH s)=-1:=by
    unfold Ci Sc.jg;rw[hres,HL.out,dX rfl]
   have HS:=dY hrow;clear hall hit hres HR hrow;go_wp2;go_ret;exact⟨nZ,hb⟩
end
section
open Go.RowKit
open Sg
theorem Wp(s:ByteArray)(w:World)(hs:s.size<=100000):
 Calls prog 78 #[.string s,.string ⟨#[13,10]⟩] w λe w'=>e=.returned (.int .i64 (Ci (Sc.eH s)))/\Below w.heap.size w w':=by
 by_cases h:s.size<=8
 ·exact Ou s w h
 ·have h2:=Any.strings_IndexAny_long (L:=Uo) zeroValue149 dV s ⟨#[13,10]⟩ w dU dS dS dU (ascii_of_all dU);refine O9 h2 ?_;rintro e w' ⟨rfl,rfl⟩;refine⟨?_,((fD _ w).alloc (eO _) _).alloc eG _⟩;rw[show Sc.eH s=s.data.toList.map UInt8.toNat from rfl,<-La]
theorem acQ(s:ByteArray)(w:World)(hs:s.size<=100000):
 Calls prog 52 #[.string s] w λe w'=>e=.returned (.int .i64 (Sc.jg (Sc.eH s)))/\Below w.heap.size w w':=by
 have HC:=dY (Wp s w hs);have hl:(Sc.eH s).length=s.size:=Sc.fM s;by_cases h:Sc.jg (Sc.eH s)=(Sc.eH s).length
 ·have hI:Ci (Sc.eH s)=-1:=by unfold Ci;rw[dX h]
  rw[hI]at HC;rw[h,hl];clear h hI hl
  exact aas
 ·have hI:Ci (Sc.eH s)=(Sc.jg (Sc.eH s):Int):=by unfold Ci;rw[dW h]
  rw[hI]at HC;generalize Sc.jg (Sc.eH s)=k at*;have hk:(0:Int)<=(k:Int):=dS
  clear h hI hl
  exact aas
theorem C8(s p:ByteArray)(w:World):
 Calls prog 79 #[.string s,.string p] w λe w'=>e=.returned (.bool (p.data.toList.isPrefixOf s.data.toList))/\w'=w:=Any.strings_HasPrefix (L:=acz) s p w
theorem akA(s:ByteArray)(a:Nat)(ha:a<256):([UInt8.ofNat a]:List UInt8).isPrefixOf s.data.toList=decide (0<s.size/\(s.get! 0).toNat=a):=by
 have e:(UInt8.ofNat a).toNat=a:=eQ
 have hd:=AJ s 0;have hz:=vL s;cases hl:s.data.toList with
 |nil=>rw[hl]at hz;simp at hz;simp[hz]
 |cons x r=>
  rw[hl]at hd hz;simp only[iR]at hz;have hx:x=s.get! 0:=by simpa using hd
  rw[<-hx];simp only[List.isPrefixOf,aeh];rw[qb];simp only[uJ,LM];constructor
  ·rintro rfl;exact⟨dS,e⟩
  ·rintro⟨_,h⟩;exact XV.1 (by rw[e,h])
theorem akB(s:ByteArray)(a b:Nat)(ha:a<256)(hb:b<256):([UInt8.ofNat a,UInt8.ofNat b]:List UInt8).isPrefixOf s.data.toList=decide (1<s.size/\(s.get! 0).toNat=a/\(s.get! 1).toNat=b):=by
 have e:(UInt8.ofNat a).toNat=a:=eQ
 have e2:(UInt8.ofNat b).toNat=b:=eQ
 have hd:=AJ s 0;have hd1:=AJ s 1;have hz:=vL s;cases hl:s.data.toList with
 |nil=>rw[hl]at hz;simp at hz;simp[hz]
 |cons x r=>
  cases r with
  |nil=>rw[hl]at hz;simp at hz;simp[hz,List.isPrefixOf]
  |cons y r=>
   rw[hl]at hd hd1 hz;simp only[iR]at hz;have hx:x=s.get! 0:=by simpa using hd
   have hy:y=s.get! 1:=by simpa using hd1
   rw[<-hx,<-hy];simp only[List.isPrefixOf,aeh];rw[qb];simp only[uJ,LM,rO];constructor
   ·rintro⟨rfl,rfl⟩;exact⟨dS,e,e2⟩
   ·rintro⟨_,h,h2⟩;exact⟨XV.1 (by rw[e,h]),XV.1 (by rw[e2,h2])⟩
theorem ajl(s:ByteArray):Sc.lI (Sc.eH s)=if 1<s.size/\(s.get! 0).toNat=13/\(s.get! 1).toNat=10 then 2 else if 0<s.size/\(s.get! 0).toNat=13 then 1 else if 0<s.size/\(s.get! 0).toNat=10 then 1 else 0:=by
 have hl:=Sc.fM s;have g0:=Sc.jw s 0;have g1:=Sc.jw s 1;cases h:Sc.eH s with
 |nil=>rw[h]at hl;simp at hl;simp[<-hl,Sc.lI]
 |cons c r=>
  cases r with
  |nil=>
   rw[h]at hl g0 g1;simp at hl g0 g1;rw[Sc.lI,<-hl,<-g0];simp
  |cons d r=>
   rw[h]at hl g0 g1;simp at hl g0 g1;rw[Sc.lI,<-g0,<-g1,<-hl];by_cases h1:c=13
   ·subst h1;by_cases h2:d=10<;>simp[h2]
   ·by_cases h2:c=10<;>simp[h1,h2]
theorem Sv(s:ByteArray)(w:World):
 Calls prog 53 #[.string s] w λe w'=>e=.returned (.int .i64 (Sc.lI (Sc.eH s)))/\w'=w:=by
 rw[ajl];have h1:=C8 s ⟨#[13,10]⟩ w;have h2:=C8 s ⟨#[13]⟩ w;have h3:=C8 s ⟨#[10]⟩ w;rw[show((⟨#[13,10]⟩:ByteArray).data.toList.isPrefixOf s.data.toList)=_ from akB s 13 10 dU dU]at h1;rw[show((⟨#[13]⟩:ByteArray).data.toList.isPrefixOf s.data.toList)=_ from akA s 13 dU]at h2;rw[show((⟨#[10]⟩:ByteArray).data.toList.isPrefixOf s.data.toList)=_ from akA s 10 dU]at h3;by_cases c1:1<s.size/\(s.get! 0).toNat=13/\(s.get! 1).toNat=10
 ·rw[dX c1];rw[kD c1]at h1;have H1:=dY h1;clear h1 h2 h3 c1
  go_enter func53,ntmps53
  go_wp2_with fail
  refine H1.out.mono ?_;rintro e w1 ⟨rfl,rfl⟩;go_wp2_with fail
  exact pz
 ·rw[dW c1];rw[ic c1]at h1;have H1:=dY h1;clear h1 c1;by_cases c2:0<s.size/\(s.get! 0).toNat=13
  ·rw[dX c2];rw[kD c2]at h2;have H2:=dY h2;clear h2 h3 c2
   go_enter func53,ntmps53
   go_wp2_with fail
   refine H1.out.mono ?_;rintro e w1 ⟨rfl,rfl⟩;go_wp2_with fail
   refine H2.out.mono ?_;rintro e w2 ⟨rfl,rfl⟩;go_wp2_with fail
   exact pz
  ·rw[dW c2];rw[ic c2]at h2;have H2:=dY h2;clear h2 c2;by_cases c3:0<s.size/\(s.get! 0).toNat=10
   ·rw[dX c3];rw[kD c3]at h3;have H3:=dY h3;clear h3 c3
    exact aaH
   ·rw[dW c3];rw[ic c3]at h3;have H3:=dY h3;clear h3 c3
    exact aaH
def kI(k:Nat):Int:=if k=0 then -1 else(k:Int)
theorem Wq(s:ByteArray):Sc.part ((Sc.eH s).drop 3)=Sc.part (Sc.eH (s.extract 3 s.size)):=by rw[Sc.lL]
theorem Ic(s:ByteArray)(l:List UInt8)(h3:3<=s.size):((s.extract 0 3).toList=l)↔(Sc.eH s).take 3=l.map UInt8.toNat:=by
 rw[akw,<-Sc.BA];constructor
 ·intro h;rw[<-h];rfl
 ·intro h;exact List.map_inj_right (λ_ _=>XV.1)|>.1 h
theorem ahn(s:ByteArray)(w:World)(hs:s.size<=maxLen):
 Calls prog 80 #[.string s] w λe w'=>e=.returned (.int .i64 (kI (Sc.mark (Sc.eH s))))/\w=w':=by
 have hs2:=hs;unfold maxLen at hs;by_cases h3:s.size<3
 ·have hm:kI (Sc.mark (Sc.eH s))=-1:=by
   have hl:=Sc.fM s;have:((Sc.eH s).take 3).length<3:=nX
   unfold Sc.mark;rw[dW (λh=>by rw[h]at this;simp at this),dW (λh=>by rw[h]at this;simp at this)];rfl
  rw[hm];have hlt:(s.size:Int)<3:=dS
  clear hm h3
  go_enter func80,ntmps80
  exact nH
 ·have hz:(s.extract 3 s.size).size<=maxLen:=by rw[xw];omega
  have hP:=xL (s.extract 3 s.size) w hz;rw[<-Wq]at hP;have hge:¬((s.size:Int)<3):=dS
  have hlo:(3:Int)<=(s.size:Int):=dS
  have e1:=Ic s [45,45,45] dS;have e2:=Ic s [46,46,46] dS;unfold Sc.mark;cases hp:Sc.part ((Sc.eH s).drop 3)with
  |false=>
   rw[hp]at hP;have HP:=dY hP;have hr:kI (if(Sc.eH s).take 3=[45,45,45]then(if false=true then 20 else 0)else if(Sc.eH s).take 3=[46,46,46]then(if false=true then 21 else 0)else 0)=-1:=by
    simp[kI]
   rw[hr];clear hP hp hz e1 e2 h3 hr
   exact J6
  |true=>
   rw[hp]at hP;have HP:=dY hP;by_cases c1:(Sc.eH s).take 3=[45,45,45]
   ·have g1:((s.extract 0 3).toList==[45,45,45])=true:=uJ.2 (e1.2 (by rw[c1];rfl));rw[dX c1];clear hP hp hz e1 e2 h3 c1
    exact J6
   ·have g1:((s.extract 0 3).toList==[45,45,45])=false:=jE.2 λh=>c1 (by rw[e1.1 h];rfl)
    rw[dW c1];by_cases c2:(Sc.eH s).take 3=[46,46,46]
    ·have g2:((s.extract 0 3).toList==[46,46,46])=true:=uJ.2 (e2.2 (by rw[c2];rfl));rw[dX c2];clear hP hp hz e1 e2 h3 c1 c2
     exact J6
    ·have g2:((s.extract 0 3).toList==[46,46,46])=false:=jE.2 λh=>c2 (by rw[e2.1 h];rfl)
     rw[dW c2];clear hP hp hz e1 e2 h3 c1 c2
     exact J6
end
end Go.Proofs.YtmkkdjpebbdikaaGreatDoor

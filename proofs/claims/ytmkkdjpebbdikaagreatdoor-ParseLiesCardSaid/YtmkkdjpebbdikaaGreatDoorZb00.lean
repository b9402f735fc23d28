set_option linter.all false
set_option maxHeartbeats 16000000
set_option maxRecDepth 100000
namespace Go.Proofs.YtmkkdjpebbdikaaGreatDoor
def ahC:=@Array.any_eq_true'
def XG:=@Array.getElem?_eq_getElem
def ahD:=@Array.getElem?_eq_none
def Dl:=@Array.getElem?_eq_some_iff
def IP:=@Array.getElem?_toList
def U6:=@Array.length_toList
def XH:=@Array.setIfInBounds_comm
def akc:=@Array.toList_extract
def ahE:=@BitVec.toNat_ofNat
def rO:=@Bool.and_eq_true
def aeh:=@Bool.and_true
def Lu:=@Bool.eq_false_iff
def qb:=@Bool.eq_iff_iff
def aei:=@Bool.false_or
def XI:=@Bool.not_eq_true'
def aej:=@Bool.or_eq_false_iff
def akd:=@ByteArray.data_extract
def xw:=@ByteArray.size_extract
def U7:=@Eq.trans
def ahF:=@Function.comp_apply
def ahG:=@Int.eq_ofNat_of_zero_le
def OX:=@Int.le_max_left
def jk:=@Int.le_refl
def aek:=@Int.neg_tmod
def Lx:=@Int.tmod_lt_of_pos
def jd:=@Int.toNat_natCast
def XJ:=@List.Pairwise.imp_of_mem
def IQ:=@List.all_eq_true
def U8:=@List.any_eq_true
def pI:=@List.append_assoc
def nJ:=@List.append_nil
def Dm:=@List.cons_append
def U9:=@List.contains_iff_mem
def rZ:=@List.countP_append
def XK:=@List.countP_congr
def qH:=@List.countP_cons
def ael:=@List.countP_eq_length_filter
def Gg:=@List.countP_eq_zero
def XL:=@List.countP_le_length
def XM:=@List.countP_map
def Dn:=@List.countP_nil
def Va:=@List.countP_pos_iff
def XN:=@List.countP_singleton
def LC:=@List.dropWhile_cons
def Vb:=@List.drop_append_of_le_length
def nP:=@List.drop_drop
def xz:=@List.drop_eq_getElem_cons
def oG:=@List.drop_eq_nil_of_le
def OY:=@List.drop_of_length_le
def xB:=@List.drop_succ_cons
def lM:=@List.drop_zero
def l9:=@List.eq_nil_of_length_eq_zero
def r9:=@List.ext_getElem?
def ahH:=@List.filterMap_cons
def ahI:=@List.flatMap_append
def IU:=@List.flatMap_cons
def aem:=@List.flatMap_def
def aen:=@List.flatMap_nil
def xC:=@List.getD_eq_getElem?_getD
def nK:=@List.getElem?_append_left
def oH:=@List.getElem?_append_right
def Vd:=@List.getElem?_cons_succ
def sW:=@List.getElem?_drop
def fu:=@List.getElem?_eq_getElem
def sZ:=@List.getElem?_eq_none
def AA:=@List.getElem?_eq_none_iff
def eY:=@List.getElem?_eq_some_iff
def kS:=@List.getElem?_map
def aeo:=@List.getElem?_mapIdx
def jy:=@List.getElem?_of_mem
def oI:=@List.getElem?_set
def zu:=@List.getElem?_set_ne
def yE:=@List.getElem?_set_self
def tu:=@List.getElem?_take_of_lt
def aep:=@List.getElem?_toArray
def OZ:=@List.getElem_mem
def ahJ:=@List.getLast?_append
def aeq:=@List.getLast?_cons_cons
def ahK:=@List.getLast?_eq_getElem?
def aer:=@List.getLast?_eq_none_iff
def ake:=@List.head?_dropWhile_not
def iK:=@List.length_append
def iR:=@List.length_cons
def ky:=@List.length_drop
def ahL:=@List.length_filterMap_le
def jl:=@List.length_map
def Gi:=@List.length_nil
def aes:=@List.length_pos_iff
def ahM:=@List.length_range
def IV:=@List.length_reverse
def nQ:=@List.length_set
def akf:=@List.length_singleton
def mX:=@List.length_take
def yF:=@List.map_append
def aet:=@List.map_congr_left
def yG:=@List.map_cons
def akg:=@List.map_eq_nil_iff
def XO:=@List.map_map
def O0:=@List.map_nil
def Gj:=@List.map_set
def aeu:=@List.map_take
def ahN:=@List.map_toArray
def kC:=@List.mem_append
def aev:=@List.mem_append_left
def kY:=@List.mem_cons
def LD:=@List.mem_cons_of_mem
def aew:=@List.mem_cons_self
def ahO:=@List.mem_filter
def ahP:=@List.mem_filterMap
def Ce:=@List.mem_flatMap
def tC:=@List.mem_map
def akh:=@List.mem_map_of_mem
def gW:=@List.mem_of_getElem?
def LF:=@List.mem_of_getLast?
def LG:=@List.mem_of_mem_drop
def Gl:=@List.mem_of_mem_take
def ahQ:=@List.mem_or_eq_of_mem_set
def yH:=@List.mem_range
def tF:=@List.mem_singleton
def XP:=@List.nil_append
def aki:=@List.nodup_iff_count
def aex:=@List.pairwise_append
def vI:=@List.pairwise_cons
def akj:=@List.pairwise_flatMap
def XQ:=@List.pairwise_iff_getElem
def aey:=@List.pairwise_map
def akk:=@List.pairwise_singleton
def akl:=@List.reverse_append
def O1:=@List.reverse_cons
def fG:=@List.setIfInBounds_toArray
def aez:=@List.set_append_left
def LH:=@List.set_append_right
def fC:=@List.set_cons_succ
def fB:=@List.set_cons_zero
def aeA:=@List.set_set
def ahR:=@List.singleton_append
def Dq:=@List.take_add_one
def XR:=@List.take_append_of_le_length
def LJ:=@List.take_length
def ahS:=@List.take_nil
def zw:=@List.take_of_length_le
def vJ:=@List.take_succ_cons
def Ve:=@List.take_succ_eq_append_getElem
def vT:=@List.take_zero
def aeB:=@Nat.add_assoc
def Dr:=@Nat.add_mul
def lW:=@Nat.add_sub_cancel
def Gm:=@Nat.add_sub_cancel_left
def oW:=@Nat.add_zero
def rP:=@Nat.eq_zero_or_pos
def ahT:=@Nat.le_of_eq
def pJ:=@Nat.le_of_lt
def eO:=@Nat.le_refl
def Vf:=@Nat.le_succ
def iU:=@Nat.le_trans
def vU:=@Nat.lt_irrefl
def zx:=@Nat.lt_of_lt_of_le
def mD:=@Nat.lt_or_ge
def akm:=@Nat.lt_succ_iff_lt_or_eq
def O3:=@Nat.lt_trichotomy
def aeC:=@Nat.max_eq_left
def IW:=@Nat.min_eq_left
def ahU:=@Nat.min_eq_right
def O4:=@Nat.mul_le_mul_right
def aeD:=@Nat.not_lt
def pK:=@Nat.not_lt_zero
def ahV:=@Nat.one_mul
def si:=@Nat.sub_self
def Gn:=@Nat.sub_zero
def jY:=@Nat.zero_add
def fP:=@Nat.zero_le
def O5:=@Nat.zero_mul
def XU:=@Ne.symm
def akn:=@Option.map_eq_some_iff
def AB:=@Option.map_some
def iG:=@Option.some.inj
def LK:=@Prod.mk.inj
def XV:=@UInt8.toNat_inj
def XW:=@UInt8.toNat_lt
def jE:=@beq_eq_false_iff_ne
def uJ:=@beq_iff_eq
def Vg:=@bne_iff_ne
def ic:=@decide_eq_false
def aeE:=@decide_eq_false_iff_not
def kD:=@decide_eq_true
def LM:=@decide_eq_true_eq
def O6:=@getElem!_pos
def dW:=@if_neg
def dX:=@if_pos
def ahW:=@of_decide_eq_false
def pM:=@of_decide_eq_true
theorem eu.{u} {α:Sort u}(a:α):∃x,a=x:=⟨_,rfl⟩
theorem dS{p:Prop}(h:p:=by omega):p:=h
theorem AM{p:Prop}(h:p:=by rw[nQ];omega):p:=h
theorem eG{p:Prop}(h:p:=by simp):p:=h
theorem eQ{p:Prop}(h:p:=by simp;omega):p:=h
theorem AO{p:Prop}(h:p:=by rw[jd];exact hy):p:=h
theorem jQ{p:Prop}(h:p:=by simp at h):p:=h
theorem kU{p:Prop}(h:p:=by simpa using h):p:=h
theorem PI{p:Prop}(h:p:=by have:=k4.elim id False.elim;omega):p:=h
theorem dU{p:Prop}(h:p:=by decide):p:=h
theorem PK{p:Prop}(h:p:=by rw[E.len,Dr];omega):p:=h
theorem Jd{p:Prop}(h:p:=by rw[mX,ky];omega):p:=h
theorem PN{p:Prop}(h:p:=by rw[TJ,iK];exact q1):p:=h
theorem yO{p:Prop}(h:p:=by rw[<-qj.out];exact hst):p:=h
theorem DT{p:Prop}(h:p:=by rw[<-qj.out];exact Ku P k):p:=h
theorem nX{p:Prop}(h:p:=by rw[mX];omega):p:=h
theorem ais{p:Prop}(h:p:=by rw[iK,mX];simp;omega):p:=h
theorem Yv{p:Prop}(h:p:=by obtain⟨x',g1,g2,g3,g4,_⟩:=h4 i x hx;exact⟨x',g1,g2,g3,g4⟩):p:=h
theorem Yw{p:Prop}(h:p:=by obtain⟨x',g1,g2,g3,_,g5,_⟩:=k2 j x hx;exact⟨x',g1,g2,g3,g5⟩):p:=h
theorem jJ{p:Prop}(h:p:=by simpa using hx):p:=h
theorem l6{p:Prop}(h:p:=by dsimp only;omega):p:=h
theorem Je{p:Prop}(h:p:=by rw[<-Lib.size_eq];exact h):p:=h
theorem jc{p:Prop}(h:p:=by rw[ky];omega):p:=h
theorem gV{p:Prop}(h:p:=by decide+kernel):p:=h
theorem wB{p:Prop}(h:p:=by simpa using hy):p:=h
theorem Yx{p:Prop}(h:p:=by obtain⟨z,a,_,_,b,_⟩:=h4 d x hd;exact⟨z,a,b⟩):p:=h
theorem Jf{p:Prop}(h:p:=by unfold add at a1;rw[b1]at a1;exact(congrArg Prod.fst a1).symm):p:=h
theorem PO{p:Prop}(h:p:=by rw[lW,hi2.2,c1];rfl):p:=h
theorem PU{p:Prop}(h:p:=by rw[lW,hi2.2];exact abJ c2):p:=h
theorem DU{p:Prop}(h:p:=by rw[hkind];split<;>omega):p:=h
theorem Jg{p:Prop}(h:p:=by rw[hi2.2];exact Ex c4):p:=h
theorem PW{p:Prop}(h:p:=by rw[lW];exact abK this.2.2.2):p:=h
theorem Jh{p:Prop}(h:p:=by rw[lW,hjk.2];exact h):p:=h
theorem Yy{p:Prop}(h:p:=by show(iB s.t (B+c:Nat) ((j+1:Nat):Int)).length<=_;omega):p:=h
theorem DV{p:Prop}(h:p:=by rw[hk];simpa using k2):p:=h
theorem DW{p:Prop}(h:p:=by rw[hk];exact k5):p:=h
theorem Ji{p:Prop}(h:p:=by rw[<-hjk.2];exact hcj):p:=h
theorem DX{p:Prop}(h:p:=by rw[lW];exact hc):p:=h
theorem qT{p:Prop}(h:p:=by simp[hx]):p:=h
theorem Yz{p:Prop}(h:p:=by rw[<-hts,mX,ky];omega):p:=h
theorem qU{p:Prop}(h:p:=by cases hx):p:=h
theorem DY{p:Prop}(h:p:=by simpa using ho):p:=h
theorem fV{p:Prop}(h:p:=by cases h):p:=h
theorem YA{p:Prop}(h:p:=by show((max (a+1) (back l b (lo l (a+1) b)):Nat):Int)<=(p.read:Nat);omega):p:=h
theorem Jj{p:Prop}(h:p:=by rw[pX];exact eO _):p:=h
theorem Jk{p:Prop}(h:p:=by rw[jG];omega):p:=h
theorem yP{p:Prop}(h:p:=by rw[hs];simp):p:=h
theorem wC{p:Prop}(h:p:=by rw[<-hP]):p:=h
theorem YB{p:Prop}(h:p:=by simp[Rw.RA]at h):p:=h
theorem PX{p:Prop}(h:p:=by rcases hcases with h|h|h|h|h<;>rw[h]<;>rfl):p:=h
theorem mP{p:Prop}(h:p:=by rw[HN.out];omega):p:=h
theorem PY{p:Prop}(h:p:=by rw[TJ,iK,hm];exact q1):p:=h
theorem qV{p:Prop}(h:p:=by simp only[maxLen];omega):p:=h
theorem DZ{p:Prop}(h:p:=by rw[hv];rfl):p:=h
theorem uP{p:Prop}(h:p:=by cases e):p:=h
theorem PZ{p:Prop}(h:p:=by have:=h.lt;have:=h.le;omega):p:=h
theorem yQ{p:Prop}(h:p:=by rw[<-hw1,<-pW];exact iL (at_new rfl)):p:=h
theorem sO{p:Prop}(h:p:=by rw[HN.out];exact hlt):p:=h
theorem D3{p:Prop}(h:p:=by rw[iK];omega):p:=h
theorem wD{p:Prop}(h:p:=by rw[HN.out];exact eO _):p:=h
theorem AP{p:Prop}(h:p:=by rw[<-hw1,<-hsz];exact at_new rfl):p:=h
theorem P4{p:Prop}(h:p:=by rw[jd];exact hx):p:=h
theorem P5{p:Prop}(h:p:=by rw[hsz];exact Nat.lt_succ_of_lt h.lt):p:=h
theorem P6{p:Prop}(h:p:=by rw[hsz];have:=h.kL.size;omega):p:=h
theorem wE{p:Prop}(h:p:=by rw[h]at hr;cases hr):p:=h
theorem P7{p:Prop}(h:p:=by rw[getD_set_ne true aeF];exact hs):p:=h
theorem P8{p:Prop}(h:p:=by rw[getD_set_ne true aeF,hus];exact hs):p:=h
theorem YC{p:Prop}(h:p:=by rw[Pq.out];have:=hg8;rw[<-L5.out]at this;exact this):p:=h
theorem YD{p:Prop}(h:p:=by rw[Pq.out];have:=O7;rw[<-L5.out]at this;exact this):p:=h
theorem Jl{p:Prop}(h:p:=by rw[ex];exact hfx _):p:=h
theorem yR{p:Prop}(h:p:=by rw[<-hL,jl]):p:=h
theorem P9{p:Prop}(h:p:=by rw[<-hL];exact akh hp):p:=h
theorem Jm{p:Prop}(h:p:=by have:=hV.row.1;omega):p:=h
theorem Jn{p:Prop}(h:p:=by simp[Sc.toks]at h):p:=h
theorem Jo{p:Prop}(h:p:=by dsimp only at a;omega):p:=h
theorem Jp{p:Prop}(h:p:=by show(-1:Int)<0;decide):p:=h
theorem Qa{p:Prop}(h:p:=by show q.s.t.length<=_;omega):p:=h
theorem Qb{p:Prop}(h:p:=by rw[<-hwb,<-hbx];exact heap_alloc_new _ _):p:=h
theorem Qc{p:Prop}(h:p:=by rw[<-hwb,<-hbe];exact heap_alloc_new _ _):p:=h
theorem YE{p:Prop}(h:p:=by rw[hW.frozen (p:=⟨gl,o,none⟩) hgl];exact hfz o):p:=h
theorem YF{p:Prop}(h:p:=by rw[<-L6.out]at hlv2;have e:=(Value.slice.inj hlv2).1;injection e with e;injection e with e):p:=h
theorem YG{p:Prop}(h:p:=by rw[<-hw1];exact Go.below_drewN (Below.refl _ wb) _):p:=h
theorem D4{p:Prop}(h:p:=by rw[<-hw1,<-pW];exact at_new rfl):p:=h
theorem Jq{p:Prop}(h:p:=by unfold Dt at hh;simp at hh;omega):p:=h
theorem Jr{p:Prop}(h:p:=by rw[<-hw2,<-hBa];exact at_new rfl):p:=h
theorem Js{p:Prop}(h:p:=by show j*1+0=j;omega):p:=h
theorem qf{p:Prop}(h:p:=by rw[hkd];rfl):p:=h
theorem YH{p:Prop}(h:p:=by show(s.q.length:Int)<((Fl.keyed _ _).length:Int);rw[Fl.fQ,hpl];omega):p:=h
theorem YI{p:Prop}(h:p:=by have:=ae2 (Fl.kd l l.length j) w;rw[hb2]at this;exact this):p:=h
theorem Jt{p:Prop}(h:p:=by have:=HC.out.opp;omega):p:=h
theorem Ju{p:Prop}(h:p:=by rw[hkd];exact hk0):p:=h
theorem ait{p:Prop}(h:p:=by have:=ahX.out _ HB1.out;rw[hk]at this;exact this):p:=h
theorem yS{p:Prop}(h:p:=by rw[hst];simp):p:=h
theorem YJ{p:Prop}(h:p:=by have:=HI0.out;omega):p:=h
theorem Qd{p:Prop}(h:p:=by have e:k=Br:=e;rw[<-e];exact hk):p:=h
theorem Jv{p:Prop}(h:p:=by rw[<-oN,<-hbt];exact heap_alloc_new _ _):p:=h
theorem Qe{p:Prop}(h:p:=by rw[<-hbt];exact eO _):p:=h
theorem wF{p:Prop}(h:p:=by cases hk):p:=h
theorem D5{p:Prop}(h:p:=by simpa using hK.symm):p:=h
theorem aiu{p:Prop}(h:p:=by have:=(xm.out.lt q hq).1;omega):p:=h
theorem YK{p:Prop}(h:p:=by show Br<=Be;omega):p:=h
theorem wG{p:Prop}(h:p:=by rw[HK.out];rfl):p:=h
theorem YL{p:Prop}(h:p:=by rw[<-hw3];exact iL (iL (at_new rfl))):p:=h
theorem nY{p:Prop}(h:p:=by rw[HLen.out];omega):p:=h
theorem Jw{p:Prop}(h:p:=by first|rfl|trivial):p:=h
theorem Qf{p:Prop}(h:p:=by intro u hu;simp at hu;subst hu;rfl):p:=h
theorem pg{p:Prop}(h:p:=by unfold maxLen;omega):p:=h
theorem Qg{p:Prop}(h:p:=by obtain⟨f,t,_,_,_,_,_,g1,g2⟩:=h4 x hx;exact⟨g1,g2⟩):p:=h
theorem nZ{p:Prop}(h:p:=by rw[HS.out];rfl):p:=h
theorem AQ{p:Prop}(h:p:=by rw[hd,hr];omega):p:=h
theorem uQ{p:Prop}(h:p:=by rw[xw];omega):p:=h
theorem Jy{p:Prop}(h:p:=by rw[hd];decide):p:=h
theorem Jz{p:Prop}(h:p:=by rw[htk];exact hsn):p:=h
theorem aiv{p:Prop}(h:p:=by first|exact Go.below_drewN (Below.refl _ _) _|exact Go.below_drewN (Go.below_drewN (Below.refl _ _) _) _):p:=h
theorem D6{p:Prop}(h:p:=by rw[Sc.fM];exact hlt2):p:=h
theorem Qh{p:Prop}(h:p:=by rw[abL,pI];exact hT):p:=h
theorem JA{p:Prop}(h:p:=by have:=(hb.trans (hb1.mono hb.size)).size;simp;omega):p:=h
theorem YM{p:Prop}(h:p:=by rw[size_alloc];exact Nat.le_succ_of_le tN.out.size):p:=h
theorem Qi{p:Prop}(h:p:=by simp only[alloc_eq_grow,grow_grow];rfl):p:=h
theorem JB{p:Prop}(h:p:=by rw[hgd,<-hge];exact hc):p:=h
theorem D7{p:Prop}(h:p:=by rw[HE2.out];rfl):p:=h
theorem Qj{p:Prop}(h:p:=by simp[Sc.opens]):p:=h
theorem Qk{p:Prop}(h:p:=by rw[<-hrest,xw];omega):p:=h
theorem Ql{p:Prop}(h:p:=by rw[ByteArray.toList_eq];exact TM bh hb1):p:=h
theorem Qm{p:Prop}(h:p:=by have:=hpt W;rw[hp]at this;exact this):p:=h
theorem gL{p:Prop}(h:p:=by rw[hcI];rfl):p:=h
theorem AR{p:Prop}(h:p:=by rw[hA];simp):p:=h
theorem YN{p:Prop}(h:p:=by rw[HST.out];exact Dy hbd (.inl q58) (.inl q35) (.inl rfl)):p:=h
theorem D8{p:Prop}(h:p:=by have:=HFL.out W';rw[hfl]at this;exact this):p:=h
theorem JC{p:Prop}(h:p:=by rw[<-HGE.out];exact hfl):p:=h
theorem YO{p:Prop}(h:p:=by rw[HR.out];exact(qL _ h1.1 h1.2).1):p:=h
theorem D9{p:Prop}(h:p:=by rw[HNT.out];have:=TC.out;omega):p:=h
theorem aiw{p:Prop}(h:p:=by rw[HP.out.two.2.1,HQR.out]):p:=h
theorem YP{p:Prop}(h:p:=by rw[<-oN,<-hbt];exact heap_alloc_new wr _):p:=h
theorem AU{p:Prop}(h:p:=by cases args;simp_all):p:=h
theorem JD{p:Prop}(h:p:=by obtain⟨m,hm⟩:=k0;exact DataW.trod_lt m _ _ _ hm):p:=h
theorem AV{p:Prop}(h:p:=by rw[OpenClaim.pre_eq_preRow];exact lifted os started H enc F):p:=h
theorem AX{p:Prop}(h:p:=by simpa using Array.mem_of_getElem? ht):p:=h
theorem AY{p:Prop}(h:p:=by simpa using IQ.1 hall t hin):p:=h
theorem YQ{p:Prop}(h:p:=by obtain⟨x',g1,g2,_,_,g5,_⟩:=h7 i x hx;exact⟨x',g1,g2,g5⟩):p:=h
theorem Qn{p:Prop}(h:p:=by obtain⟨m,hm⟩:=k1;exact DataW.trod_lt m _ _ _ hm):p:=h
theorem JE{p:Prop}(h:p:=by rw[Sc.fM];omega):p:=h
theorem Qp{p:Prop}(h:p:=by rw[hov];simp[Ps.iX,HG.out.1,HG.out.2.1,HG.out.2.2];omega):p:=h
theorem YR{p:Prop}(h:p:=by rw[HS.out]):p:=h
theorem Qq{p:Prop}(h:p:=by rw[<-hw3,<-hxb];exact heap_alloc_new _ _):p:=h
theorem YS{p:Prop}(h:p:=by obtain⟨m,hm⟩:=k2;exact DataW.trod_lt m _ _ _ hm):p:=h
theorem YT{p:Prop}(h:p:=by rw[hbe];simp;omega):p:=h
theorem yT{p:Prop}(h:p:=by unfold fU;rw[dW dS]):p:=h
theorem JF{p:Prop}(h:p:=by have:=ji (l:=l) (e:=e) (i:=i) dS;omega):p:=h
theorem Qr{p:Prop}(h:p:=by rw[h]at c4;exact absurd c4 dU):p:=h
theorem JG{p:Prop}(h:p:=by unfold kd;rw[dX (.inl dS)]):p:=h
theorem JH{p:Prop}(h:p:=by rw[dW dU]):p:=h
theorem YU{p:Prop}(h:p:=by have:=TC.out (j+1) w3 R3 false dS dS hc1 h1 h2 hr;rw[show((j+1:Nat):Int)=(j:Int)+1 from dS]at this;exact this):p:=h
theorem aix{p:Prop}(h:p:=by rw[show((op+1:Nat):Int)=(op:Int)+1 from dS];exact hW.symm):p:=h
theorem Qs{p:Prop}(h:p:=by rw[<-zC];exact Below.heap_setCell _ _ _ _ (λe=>eU O8 kR4 dU Qd)):p:=h
theorem Ea{p:Prop}(h:p:=by rw[IntWalk.i64_in _ dS];omega):p:=h
theorem Qt{p:Prop}(h:p:=by subst e;exact absurd hc dU):p:=h
theorem Qu{p:Prop}(h:p:=by rw[hE,IW dS];omega):p:=h
theorem aiy{p:Prop}(h:p:=by rw[show l.length+1=(l++[((k,at',T):Tk)]).length from eG];exact jH xm.out 1 _):p:=h
theorem yU{p:Prop}(h:p:=by rw[hcI];exact jE.2 dS):p:=h
theorem Qv{p:Prop}(h:p:=by rw[ext_size s 0 m dS];omega):p:=h
theorem aiz{p:Prop}(h:p:=by rw[HR.out];rw[show((o+1:Nat):Int)=(o:Int)+1 from dS];exact(qL _ h1.1 h1.2).1):p:=h
theorem Qw{p:Prop}(h:p:=by unfold Ps.tree;rw[dW dS]):p:=h
theorem Qx{p:Prop}(h:p:=by rw[Vn.out,dW Qp];exact oW C):p:=h
theorem YV{p:Prop}(h:p:=by rw[show(m:Int)-1=(m2:Int)by omega];exact IntWalk.i64_in _ dS):p:=h
theorem YW{p:Prop}(h:p:=by rw[show(m:Int)-1=(m2:Int)by omega];exact IntWalk.wrap64_in _ dS):p:=h
theorem Qy{p:Prop}(h:p:=by
 refine⟨rfl,⟨j+1,false,b13,b14,_,_,⟨rfl,rfl,rfl,rfl,rfl,rfl,rfl,rfl,rfl,rfl,rfl,rfl,rfl,rfl,rfl,rfl,rfl,rfl⟩,Li⟩,?_⟩;have hnew:=Li.out.vars.c14.cell;have hold:=HC.out.vars.c14.cell;have hq1:=Li.out.pl;have hq2:=Pt.out.1;show l.length-(intOf ((World.cell? _ ⟨b14,0,none⟩).getD undef)).toNat<l.length-(intOf ((World.cell? _ ⟨b14,0,none⟩).getD undef)).toNat
 rw[hnew,hold];show l.length-((j+1:Nat):Int).toNat<l.length-((p:Nat):Int).toNat
 omega):p:=h
theorem Eb{p:Prop}(h:p:=by
 have hnt:j=e\/(λj=>!cnt (raw l j)) j=false:=by
  have:=ma (λj=>!cnt (raw l j)) (e-p) p;unfold fI at hj;rw[hj]at this;rcases this with h|h
  ·exact .inl dS
  ·exact .inr h
 rcases hnt with h|h
 ·omega
 ·simpa using h):p:=h
theorem AZ{p:Prop}(h:p:=by exact⟨_,_,(qx.out.set2 T).alL _,jH (jH xm.out 2 _) 5 _,jI (jI HB2.out (eO b) 2 _) (eO b) 5 _,dY (⟨Qj,rfl⟩)⟩):p:=h
theorem YX{p:Prop}(h:p:=by
 have hbk:begins k=false:=by
  unfold begins;rw[uN,show gX k=false by simpa using c2,show opens k=false by simpa using c4,show(k==18)=false by simpa using c3];rfl
 by_cases hp:i0=p
 ·rw[<-hp,<-m2,hkd];exact hbk
 ·have:=Qz (λj=>raw l j==3) (e-p) p (by rw[<-hi0]at hp;exact hp);have h3:raw l p=3:=by simpa using this
  unfold kd;split
  ·rfl
  ·rw[h3];rfl):p:=h
theorem ll{p:Prop}(h:p:=by
 try simp only[Exit.jump]
 exact HD.out):p:=h
theorem YY{p:Prop}(h:p:=by
 by_cases hm:J=20\/J=21
 ·rw[hk2.2.2 hm]at h;cases h
 ·rw[hk2.2.1 dS dS]at h;omega):p:=h
theorem JI{p:Prop}(h:p:=by
 have h3:=hall e he hb;have h0:=(mem_ready.1 hr).1;rw[heq]at h3;rcases mD i listed.size with h'|h'
 ·simp[h']at h0 h3;rw[h0]at h3;cases h3
 ·simp[Array.getElem?_eq_none h']at h3):p:=h
theorem aiA{p:Prop}(h:p:=by
 have e2:∀v,(w5.setCell ⟨rb,6,none⟩ v).cell? ⟨rb,6,none⟩=some v:=λv=>ig _ _ _ (by rw[c56];rfl)
 have e3:wr.cell? ⟨rb,6,none⟩=some (.int .i64 (QR:Int)):=aiw
 simp[intOf,e2,e3];omega):p:=h
theorem JJ{p:Prop}(h:p:=by
 intro j hj;rcases Nat.lt_or_eq_of_le (Nat.le_of_lt_succ hj)with h|h
 ·exact hall.out j h
 ·subst h;rw[hgd,<-hge];exact hc):p:=h
theorem YZ{p:Prop}(h:p:=by
 rw[oI]at hq;split at hq
 ·split at hq
  ·injection hq with hq
   subst hq;show World.ownsRow _ _ _ _ p.val (p.nd.ks.set j z').length (encI.all (p.nd.ks.set j z'));rw[hv];exact hset
  ·cases hq
 ·rename_i hne;exact ownsRow_setCell_other (h.kids a q hq) (λe=>h.apart a i q p (λe=>hne e.symm) hq hp kg e DZ) _):p:=h
theorem Y3{p:Prop}(h:p:=by
 refine r9 (λi=>?_);by_cases hi:i<l.length
 ·rw[nK nX,tu hi]
 ·by_cases e:i=l.length
  ·subst e;rw[hz,oH nX,mX,IW dS,si];rfl
  ·rw[sZ dS,sZ ais]):p:=h
theorem JK{p:Prop}(h:p:=by refine CE _ _ _ _ _ dS ?_;simp only[decodeN];rw[dW dS,dW dS,dW dS,dW dS]):p:=h
theorem QA{p:Prop}(h:p:=by rw[<-hw1,<-hBr];have h:=xG (W:=w.alloc (.cells #[.slice a N cap] 31)) (C:=#[.slice none 0 0]) (t:=31) (k:=0) rfl;rw[size_alloc]at h;exact h):p:=h
theorem aiB{p:Prop}(h:p:=by exact⟨_,qx.out.alM HG3.out Cw.out,(HB2.out.grown HG3.out (alN.out w2 HB2.out) (λq hq=>aiu)).setCell (p:=⟨Be,0,none⟩) YK _⟩):p:=h
theorem Y4{p:Prop}(h:p:=by
 subst e;rw[hoj]at hst;obtain rfl:=iG hst;obtain⟨e,he,hb,heq⟩:=ako;have h3:=hall e he hb;rw[heq]at h3;rcases mD k listed.size with h'|h'
 ·simp[h']at hk h3;rw[hk]at h3;cases h3
 ·simp[Array.getElem?_eq_none h']at h3):p:=h
theorem Y5{p:Prop}(h:p:=by
 by_cases h:i0<e
 ·rw[<-hkd,m2];exact m3 dS
 ·have:k=0:=by rw[<-hkd];unfold kd;rw[dX (.inl dS)]
  rw[this];rfl):p:=h
theorem Y6{p:Prop}(h:p:=by
 rw[Lib.decode_at];have h0:(s.get! p).toNat<256:=XW _
 generalize (s.get! p).toNat=b0,(s.get! (p+1)).toNat=b1,(s.get! (p+2)).toNat=b2,(s.get! (p+3)).toNat=b3 at*;unfold Lib.decodeN
 (repeat' split)<;>(dsimp only at*;omega)):p:=h
theorem Y7{p:Prop}(h:p:=by
 intro i x' hx';have hi:=(eY.1 hx').1;obtain⟨x,hx⟩:∃x,l[i]?=some x:=⟨_,fu dS⟩
 obtain⟨y,h1,h2⟩:=G i x hx;rw[hx']at h1;injection h1 with h1;subst h1
 exact⟨x,hx,h2⟩):p:=h
theorem Y8{p:Prop}(h:p:=by
 refine⟨h.1,?_⟩;rcases h.2 with h0|⟨g,cap,cur,hv,hbg,hg,rest⟩
 ·exact .inl h0
 ·have hlt:g<w.heap.size:=(Dl.1 hg).1
  exact .inr ⟨g,cap,cur,hv,hbg,(hb.block g hlt).trans hg,rest⟩):p:=h
theorem aiC{p:Prop}(h:p:=by rw[HWd.out,akp.out,akq.out];clear HWd akq akp ahY;rename_i K hK;refine hK _ _ (ahZ.out _ _ ⟨op+1,false,b13,b14,_,_,⟨rfl,rfl,rfl,rfl,rfl,rfl,rfl,rfl,rfl,rfl,rfl,rfl,rfl,rfl,rfl,rfl,rfl,rfl⟩,HC⟩)):p:=h
theorem Y9{p:Prop}(h:p:=by refine wpList_append_own_none hgd x y t ho base e i E.k T.ht hi v l.length (E.all l) hs hown hy ?_;refine h v w ?_ ⟨rfl,rfl,rfl,eO _,λ_ _ _=>rfl⟩ (.inl rfl);rw[nJ];exact hown):p:=h
theorem aiD{p:Prop}(h:p:=by exact⟨_,qx.out.set1 _,aiy,jI (Below.grown (yn.out.mono (pJ Df.out)) HG2.out (Nat.le_of_succ_le HL3.out) (λq hq=>Nat.le_of_succ_le (HO1.out.lt q hq).1)) (eO b) 1 _⟩):p:=h
theorem JL{p:Prop}(h:p:=by
 have:r[i]?=none:=by rw[AA]at hx⊢;omega
 rw[this]):p:=h
theorem A8{p:Prop}(h:p:=by subst hji;exact hy.wpOp hi hC ⟨λ_=>hC,H⟩):p:=h
theorem Za{p:Prop}(h:p:=by
 intro a q hq;rw[oI]at hq;split at hq
 ·rename_i e;split at hq
  ·injection hq with hq
   subst hq;exact⟨p,e▸hp,rfl⟩
  ·cases hq
 ·exact⟨q,hq,rfl⟩):p:=h
theorem aiE{p:Prop}(h:p:=by
 refine⟨rfl,⟨rfl,t,h+1,⟨rfl,rfl,rfl,rfl,rfl,rfl,rfl,rfl,rfl,rfl,rfl,rfl,rfl,rfl⟩,HJ⟩,?_⟩;show l.length-((t:Nat):Int).toNat<l.length-((h:Nat):Int).toNat
 omega):p:=h
theorem Zb{p:Prop}(h:p:=by
 rintro⟨h1,h2⟩;rcases ho with h3|h3
 ·omega
 ·rcases h2 with h2|h2
  ·rw[h2]at h3;exact absurd h3 dU
  ·unfold opens at h3;unfold ends at h2;simp at h2 h3;omega):p:=h
theorem Zc{p:Prop}(h:p:=by
 rcases h.2 with⟨h1,_⟩|⟨b,cap,cur,hv,_,hh,_⟩
 ·rw[h1]at hg;cases hg
 ·rw[hv]at hg;obtain rfl:b=g:=by simpa [Value.ownBlock]using hg
  exact⟨cur,(0,0),hh⟩):p:=h
theorem Zd{p:Prop}(h:p:=by
 split
 ·unfold Sc.named
  repeat' split
  all_goals first|decide|simp
 split
 ·unfold Sc.quoted
  repeat' split
  all_goals first|decide|simp
 split
 ·simp
 split<;>simp):p:=h
theorem Ze{p:Prop}(h:p:=by refine⟨rfl,⟨rfl,q+1,_,_,_,_,_,_,_,_,_,_,_,_,_,_,_,_,_,_,_,_,_,_,_,_,_,_,_,_,_,_,_,_,_,_,_,_,_,_,_,_,rfl,dS,HJ⟩,?_⟩;simp[intOf];omega):p:=h
theorem Zf{p:Prop}(h:p:=by
 obtain rfl:j=r.from':=by omega
 have:=hS.first r hmem;refine⟨λh=>?_,λh=>?_⟩
 ·have:=this.2 (.inl h);omega
 ·have:=this.2 (.inr h);omega):p:=h
theorem Zg{p:Prop}(h:p:=by exfalso;rw[List.find?_eq_none]at hf;obtain⟨r,hr,he⟩:=Mm l h3;have:=hf r hr;simp[he]at this;have h4:=this h1;have:=h2 h4.1;omega):p:=h
theorem aiF{p:Prop}(h:p:=by
 try simp only[Exit.jump]
 first|exact HD.out _ (Go.below_drewN TD.out _)|exact HD.out _ (Go.below_drewN (Go.below_drewN TD.out _) _)):p:=h
theorem A9{p:Prop}(h:p:=by rw[hbg]at v2;exact absurd v2 dU):p:=h
theorem Zh{p:Prop}(h:p:=by
 have:=Bz _ 5 hk dU;rcases mD p ts.length with h|h
 ·exact h
 ·exact absurd (oG h) this):p:=h
theorem Zi{p:Prop}(h:p:=by
 rename_i hm;rw[h3]at hk;have hm:=hm.2;unfold Sc.mark at hk
 repeat' split at hk
 all_goals first|(exact absurd hk dU)|omega):p:=h
theorem JM{p:Prop}(h:p:=by (repeat' split)<;>exact⟨eG,eG,eG⟩):p:=h
theorem Zj{p:Prop}(h:p:=by
 unfold World.cell? at h;rcases mD a.block w.heap.size with h'|h'
 ·exact h'
 ·simp[Array.getElem?_eq_none h']at h):p:=h
theorem Zk{p:Prop}(h:p:=by refine⟨rfl,rfl,q+1,_,_,_,_,_,_,_,_,_,_,_,_,_,_,_,_,_,_,_,_,_,_,_,_,_,_,_,_,_,_,_,_,_,_,_,_,_,_,_,_,rfl,dS,HJ⟩):p:=h
theorem JN{p:Prop}(h:p:=by
 unfold keyed;split
 ·rfl
 ·rw[nQ]):p:=h
theorem Zl{p:Prop}(h:p:=by rw[oG dS];exact⟨λr h=>fV,λi r r' h=>YB,λi r h=>YB,λ_=>dS⟩):p:=h
theorem Zm{p:Prop}(h:p:=by exact⟨(h.nodes.row.lt g hg).1,(h.nodes.row.lt g hg).2,λe=>eU h.nodes.row h.box dU (e▸hg)⟩):p:=h
theorem aiG{p:Prop}(h:p:=by refine⟨rfl,⟨rfl,t,_,_,_,_,_,_,_,_,_,_,_,_,_,_,_,_,_,_,_,_,_,_,_,_,rfl,dS,HJ⟩,?_⟩;simp[intOf];omega):p:=h
theorem yV{p:Prop}(h:p:=by exact .inl (.inr (.inl hk))):p:=h
theorem Zn{p:Prop}(h:p:=by
 rcases h with⟨_,h⟩|⟨b,off,cap,_,h2,h3,_⟩
 ·rw[h];exact fP _
 ·exact iU h2 h3):p:=h
theorem Ec{p:Prop}(h:p:=by exact .inl (.inr (.inr (.inr hk)))):p:=h
theorem Zo{p:Prop}(h:p:=by
 rcases mD (vO ts) ts.length with g|g
 ·exact g
 ·exact absurd (oG g) k3):p:=h
theorem Zp{p:Prop}(h:p:=by
 by_cases hm:K=20\/K=21
 ·rw[hkk.2.2 hm];rfl
 ·rw[hkk.2.1 dS dS];unfold gG;simp;omega):p:=h
theorem aiH{p:Prop}(h:p:=by
 try simp only[Exit.jump]
 exact HD.out nq):p:=h
theorem JO{p:Prop}(h:p:=by rw[getD_set_ne true hjk]at hun;exact hun):p:=h
theorem Zq{p:Prop}(h:p:=by
 by_cases hm:K=20\/K=21
 ·rw[hkk.2.2 hm];rfl
 ·rw[hkk.2.1 dS dS];unfold gX;simp;omega):p:=h
theorem Zr{p:Prop}(h:p:=by exact⟨(h.told.lt g hg).1,(h.told.lt g hg).2,λe=>eU h.told h.box dU (e▸hg)⟩):p:=h
theorem Zs{p:Prop}(h:p:=by rw[gP];unfold oJ;dsimp only;rw[hb,hlead];dsimp only;rw[hkd,dW dU,dX dU];rfl):p:=h
theorem Zt{p:Prop}(h:p:=by
 rw[hkd];unfold begins;rcases h with h|h|h|h
 ·rw[h];rfl
 ·rw[h];simp
 ·rw[h];rfl
 ·rw[h];simp):p:=h
theorem Zu{p:Prop}(h:p:=by
 by_cases hm:K=20\/K=21
 ·rw[hkk.2.2 hm]at h;cases h
 ·rw[hkk.2.1 dS dS]at h;omega):p:=h
theorem Zv{p:Prop}(h:p:=by
 subst e;rw[hx]at hy;injection hy with hy;subst hy
 rw[yE hj,dX rfl]):p:=h
theorem Zw{p:Prop}(h:p:=by
 exact⟨qp.1,λh0=>by
 by_cases hc:c<0
 ·have:=(hq hc).1;omega
 ·show 0<=c;omega⟩):p:=h
theorem JP{p:Prop}(h:p:=by (repeat' split)<;>(dsimp only;omega)):p:=h
theorem Zx{p:Prop}(h:p:=by simp[convert,run_underlying underlying21,run_underlying underlying9,Conv.intToString]):p:=h
theorem aiI{p:Prop}(h:p:=by rw[hres,hok,hp,hh,jE.2 h35];rfl):p:=h
theorem aiJ{p:Prop}(h:p:=by refine⟨rfl,rfl,t,_,_,_,_,_,_,_,_,_,_,_,_,_,_,_,_,_,_,_,_,_,_,_,_,rfl,dS,HJ⟩):p:=h
theorem Zy{p:Prop}(h:p:=by
 rcases kY.1 hx with rfl|hx
 ·exact eO _
 ·have:=h1 x hx;omega):p:=h
theorem Zz{p:Prop}(h:p:=by refine⟨x,hx,g2,λhk=>?_⟩;have:=hE i x hx hk;rw[hx']at this;injection this):p:=h
theorem aiK{p:Prop}(h:p:=by exact abM _ _ _ _ _ rfl (Below.refl _ _)):p:=h
theorem ZA{p:Prop}(h:p:=by rw[dW c4,dW c4];exact Ff h hw hn depth o.cur p.root _ hlt hle):p:=h
theorem ZB{p:Prop}(h:p:=by subst hji;exact hy.wpOp hi trivial ⟨λh=>hC (by rw[<-hus];exact h),H⟩):p:=h
theorem ZC{p:Prop}(h:p:=by apply BitVec.eq_of_toNat_eq;rw[BitVec.toNat_ofInt,ahE];omega):p:=h
theorem wH{p:Prop}(h:p:=by exact .inl (.inl hk)):p:=h
theorem ZD{p:Prop}(h:p:=by
 refine .inl ⟨rfl,?_⟩;obtain⟨_,m2,m3⟩:=l4 rfl;have uN:gG k=false:=Y5
 exact YX):p:=h
end Go.Proofs.YtmkkdjpebbdikaaGreatDoor

import Derived.Test.YtmkkdjpebbdikaaGreatDoorZb11
import Derived.Deep.QuietTactic
import Derived.ScopeJumps
import Derived.Shelf.Strings.IndexAnyAll
import Derived.Shelf.Strings.Prefix
import Derived.Shelf.Strings.SlTrimAscii
import Derived.StillTail
import Derived.Test.YtmkkdjpebbdikaaGreatDoorProg
set_option linter.all false
set_option maxHeartbeats 16000000
set_option maxRecDepth 100000
namespace Go.Proofs.YtmkkdjpebbdikaaGreatDoor
open Go.RowKit Tryz
def aih:=@wp_scope_jumps
end Go.Proofs.YtmkkdjpebbdikaaGreatDoor
namespace Go
open Go.Proofs.YtmkkdjpebbdikaaGreatDoor
section
variable {P:Program}{ops:Array Oper}{Q:Exit->Act->World->Prop}{md:Region.Mode}{C:World->Prop}{st:Nat}
variable {d:Option Tmp}{op:Op}{ty:TypeId}{ps:String}{af:Array Edge}{g:Option (Nat×Bool)}{fuel:Nat}{listed:Array Bool}{a a':Act}{w:World}
theorem tka(i:Nat)(v:Value)(hy:∀w:World,(execOp a.eval ⟨d,op,ty,ps,af,g⟩).run P w=.ok (.value v) w)(hC:listed.getD st true=false->C w)(h:gQ P md ops Q C st fuel (listed.setIfInBounds i true) a' w)
 (hi:ops[i]?=some ⟨d,op,ty,ps,af,g⟩:=by exact rfl) (hs:Region.noSelect ops=true:=by kernel_rfl) (hf:Region.free md ops listed i=true:=by kernel_rfl) (hr:(Region.ready md ops listed).contains i=true:=by kernel_rfl) (hne:(i !=st)=true:=by kernel_rfl)
 (hQ:∀c a w,Q (.panic c) (a.put d v) w->Q (.panic c) a w:=by exact λ_ _ _ h=>h) (hw:Region.wanted ⟨d,op,ty,ps,af,g⟩ (yielded ops a.tmps)=true:=by exact rfl)
 (ha:a.put d v=a':=by(simp only[Act.put,fG,fB,fC];exact rfl)):gQ P md ops Q C st (fuel+1) listed a w:=by
 subst ha;exact Ao hi hs hf hr hne hQ (.inl ⟨hw,λw _=>.of_run (hy w)⟩) hC h
theorem rV(i:Nat)(v:Value)(hy:∀w,C w->(execOp a.eval ⟨d,op,ty,ps,af,g⟩).run P w=.ok (.value v) w)(hC:C w)(h:gQ P md ops Q C st fuel (listed.setIfInBounds i true) a' w)
 (hi:ops[i]?=some ⟨d,op,ty,ps,af,g⟩:=by exact rfl) (hs:Region.noSelect ops=true:=by kernel_rfl) (hf:Region.free md ops listed i=true:=by kernel_rfl) (hr:(Region.ready md ops listed).contains i=true:=by kernel_rfl) (hw':Region.waits md ops st i=true:=by kernel_rfl) (hst:listed.getD st true=false:=by kernel_rfl)
 (hQ:∀c a w,Q (.panic c) (a.put d v) w->Q (.panic c) a w:=by exact λ_ _ _ h=>h) (hw:Region.wanted ⟨d,op,ty,ps,af,g⟩ (yielded ops a.tmps)=true:=by exact rfl)
 (ha:a.put d v=a':=by(simp only[Act.put,fG,fB,fC];exact rfl)):gQ P md ops Q C st (fuel+1) listed a w:=by
 subst ha;exact nN hi hs hf hr hw' hst hQ (.inl ⟨hw,λw hC=>.of_run (hy w hC)⟩) hC h
theorem tkc(k i:Nat)(v:Value)(hy:∀w,C w->(execOp a.eval ⟨d,op,ty,ps,af,g⟩).run P w=.ok (.value v) w)(hC:C w)(h:gQ P md ops Q C st fuel (listed.setIfInBounds i true) a' w)
 (hi:ops[i]?=some ⟨d,op,ty,ps,af,g⟩:=by exact rfl) (hs:Region.noSelect ops=true:=by kernel_rfl) (hf:Region.free md ops listed i=true:=by kernel_rfl) (hr:(Region.ready md ops listed).contains i=true:=by kernel_rfl) (hw':(Region.waits md ops st k&&Region.waits md ops k i&&(i !=st))=true:=by kernel_rfl) (hst:(!listed.getD st true&& !listed.getD k true)=true:=by kernel_rfl)
 (hQ:∀c a w,Q (.panic c) (a.put d v) w->Q (.panic c) a w:=by exact λ_ _ _ h=>h) (hw:Region.wanted ⟨d,op,ty,ps,af,g⟩ (yielded ops a.tmps)=true:=by exact rfl)
 (ha:a.put d v=a':=by(simp only[Act.put,fG,fB,fC];exact rfl)):gQ P md ops Q C st (fuel+1) listed a w:=by
 subst ha;exact Ap k hi hs hf hr hw' hst hQ (.inl ⟨hw,λw hC=>.of_run (hy w hC)⟩) hC h
theorem tkd(k m i:Nat)(v:Value)(hy:∀w,C w->(execOp a.eval ⟨d,op,ty,ps,af,g⟩).run P w=.ok (.value v) w)(hC:C w)(h:gQ P md ops Q C st fuel (listed.setIfInBounds i true) a' w)
 (hi:ops[i]?=some ⟨d,op,ty,ps,af,g⟩:=by exact rfl) (hs:Region.noSelect ops=true:=by kernel_rfl) (hf:Region.free md ops listed i=true:=by kernel_rfl) (hr:(Region.ready md ops listed).contains i=true:=by kernel_rfl) (hw':(Region.waits md ops st k&&(Region.waits md ops k m&&Region.waits md ops m i&&(i !=st)))=true:=by kernel_rfl) (hst:(!listed.getD st true&&(!listed.getD k true&& !listed.getD m true))=true:=by kernel_rfl)
 (hQ:∀c a w,Q (.panic c) (a.put d v) w->Q (.panic c) a w:=by exact λ_ _ _ h=>h) (hw:Region.wanted ⟨d,op,ty,ps,af,g⟩ (yielded ops a.tmps)=true:=by exact rfl)
 (ha:a.put d v=a':=by(simp only[Act.put,fG,fB,fC];exact rfl)):gQ P md ops Q C st (fuel+1) listed a w:=by
 subst ha;exact Aq k m hi hs hf hr hw' hst hQ (.inl ⟨hw,λw hC=>.of_run (hy w hC)⟩) hC h
theorem uf(i:Nat)(v:Value)(hy:∀w,C w->(execOp a.eval ⟨d,op,ty,ps,af,g⟩).run P w=.ok (.value v) w)(hC:C w)(h:wpAnyH P md ops Q C fuel (listed.setIfInBounds i true) a' w)
 (hi:ops[i]?=some ⟨d,op,ty,ps,af,g⟩:=by exact rfl) (hs:Region.noSelect ops=true:=by kernel_rfl) (hf:Region.free md ops listed i=true:=by kernel_rfl) (hr:(Region.ready md ops listed).contains i=true:=by kernel_rfl)
 (hQ:∀c a w,Q (.panic c) (a.put d v) w->Q (.panic c) a w:=by exact λ_ _ _ h=>h) (hw:Region.wanted ⟨d,op,ty,ps,af,g⟩ (yielded ops a.tmps)=true:=by exact rfl)
 (ha:a.put d v=a':=by(simp only[Act.put,fG,fB,fC];exact rfl)):wpAnyH P md ops Q C (fuel+1) listed a w:=by
 subst ha;exact vM hi hs hf hr hQ (.inl ⟨hw,hy⟩) hC h
end
end Go
namespace Go.Proofs.YtmkkdjpebbdikaaGreatDoor
open RowKit Tryz
section
open Go.RowKit
theorem Um:∀(f:Nat)(s:Sc.St)(p:Nat)(l:List Nat),∀x∈Sc.toks f s p l,x.2.1<=p+l.length/\x.2.2<=p+l.length
 |0,_,_,_=>λx h=>fV
 |f+1,s,p,l=>λx h=>by
  rw[Sc.toks]at h;by_cases hl:l=[]
  ·rw[dX hl]at h;cases h
  ·rw[dW hl]at h;have hp:=Sc.step_pos s l hl;rcases kY.1 h with rfl|h
   ·exact⟨by show p<=_;omega,by show p+(Sc.step s l).2.1<=_;omega⟩
   ·have:=Um f _ _ _ x h;rw[ky]at this;omega
theorem mJ(l:List Nat)(x:Tk)(h:x∈Sc.tokens l):x.2.1<=l.length/\x.2.2<=l.length:=by
 unfold Sc.tokens at h;split at h
 ·cases h
 ·have:=Um _ _ _ _ x h;omega
theorem MS:∀(f:Nat)(s:Sc.St)(p:Nat)(l:List Nat),(Sc.toks f s p l).length<=f
 |0,_,_,_=>by simp[Sc.toks]
 |f+1,s,p,l=>by
  rw[Sc.toks];split
  ·simp
  ·rw[iR];have:=MS f (Sc.step s l).2.2 (p+(Sc.step s l).2.1) (l.drop (Sc.step s l).2.1);omega
theorem mq(l:List Nat):(Sc.tokens l).length<=l.length:=by
 unfold Sc.tokens;split
 ·simp
 ·exact MS _ _ _ _
end
section
open Go.RowKit
theorem V5(op:Nat)(dash blank first:Bool)(r:List Nat):(Sc.next op dash blank first r).1≠0:=by
 unfold Sc.next;split
 ·rename_i h;show Sc.mark r≠0;omega
 split
 ·simp
 split
 ·simp
 split
 ·simp
 unfold Sc.word;split
 ·rename_i h;show Sc.sign op dash r≠0;omega
 split
 ·rename_i h;omega
 split
 ·rename_i h;omega
 split
 ·simp
 split<;>simp
theorem V6(s:Sc.St)(l:List Nat):(Sc.step s l).1≠0:=by
 unfold Sc.step Sc.mid
 repeat' split
 all_goals first|exact V5 _ _ _ _ _|simp
theorem Hr:∀(f:Nat)(s:Sc.St)(p:Nat)(l:List Nat),∀x∈Sc.toks f s p l,x.1≠0
 |0,_,_,_=>λx h=>fV
 |f+1,s,p,l=>λx h=>by
  rw[Sc.toks]at h;by_cases hl:l=[]
  ·rw[dX hl]at h;cases h
  ·rw[dW hl]at h;rcases kY.1 h with rfl|h
   ·exact V6 s l
   ·exact Hr f _ _ _ x h
theorem afE{l:List Tk}{i:Nat}(h:i<l.length):∃x∈l,Fl.raw l i=x.1:=by
 refine⟨l[i],OZ h,?_⟩;unfold Fl.raw;rw[fu h]
end
section
open Go.RowKit
theorem afF(op:Nat)(dash:Bool)(r:List Nat):Sc.sign op dash r≠2/\Sc.sign op dash r≠19:=by
 unfold Sc.sign;split
 ·simp
 ·repeat' split
  all_goals decide
theorem KL(op:Nat)(dash:Bool)(r:List Nat):(Sc.word op dash r).1≠2/\(Sc.word op dash r).1≠19:=by
 unfold Sc.word;split
 ·exact afF op dash r
 exact Zd
theorem afG(op:Nat)(dash blank:Bool)(r:List Nat):(Sc.next op dash blank false r).1≠2/\(Sc.next op dash blank false r).1≠19:=by
 unfold Sc.next;rw[dW eG,dW eG];split
 ·simp
 split
 ·simp
 exact KL op dash r
theorem afH(s:Sc.St)(l:List Nat)(h:s.eT≠0):(Sc.step s l).1≠2/\(Sc.step s l).1≠19:=by
 unfold Sc.step;rw[dW h];unfold Sc.mid;split
 ·simp
 ·have:(s.eT==0)=false:=by simpa using h
  rw[this];exact afG _ _ _ _
theorem MU(s:Sc.St)(l:List Nat)(hl:l≠[])(h1:(Sc.step s l).1≠1)(h19:(Sc.step s l).1≠19):(Sc.step s l).2.2.eT≠0:=by
 have key:∀s:Sc.St,(Sc.mid s l).1≠1->(Sc.mid s l).2.2.eT≠0:=by
  intro s h;unfold Sc.mid at h⊢;split
  ·rename_i h0;rw[dX h0]at h;exact absurd rfl h
  ·rename_i h0;show s.eT+(Sc.next s.op s.dash s.blank (s.eT==0) (Sc.iV l)).2≠0;have hlen:=Sc.ru l;cases hr:Sc.iV l with
   |nil=>rw[hr]at hlen;exact absurd hlen.symm h0
   |cons c r=>
    have:=(Sc.zH s.op s.dash s.blank (s.eT==0) c r).1;omega
 unfold Sc.step at h1 h19⊢;split
 ·split
  ·rename_i hc ht;rw[dX hc,dX ht]at h19;exact absurd rfl h19
  ·rename_i hc ht;rw[dX hc,dW ht]at h1;exact key _ h1
 ·rename_i hc;rw[dW hc]at h1;exact key _ h1
theorem EK:∀(f:Nat)(s:Sc.St)(p:Nat)(l:List Nat),(∀x,(Sc.toks f s p l)[0]?=some x->s.eT≠0->x.1≠2/\x.1≠19)/\
 ∀(i:Nat)(x y:Nat×Nat×Nat),(Sc.toks f s p l)[i]?=some x->(Sc.toks f s p l)[i+1]?=some y->x.1≠1->x.1≠19->y.1≠2/\y.1≠19
 |0,_,_,_=>⟨λx h=>Jn,λi x y h=>Jn⟩
 |f+1,s,p,l=>by
  rw[Sc.toks];by_cases hl:l=[]
  ·rw[dX hl];exact⟨λx h=>jQ,λi x y h=>jQ⟩
  ·rw[dW hl];obtain⟨g1,g2⟩:=EK f (Sc.step s l).2.2 (p+(Sc.step s l).2.1) (l.drop (Sc.step s l).2.1);refine⟨λx h hc=>?_,λi x y hx hy h1 h19=>?_⟩
   ·have h:((Sc.step s l).1,p,p+(Sc.step s l).2.1)=x:=by simpa using h
    subst h;exact afH s l hc
   ·cases i with
    |zero=>
     have hx:((Sc.step s l).1,p,p+(Sc.step s l).2.1)=x:=jJ
     subst hx;exact g1 y wB (MU s l hl h1 h19)
    |succ i=>exact g2 i x y jJ wB h1 h19
theorem afI{l:List Tk}(h:∀(i:Nat)(x y:Tk),l[i]?=some x->l[i+1]?=some y->x.1≠1->x.1≠19->y.1≠2/\y.1≠19):Fl.Ej l:=by
 intro i j hi hij hm;by_cases hj:j<l.length
 ·obtain⟨k,rfl⟩:∃k,j=k+1:=⟨j-1,dS⟩
  have hk:l[k]?=some l[k]:=fu dS;have hk1:l[k+1]?=some l[k+1]:=fu hj;have hr:Fl.raw l k=l[k].1:=by unfold Fl.raw;rw[hk]
  have hr1:Fl.raw l (k+1)=l[k+1].1:=by unfold Fl.raw;rw[hk1]
  rw[hr1];have hq:l[k].1=18\/l[k].1=3\/l[k].1=4:=by
   rw[<-hr];by_cases e:k=i
   ·subst e;exact .inl hi
   ·exact .inr (hm k dS dS)
  exact h k _ _ hk hk1 dS dS
 ·unfold Fl.raw;rw[sZ dS];decide
theorem acw(L:List Nat):oV (Sc.tokens L):=by
 refine⟨λi hi=>?_,?_⟩
 ·obtain⟨x,hx,e⟩:=afE hi;rw[e];unfold Sc.tokens at hx;split at hx
  ·cases hx
  ·exact Hr _ _ _ _ x hx
 ·unfold Sc.tokens;split
  ·intro i j hi;unfold Fl.raw at hi;simp at hi
  ·exact afI (EK _ _ _ _).2
theorem oV.take{l:List Tk}(h:oV l)(n:Nat):oV (l.take n):=by
 have hr:∀i,Fl.raw (l.take n) i=if i<n then Fl.raw l i else 0:=by
  intro i;unfold Fl.raw;split
  ·rename_i x hx;have hi:=(eY.1 hx).1;rw[mX]at hi;rw[tu dS]at hx;rw[dX dS,hx]
  ·rename_i hx;split
   ·rename_i hi;rw[tu hi]at hx;rw[hx]
   ·rfl
 refine⟨λi hi=>?_,λi j hi hij hm=>?_⟩
 ·rw[mX]at hi;rw[hr,dX dS];exact h.pos i dS
 ·rw[hr]at hi⊢;split at hi
  ·split
   ·rename_i h1 h2;exact h.head i j hi hij (λm h3 h4=>by have:=hm m h3 h4;rw[hr,dX dS]at this;exact this)
   ·decide
  ·simp at hi
end
end Go.Proofs.YtmkkdjpebbdikaaGreatDoor
namespace Go
open Go.Proofs.YtmkkdjpebbdikaaGreatDoor
theorem BV{P:Program}{o:Oper}{a:Act}{w:World}{v:Value}{K:Act->Prop}(h:o.quietAt P a (λW=>W=w) w v)(hk:K (a.put o.dst v)):o.still P a w K:=by
 unfold Oper.quietAt at h;unfold Oper.still
 revert h
 generalize (execOp a.eval o).run P w=r;intro h;cases r with
 |halt x w'=>exact h.elim
 |ok n w' =>
  cases n with
  |value u=>obtain⟨rfl,rfl⟩:=h;exact⟨rfl,hk⟩
  |skip=>obtain⟨rfl,rfl⟩:=h;exact⟨rfl,hk⟩
  |enter f args=>obtain⟨rfl,hc⟩:=h;exact⟨rfl,v,hc,hk⟩
  |_=>exact h.elim
theorem pU{P:Program}{ops:Array Oper}{w:World}{Q:Act->Prop}:∀(l:List Oper)(a:Act),wpQuiet P ops (λW=>W=w) Q l a->wpStill P ops w Q l a
 |[],_,h=>h
 |o::rest,a,h=>by
  unfold wpQuiet at h;unfold wpStill;by_cases hw:Region.wanted o (yielded ops a.tmps)=true
  ·rw[dX hw]at h⊢;obtain⟨v,h1,h2⟩:=h;exact BV (h1 w rfl) (pU rest _ h2)
  ·rw[dW hw]at h⊢;exact pU rest _ h
theorem ik{P:Program}{id:Nat}{Q:Exit->Act->World->Prop}{a:Act}{w:World}{l:List Oper}(n:Nat)(hm:P.follows .mixedOrders=true)(hB:Region.lexTailB .any l.toArray n=true)
 (h:wpQuiet P l.toArray (λW=>W=w.drew) (λa'=>wpList P l.toArray Q (l.drop n) a' w.drew) (l.take n) a):(Code.region id l.toArray true).wp P Q a w:=
 wp_region_still_tail n hm hB (pU _ _ h)
end Go
namespace Go.Proofs.YtmkkdjpebbdikaaGreatDoor
open RowKit Tryz
section
open Go.RowKit
open Sq
open Fl (raw)
def xE(l:List Tk)(a n:Nat):Nat:=if(List.range n).any (λx=>raw l (a+x)==13)=true then 8 else 7
theorem z8{l:List Tk}{a n k:Nat}(hk:k<n)(h:raw l (a+k)=13):xE l a n=8:=by
 unfold xE;rw[dX];rw[U8];exact⟨k,yH.2 hk,by simp[h]⟩
theorem CV{l:List Tk}{a n:Nat}(h:∀k,k<n->raw l (a+k)≠13):xE l a n=7:=by
 unfold xE;rw[dW];intro h2;rw[U8]at h2;obtain⟨k,h3,h4⟩:=h2;exact h k (yH.1 h3) (by simpa using h4)
theorem acx(rb:Nat)(v:Value)(l:List Tk)(a b:Nat)(w:World)(hR:RT w rb v l)(hab:a<=b)(hb:b<=l.length):
 Calls prog 189 #[RP rb,.int .i64 a,.int .i64 b] w λe w'=>e=.returned (.int .i64 (xE l a (b-a):Nat))/\Below w.heap.size w w':=by
 obtain⟨hc,h,hs⟩:=hR;obtain⟨ad,cap,rfl⟩:=h.shape;obtain⟨u,hu,Gq⟩:=Ka (P:=prog) tyT h hab hb;have hlen:((l.drop a).take (b-a)).length=b-a:=Jd
 have hget:∀k x,((l.drop a).take (b-a))[k]?=some x->k<b-a/\raw l (a+k)=x.1:=by
  intro k x hx;have hk:=(eY.1 hx).1;rw[hlen]at hk;rw[tu hk,sW]at hx;exact⟨hk,Fl.uU hx⟩
 obtain⟨ts,hts⟩:=eu ((l.drop a).take (b-a));rw[hts]at Gq hlen hget;obtain⟨ua,uc,rfl⟩:=Gq.shape;have HT:=dY (λW (hW:Below w.heap.size w W) j x (hj:ts[j]?=some x)=>iY (Gq.below hW) j x hj);have HG:=dY hget;obtain⟨M,hM⟩:=eu (b-a);rw[hM]at hlen HG⊢;have HY:=dY (λk (hk:k<M) h=>z8 (l:=l) (a:=a) hk h);have HN:=dY (λh=>CV (l:=l) (a:=a) (n:=M) h);obtain⟨T,hT⟩:=eu (xE l a M);rw[hT]at HY HN⊢;rw[hlen]at hu;have HL:=dY hlen;have hMs:M<=100000:=dS
 obtain⟨N,hN⟩:=eu (l.length);rw[hN]at hc hb hs hu;clear h Gq hget hlen hT hts hN hM
 go_enter func189,ntmps189
 go_wp2_with fail
 go_loopw [17] (λiv wr=>∃k:Nat,iv=.int .i64 k/\k<=M/\Hid (∀j,j<k->raw l (a+j)≠13)/\Below w.heap.size w wr) (λiv _=>M-(intOf iv).toNat)
 case atStart=>exact⟨0,rfl,fP _,dY (λj h=>absurd h (pK j)),fD _ _⟩
 case round=>
  obtain⟨k,rfl,hk,HA,hB⟩:=hrel;have HB:=dY hB;by_cases hlt:k<M
  ·obtain⟨x,hx⟩:∃x,ts[k]?=some x:=⟨_,fu (by rw[HL.out];exact hlt)⟩
   obtain⟨xb,off,rfl,c0,c1,c2⟩:=HT.out wr hB k x hx;have hr:=(HG.out k x hx).2;have hi:(k:Int)<(M:Int):=dS
   obtain⟨K,hK⟩:=eu (x.1);rw[hK]at c0 hr;by_cases q:K=13
   ·exact aaf
   ·have HA2:=dY (show∀j,j<k+1->raw l (a+j)≠13 from λj hj=>by
     by_cases e:j=k
     ·rw[e,hr];exact q
     ·exact HA.out j dS)
    exact aaQ
  ·exact aaM
end
end Go.Proofs.YtmkkdjpebbdikaaGreatDoor
namespace Go
open Go.Proofs.YtmkkdjpebbdikaaGreatDoor
section
variable {P:Program}{a:Act}{w:World}{Q:Exit->Act->World->Prop}
theorem sV{c rest:Code}(l:Nat)(J:Act->World->Prop)(μ:Act->World->Nat)(hf:findLabel c l=some (Code.skip.seq rest))
 (pass:∀a w,J a w->rest.wp P (Exit.jump l (λa' w'=>J a' w'/\μ a' w'<μ a w) Q) a w)
 (first:(∀a w,J a w->rest.wp P (Exit.jump l J Q) a w)->c.wp P (Exit.jump l J Q) a w):(Code.scope c).wp P Q a w:=
 aih l J μ hf (first (λa w hJ=>ah0 (λe a' w' q=>by
  cases e with
  |goto l'=>exact⟨q.1,q.2.1⟩
  |normal=>exact q
  |exit id=>exact q
  |ret=>exact q
  |panic ch=>exact q
  |outgrown=>exact q) (pass a w hJ))) (λa w hJ=>wp_seq (wp_skip (pass a w hJ)))
end
end Go
namespace Go.Proofs.YtmkkdjpebbdikaaGreatDoor
open RowKit Tryz
section
open Go.RowKit
open Sq
open Ar
theorem Un(w:World)(u:Value)(x:Nd)(hx:x.ks=[]):OT ((w.alloc (.cells #[u] 31)).alloc (.cells #[.int .i64 x.k,.int .i64 x.f,.int .i64 x.t,.int .i64 x.u,.slice none 0 0,.bool x.y] 38)) w.heap.size (.slice (some ⟨w.heap.size+1,0,none⟩) 1 1) [⟨x,none,0,0⟩]:=by
 have h:=aiY (w.alloc (.cells #[u] 31)) w.heap.size x hx eG;rw[size_alloc]at h;exact h
theorem alW:∀(n:Int)(w:World),Calls prog 20 #[.int .i64 n] w (akJ false (fU n) w):=by
 intro n w;obtain⟨m,hm⟩:=eu ((if n<0\/32768<n then 0 else n));have e:fU n=[⟨1,0,m,-1,[],false⟩]:=by unfold fU;rw[hm]
 have hO:=λu=>Un w u ⟨1,0,m,-1,[],false⟩ rfl
 have HO:=dY hO;rw[e];have HB:=dY (λo o'=>gD (dZ w o) o');clear e hO;by_cases h1:n<0
 ·rw[dX (.inl h1)]at hm;subst hm
  exact QK
 ·by_cases h2:32768<n
  ·rw[dX (.inr h2)]at hm;subst hm
   exact QK
  ·rw[dW (λh=>h.elim h1 h2)]at hm;subst hm
   exact QK
def Dt(N:Nat)(k:Int):Bool:=decide (0<=k)&&decide (k<N)
theorem KM(a:Option Addr)(N cap:Nat)(k:Int)(w:World)(hN:N<=1000000):
 Calls prog 50 #[.agg #[.slice a N cap],.int .i64 k] w (λe w'=>e=.returned (.bool (Dt N k))/\Below w.heap.size w w'):=by
 have HB:=dY (λo=>dZ w o);obtain⟨R,hR⟩:=eu (Dt N k);rw[hR];unfold Dt at hR;by_cases h1:0<=k
 ·have d1:decide (0<=k)=true:=kD h1;by_cases h2:k<(N:Int)
  ·obtain rfl:R=true:=by rw[<-hR];simp[h1,h2]
   have d2:decide (k<(N:Int))=true:=kD h2;clear hR
   exact QV
  ·obtain rfl:R=false:=by rw[<-hR];simp[h2]
   have d2:decide (k<(N:Int))=false:=ic h2;clear hR
   exact QV
 ·obtain rfl:R=false:=by rw[<-hR];simp[h1]
  have d1:decide (0<=k)=false:=ic h1;clear hR
  exact QV
end
section
open Go.RowKit
open Sq
open Ar
theorem En(w0 w:World)(rb:Nat)(tv:Value)(l:List Tk)(s:Fl.fF)(R:Nat->Prop)(i t:Nat)(hS:RS w0 w rb tv l s R)(hi:i<s.q.length)(hn:s.q.length<=1000000):
 Calls prog 164 #[RP rb,.int .i64 i,.int .i64 t] w (Goes w0 w rb tv l R (.int .i64 t) ⟨Fl.nR s.q i t,s.d⟩):=by
 obtain⟨nv,dv,L,hM,hL,rfl⟩:=hS;have hLn:L.length=s.q.length:=yR
 obtain⟨p,hp⟩:∃p,L[i]?=some p:=⟨_,fu dS⟩
 obtain⟨g,cap,rfl,hB,hfz,hc1,hc2⟩:=jf hM.nodes.row dS;obtain⟨hS2,hF⟩:=hM.setNode i 2 p {p.nd with t:=(t:Int)} (.int .i64 t) hp rfl rfl dU;have c1:=hM.cells.2.1;have c2:w.cell? ⟨g,i*6+2,none⟩=some (.int .i64 p.nd.t):=by
  have:=hM.nodes.row.cells (g:=g) rfl _ _ ((iJ fZ L i p hp 2 dU).trans rfl);rw[fT,jY]at this;exact this
 have hq:(L.set i {p with nd:={p.nd with t:=(t:Int)}}).map Ln.nd=Fl.nR s.q i t:=by
  have hx:s.q[i]?=some p.nd:=by rw[<-hL,kS,hp];rfl
  unfold Fl.nR;rw[hx,<-hL,Gj]
 have HD:=dY (show Goes w0 w rb tv l (jX (.slice (some ⟨g,0,none⟩) L.length cap) dv L) (.int .i64 t) ⟨Fl.nR s.q i t,s.d⟩ (.returned (.int .i64 t)) (w.setCell ⟨g,i*6+2,none⟩ (.int .i64 t))from⟨rfl,_,⟨_,_,_,hS2,hq,rfl⟩,hF⟩);have fz:=hfz (i*6+2);obtain⟨N,hN⟩:=eu (L.length);rw[hN]at HD c1 hLn⊢;have hii:(i:Int)<(N:Int):=dS
 have hNs:N<=1000000:=dS
 clear hM hL hLn hp hS2 hF hq hB hfz hc1 hc2 hi hn hN;obtain⟨Q,hQ⟩:=eu (Goes w0 w rb tv l (jX (.slice (some ⟨g,0,none⟩) N cap) dv L) (.int .i64 t) ⟨Fl.nR s.q i t,s.d⟩);rw[hQ]at HD⊢;clear hQ
 go_enter func164,ntmps164
 go_wp2_with fail
 exact HD.out
end
section
open Go.RowKit
open Sq
open Fl (raw kx iy cnt ends opens gX gG begins kd back fI balanced kE text Ej Mf nI yA iT)
theorem afJ(rb:Nat)(v:Value)(l:List Tk)(i:Nat)(w:World)(hR:RT w rb v l)(hT:oV l)(h0:kd l l.length i≠0)(hc:cnt (raw l i)=true)(h7:kd l l.length i≠7)(he:ends (kd l l.length i)=false):
 Calls prog 174 #[RP rb,.int .i64 i] w λe w'=>e=.returned (.int .i64 (kE l l.length i:Nat))/\w=w':=by
 have hi:=(Fl.ji h0).1;have aa:∀k,k=i->¬(kd l l.length k=0\/kd l l.length k=7\/ends (kd l l.length k)=true):=λk e h=>by
  subst e;rcases h with h|h|h
  ·exact h0 h
  ·exact h7 h
  ·rw[he]at h;cases h
 have HK:=dY (λj (hj:j<=l.length)=>hR.kind j hj);have HM:=dY (λk=>Ye k w);have HE:=dY (λk=>aky k w);have ah:=dY (λj (hj:j<=l.length)=>Yf hT hj);have ag:=dY (λj (hj:j<=l.length)(h:kd l l.length j≠0)=>Yg hj h)
 have ai:=dY (λj (hj:j<=l.length)(h:kd l l.length j=0)=>show kx l j=20\/kx l j=21 by
  have h1:=Yf hT hj;rw[kD h]at h1;unfold Fl.mk at h1
  simpa using h1)
 have ng:=dY (λj (h:opens (kd l l.length j)=true)=>Hm rb v l j w hR hT h);have aj:=dY (λj (h:opens (kd l l.length j)=true)=>Fl.my h);have ak:=dY (λj (hj:j<=l.length)(hij:i<j)=>hR.counted j (i+1) hj dS dS ⟨i+1,dS,dS,DX⟩);have av:=dY (λj (h:kd l l.length j=0\/kd l l.length j=7\/ends (kd l l.length j)=true)=>Fl.RX h);have ax:=dY (λj (h:opens (kd l l.length j)=true)=>Fl.VW h);have ay:=dY (λj h0 h7 he ho=>Fl.acj (l:=l) (k:=j) h0 h7 he ho);have Df:=dY (λj (h:kd l l.length j≠0)=>(Fl.ji h).1);have HF:=dY aa;unfold kE;obtain⟨G,hG⟩:=eu (iT l l.length (l.length-i) i 0);rw[hG];have HG:=dY hG;have hs:=hR.size;obtain⟨N,hN⟩:=eu (l.length);rw[hN]at HK ah ag ai ng aj ak av ax ay Df HF HG hs hi;clear hR hT hc h0 h7 he hG hN aa
 go_enter func174,ntmps174
 go_wp2_with fail
 go_step3
 go_wp2_with fail
 go_step3
 go_wp2_with fail
 go_loopw [1] (λiv wr=>∃j:Nat,iv=.int .i64 j/\i<=j/\j<=N/\Hid (iT l N (N-j) j 0=G)/\w=wr) (λiv _=>N-(intOf iv).toNat)
 case atStart=>exact⟨i,rfl,eO _,dS,HG,rfl⟩
 case round=>
  obtain⟨j,rfl,hij,af,HB,rfl⟩:=hrel;have hcall:=HK.out j af;have hme:=HE.out (kx l j);have hmm:=HM.out (kx l j);rw[ah.out j af]at hmm;by_cases hst:kd l N j=0\/kd l N j=7\/ends (kd l N j)=true
  ·have hlt:i<j:=by
    by_cases e:j=i
    ·exact absurd hst (HF.out j e)
    ·omega
   have hgj:G=j:=by rw[<-HB.out];exact av.out j hst
   subst hgj;have H3:=dY (ak.out G af hlt);have hall:(kx l G=7)\/(kx l G≠7/\ends (kx l G)=true)\/(kx l G≠7/\ends (kx l G)=false/\kd l N G=0):=by
    by_cases hz:kd l N G=0
    ·rcases ai.out G af hz with h|h<;>rw[h]<;>exact .inr (.inr ⟨dU,rfl,hz⟩)
    ·rw[ag.out G af hz];rcases hst with h|h|h
     ·exact absurd h hz
     ·exact .inl h
     ·exact .inr (.inl ⟨λh2=>by rw[h2]at h;exact absurd h dU,h⟩)
   obtain⟨K,hK⟩:=eu (kx l G);rw[hK]at hcall hme hmm hall;have H1:=dY hcall;clear hcall HK HM HE ah ag ai ng aj ak av ax ay Df HF HG HB hK hst;rcases hall with rfl|⟨q7,qe⟩|⟨q7,qe,qz⟩
   ·clear hme hmm;go_wp2_with fail
    refine H1.out.mono ?_;rintro e w1 ⟨rfl,rfl⟩;go_wp2_with fail
    exact QT
   ·have g7:((K:Int)==7)=false:=by simp;omega
    rw[qe]at hme;have H2:=dY hme;clear hme hmm q7 qe;go_wp2_with fail
    refine H1.out.mono ?_;rintro e w1 ⟨rfl,rfl⟩;go_wp2_with fail
    refine H2.out.mono ?_;rintro e w1 ⟨rfl,rfl⟩;go_wp2_with fail
    exact QT
   ·have g7:((K:Int)==7)=false:=by simp;omega
    rw[qe]at hme;rw[kD qz]at hmm;obtain⟨H2,H4⟩:=fw hme hmm;clear hme hmm q7 qe qz;go_wp2_with fail
    refine H1.out.mono ?_;rintro e w1 ⟨rfl,rfl⟩;go_wp2_with fail
    refine H2.out.mono ?_;rintro e w1 ⟨rfl,rfl⟩;go_wp2_with fail
    refine H4.out.mono ?_;rintro e w1 ⟨rfl,rfl⟩;go_wp2_with fail
    exact QT
  ·have hz:kd l N j≠0:=λh=>hst (.inl h)
   have k7:kd l N j≠7:=λh=>hst (.inr (.inl h))
   have ke:ends (kd l N j)=false:=by
    cases h:ends (kd l N j)with
    |true=>exact absurd (.inr (.inr h)) hst
    |false=>rfl
   rw[ic hz]at hmm;have hkx:=ag.out j af hz;have hjl:=Df.out j hz;rw[hkx]at hcall hme;rw[ke]at hme;have hbr:=ng.out j;have hbi:=aj.out j;have hsb:=ax.out j;have hso:=ay.out j hz k7 ke;rw[HB.out]at hsb hso;obtain⟨K,hK⟩:=eu (kd l N j);rw[hkx]at hmm;rw[hK]at hcall hme hmm k7 hbr hbi hsb hso;have g7:((K:Int)==7)=false:=eQ
   obtain⟨H1,H2,H4⟩:=je hcall hme hmm;clear hcall hme hmm HK HM HE ah ag ai ng aj ak av ax ay Df HF HG HB hst hz ke hkx;by_cases q8:K=8\/K=9
   ·have ho:opens K=true:=by rcases q8 with rfl|rfl<;>rfl
    have H5:=dY (hbr ho);have ae:=hbi ho;have HB2:=dY (hsb ho);obtain⟨b,hb⟩:=eu (balanced l N j);rw[hb]at H5 ae HB2;have hb1:=ae.1;have hb2:=ae.2.1;clear hbr hbi hsb hso ae hb ho hK k7;rcases q8 with rfl|rfl
    all_goals
     go_wp2_with fail
     refine H1.out.mono ?_;rintro e w1 ⟨rfl,rfl⟩;go_wp2_with fail
     refine H2.out.mono ?_;rintro e w1 ⟨rfl,rfl⟩;go_wp2_with fail
     refine H4.out.mono ?_;rintro e w1 ⟨rfl,rfl⟩;go_wp2_with fail
     refine H5.out.mono ?_;rintro e w1 ⟨rfl,rfl⟩;go_wp2_with fail
     go_roundw
     case rel=>exact⟨b,rfl,dS,hb2,HB2,trivial⟩
     case measure=>simp[intOf];omega
   ·have ho:opens K=false:=by unfold opens;simp;omega
    have HB2:=dY (hso ho);have g8:((K:Int)==8)=false:=eQ
    have g9:((K:Int)==9)=false:=eQ
    clear hbr hbi hsb hso ho hK k7 q8;go_wp2_with fail
    refine H1.out.mono ?_;rintro e w1 ⟨rfl,rfl⟩;go_wp2_with fail
    refine H2.out.mono ?_;rintro e w1 ⟨rfl,rfl⟩;go_wp2_with fail
    refine H4.out.mono ?_;rintro e w1 ⟨rfl,rfl⟩;go_wp2_with fail
    go_roundw
    case rel=>exact⟨j+1,fH,dS,dS,HB2,trivial⟩
    case measure=>simp[intOf];omega
theorem aja(rb:Nat)(v:Value)(l:List Tk)(p0:Nat)(w:World)(hR:RT w rb v l)(hT:oV l)(hp0:p0<=l.length):
 Calls prog 181 #[RP rb,.int .i64 p0] w λe w'=>e=.returned (.int .i64 (nI l p0))/\w=w':=by
 have HK:=dY (λj (hj:j<=l.length)=>hR.kind j hj);have HI:=dY (λj (hj:j<=l.length)=>hR.idle j hj);have zt:=dY (λj (hj:j<=l.length)=>Fl.iW (l:=l) (e:=l.length) hj)
 have HKK:=dY (λj (hj:j<=l.length)=>show(kx l j≠21->j<l.length)/\(kx l j≠20->kx l j≠21->kd l l.length j=kx l j)/\(kx l j=20\/kx l j=21->kd l l.length j=0)by
  refine⟨λh=>?_,λh1 h2=>?_,λh=>?_⟩
  ·unfold kx at h;split at h
   ·assumption
   ·exact absurd rfl h
  ·rw[Fl.GR hj,dW (λh=>h.elim h1 h2)]
  ·rw[Fl.GR hj,dX h])
 have GN:=dY (λi h=>Fl.RY (l:=l) (i:=i) h);have Bo:=dY (λi h h2=>Fl.RZ (l:=l) (i:=i) h h2);have uO:=dY (λi h h2=>Fl.Ob (l:=l) (i:=i) h h2);obtain⟨V,hV⟩:=eu (nI l p0);rw[hV];have ae:=dY hV;have hs:=hR.size;obtain⟨N,hN⟩:=eu (l.length);rw[hN]at hs hp0 HK HI zt HKK GN Bo uO;clear hN hV hR hT
 go_enter func181,ntmps181
 go_wp2;refine aih 0 (λa' w'=>w'=w/\∃(p:Nat)(u5 u6 u7 u8 u9 af ag ah ai aj ak u16 av ax ay u20 u21 u22 u23 u24 u25 u26 u27 u28:Value),a'={tmps:=#[RP rb,.int .i64 p,undef,undef,.int .i64 0,u5,u6,u7,u8,u9,af,ag,ah,ai,aj,ak,u16,av,ax,ay,u20,u21,u22,u23,u24,u25,u26,u27,u28],defers:=[]}/\p<=N/\Hid (nI l p=V)) (λa' _=>N-(intOf (a'.tmps.getD 1 undef)).toNat) rfl ?_ ?_
 ·obtain⟨p,hpe⟩:=eu (p0);rw[hpe]at hp0 ae⊢;have hp:=hp0;have HV:=ae;clear hp0 ae hpe;have hcall:=HK.out p hp;have hkk:=HKK.out p hp;obtain⟨K,hK⟩:=eu (kx l p);rw[hK]at hcall hkk;have H1:=dY hcall;have hV:=HV.out;have hpl:K=12\/K=14\/K=15\/K=16\/K=17\/K=13->p<N:=λh=>hkk.1 dS
  clear hcall HV;by_cases GK:K=12
  ·subst GK;have hkd:kd l N p=12:=hkk.2.1 dU dU;have aa:=hpl dS;have H2:=dY (HI.out (p+1) dS);have hin:=zt.out (p+1) dS;have hcp:=GN.out p qf;obtain⟨t,ht⟩:=eu (fI l N (p+1));rw[ht]at H2 hin hcp;have HJ:=dY (hcp.symm.trans hV);rw[show((p+1:Nat):Int)=(p:Int)+1 from dS]at H2;clear HK HKK HI zt GN Bo uO hkk hV hkd hcp ht hK hpl;go_wp2_with fail
   exact aai
  have g12:((K:Int)==12)=false:=eQ
  by_cases Ll:K=14
  ·subst Ll;have hkd:kd l N p=14:=hkk.2.1 dU dU;have aa:=hpl dS;have H2:=dY (HI.out (p+1) dS);have hin:=zt.out (p+1) dS;have hcp:=GN.out p qf;obtain⟨t,ht⟩:=eu (fI l N (p+1));rw[ht]at H2 hin hcp;have HJ:=dY (hcp.symm.trans hV);rw[show((p+1:Nat):Int)=(p:Int)+1 from dS]at H2;clear HK HKK HI zt GN Bo uO hkk hV hkd hcp ht hK hpl;go_wp2_with fail
   exact aai
  have g14:((K:Int)==14)=false:=eQ
  have uN:gG (kd l N p)=false:=Zp
  by_cases PG:K=15
  ·subst PG;have hkd:kd l N p=15:=hkk.2.1 dU dU;have aa:=hpl dS;have H2:=dY (HI.out (p+1) dS);have hin:=zt.out (p+1) dS;have hcp:=Bo.out p uN qf;rw[hV]at hcp;obtain⟨t,ht⟩:=eu (fI l N (p+1));rw[ht]at H2 hin hcp;have hk2:=HKK.out t hin.2;have hc2:=HK.out t hin.2;rw[show((p+1:Nat):Int)=(p:Int)+1 from dS]at H2;obtain⟨J,hJ⟩:=eu (kx l t);rw[hJ]at hk2 hc2;have H3:=dY hc2;by_cases q6:J=6
   ·exact JZ
   ·exact JY
  have g15:((K:Int)==15)=false:=eQ
  by_cases q16:K=16
  ·subst q16;have hkd:kd l N p=16:=hkk.2.1 dU dU;have aa:=hpl dS;have H2:=dY (HI.out (p+1) dS);have hin:=zt.out (p+1) dS;have hcp:=Bo.out p uN qf;rw[hV]at hcp;obtain⟨t,ht⟩:=eu (fI l N (p+1));rw[ht]at H2 hin hcp;have hk2:=HKK.out t hin.2;have hc2:=HK.out t hin.2;rw[show((p+1:Nat):Int)=(p:Int)+1 from dS]at H2;obtain⟨J,hJ⟩:=eu (kx l t);rw[hJ]at hk2 hc2;have H3:=dY hc2;by_cases q6:J=6
   ·exact JZ
   ·exact JY
  have g16:((K:Int)==16)=false:=eQ
  by_cases Vo:K=17
  ·subst Vo;have hkd:kd l N p=17:=hkk.2.1 dU dU;have aa:=hpl dS;have H2:=dY (HI.out (p+1) dS);have hin:=zt.out (p+1) dS;have hcp:=Bo.out p uN qf;rw[hV]at hcp;obtain⟨t,ht⟩:=eu (fI l N (p+1));rw[ht]at H2 hin hcp;have hk2:=HKK.out t hin.2;have hc2:=HK.out t hin.2;rw[show((p+1:Nat):Int)=(p:Int)+1 from dS]at H2;obtain⟨J,hJ⟩:=eu (kx l t);rw[hJ]at hk2 hc2;have H3:=dY hc2;by_cases q6:J=6
   ·exact JZ
   ·exact JY
  have g17:((K:Int)==17)=false:=eQ
  by_cases Xz:K=13
  ·subst Xz;have hkd:kd l N p=13:=hkk.2.1 dU dU;have aa:=hpl dS;have H2:=dY (HI.out (p+1) dS);have hin:=zt.out (p+1) dS;have hcp:=Bo.out p uN qf;rw[hV]at hcp;obtain⟨t,ht⟩:=eu (fI l N (p+1));rw[ht]at H2 hin hcp;have hk2:=HKK.out t hin.2;have hc2:=HK.out t hin.2;rw[show((p+1:Nat):Int)=(p:Int)+1 from dS]at H2;obtain⟨J,hJ⟩:=eu (kx l t);rw[hJ]at hk2 hc2;have H3:=dY hc2;by_cases q6:J=6
   ·exact JZ
   ·exact JY
  have g13:((K:Int)==13)=false:=eQ
  have hns:gX (kd l N p)=false:=Zq
  have hcp:=uO.out p uN hns;rw[hV]at hcp;by_cases q6:K=6
  ·subst q6;have h6:kd l N p=6:=hkk.2.1 dU dU;rw[dX h6]at hcp;subst hcp;clear HK HKK HI zt GN Bo uO hkk hV hK hpl h6 uN hns;go_wp2_with fail
   go_step3
   go_wp2_with fail
   exact J4
  ·have h6:kd l N p≠6:=λh=>Zu
   rw[dW h6]at hcp;subst hcp;have g6:((K:Int)==6)=false:=eQ
   clear HK HKK HI zt GN Bo uO hkk hV hK hpl h6 uN hns q6 GK Ll PG q16 Vo Xz;go_wp2_with fail
   go_step3
   go_wp2_with fail
   exact J4
 ·rintro a' w' ⟨rfl,p,u5,u6,u7,u8,u9,af,ag,ah,ai,aj,ak,u16,av,ax,ay,u20,u21,u22,u23,u24,u25,u26,u27,u28,rfl,hp,HV⟩;have hcall:=HK.out p hp;have hkk:=HKK.out p hp;obtain⟨K,hK⟩:=eu (kx l p);rw[hK]at hcall hkk;have H1:=dY hcall;have hV:=HV.out;have hpl:K=12\/K=14\/K=15\/K=16\/K=17\/K=13->p<N:=λh=>hkk.1 dS
  clear hcall HV;by_cases GK:K=12
  ·subst GK;have hkd:kd l N p=12:=hkk.2.1 dU dU;have aa:=hpl dS;have H2:=dY (HI.out (p+1) dS);have hin:=zt.out (p+1) dS;have hcp:=GN.out p qf;obtain⟨t,ht⟩:=eu (fI l N (p+1));rw[ht]at H2 hin hcp;have HJ:=dY (hcp.symm.trans hV);rw[show((p+1:Nat):Int)=(p:Int)+1 from dS]at H2;clear HK HKK HI zt GN Bo uO hkk hV hkd hcp ht hK hpl;go_wp2_with fail
   exact aal
  have g12:((K:Int)==12)=false:=eQ
  by_cases Ll:K=14
  ·subst Ll;have hkd:kd l N p=14:=hkk.2.1 dU dU;have aa:=hpl dS;have H2:=dY (HI.out (p+1) dS);have hin:=zt.out (p+1) dS;have hcp:=GN.out p qf;obtain⟨t,ht⟩:=eu (fI l N (p+1));rw[ht]at H2 hin hcp;have HJ:=dY (hcp.symm.trans hV);rw[show((p+1:Nat):Int)=(p:Int)+1 from dS]at H2;clear HK HKK HI zt GN Bo uO hkk hV hkd hcp ht hK hpl;go_wp2_with fail
   exact aal
  have g14:((K:Int)==14)=false:=eQ
  have uN:gG (kd l N p)=false:=Zp
  by_cases PG:K=15
  ·subst PG;have hkd:kd l N p=15:=hkk.2.1 dU dU;have aa:=hpl dS;have H2:=dY (HI.out (p+1) dS);have hin:=zt.out (p+1) dS;have hcp:=Bo.out p uN qf;rw[hV]at hcp;obtain⟨t,ht⟩:=eu (fI l N (p+1));rw[ht]at H2 hin hcp;have hk2:=HKK.out t hin.2;have hc2:=HK.out t hin.2;rw[show((p+1:Nat):Int)=(p:Int)+1 from dS]at H2;obtain⟨J,hJ⟩:=eu (kx l t);rw[hJ]at hk2 hc2;have H3:=dY hc2;by_cases q6:J=6
   ·exact J3
   ·exact J2
  have g15:((K:Int)==15)=false:=eQ
  by_cases q16:K=16
  ·subst q16;have hkd:kd l N p=16:=hkk.2.1 dU dU;have aa:=hpl dS;have H2:=dY (HI.out (p+1) dS);have hin:=zt.out (p+1) dS;have hcp:=Bo.out p uN qf;rw[hV]at hcp;obtain⟨t,ht⟩:=eu (fI l N (p+1));rw[ht]at H2 hin hcp;have hk2:=HKK.out t hin.2;have hc2:=HK.out t hin.2;rw[show((p+1:Nat):Int)=(p:Int)+1 from dS]at H2;obtain⟨J,hJ⟩:=eu (kx l t);rw[hJ]at hk2 hc2;have H3:=dY hc2;by_cases q6:J=6
   ·exact J3
   ·exact J2
  have g16:((K:Int)==16)=false:=eQ
  by_cases Vo:K=17
  ·subst Vo;have hkd:kd l N p=17:=hkk.2.1 dU dU;have aa:=hpl dS;have H2:=dY (HI.out (p+1) dS);have hin:=zt.out (p+1) dS;have hcp:=Bo.out p uN qf;rw[hV]at hcp;obtain⟨t,ht⟩:=eu (fI l N (p+1));rw[ht]at H2 hin hcp;have hk2:=HKK.out t hin.2;have hc2:=HK.out t hin.2;rw[show((p+1:Nat):Int)=(p:Int)+1 from dS]at H2;obtain⟨J,hJ⟩:=eu (kx l t);rw[hJ]at hk2 hc2;have H3:=dY hc2;by_cases q6:J=6
   ·exact J3
   ·exact J2
  have g17:((K:Int)==17)=false:=eQ
  by_cases Xz:K=13
  ·subst Xz;have hkd:kd l N p=13:=hkk.2.1 dU dU;have aa:=hpl dS;have H2:=dY (HI.out (p+1) dS);have hin:=zt.out (p+1) dS;have hcp:=Bo.out p uN qf;rw[hV]at hcp;obtain⟨t,ht⟩:=eu (fI l N (p+1));rw[ht]at H2 hin hcp;have hk2:=HKK.out t hin.2;have hc2:=HK.out t hin.2;rw[show((p+1:Nat):Int)=(p:Int)+1 from dS]at H2;obtain⟨J,hJ⟩:=eu (kx l t);rw[hJ]at hk2 hc2;have H3:=dY hc2;by_cases q6:J=6
   ·exact J3
   ·exact J2
  have g13:((K:Int)==13)=false:=eQ
  have hns:gX (kd l N p)=false:=Zq
  have hcp:=uO.out p uN hns;rw[hV]at hcp;by_cases q6:K=6
  ·subst q6;have h6:kd l N p=6:=hkk.2.1 dU dU;rw[dX h6]at hcp;subst hcp;clear HK HKK HI zt GN Bo uO hkk hV hK hpl h6 uN hns;go_wp2_with fail
   exact J4
  ·have h6:kd l N p≠6:=λh=>Zu
   rw[dW h6]at hcp;subst hcp;have g6:((K:Int)==6)=false:=eQ
   clear HK HKK HI zt GN Bo uO hkk hV hK hpl h6 uN hns q6 GK Ll PG q16 Vo Xz;go_wp2_with fail
   exact J4
end
section
open Go.Shelf
def Oe:Go.Shelf.Ren:=⟨fun|119=>145|137=>144|152=>117|153=>78|217=>162|224=>146|225=>147|226=>118|227=>119|228=>120|266=>178|n=>n,fun|0=>0|3=>3|4=>4|5=>5|9=>9|21=>21|46=>108|116=>149|117=>150|124=>171|n=>n,λn=>n⟩
theorem Uo:Lays.n153 prog Oe:={
 mixed:=dV,
 f119:=func145.trans (congrArg some dV),
 f137:=func144.trans (congrArg some dV),
 f152:=func117.trans (congrArg some dV),
 f153:=func78.trans (congrArg some dV),
 f217:=func162.trans (congrArg some dV),
 f224:=func146.trans (congrArg some dV),
 f225:=func147.trans (congrArg some dV),
 f226:=func118.trans (congrArg some dV),
 f227:=func119.trans (congrArg some dV),
 f228:=func120.trans (congrArg some dV),
 f266:=func178.trans (congrArg some dV),
 t0:=underlying0,
 a0:=isAgg0,
 z0:=sizeOf0,
 v0:=zeroValue0,
 t3:=underlying3,
 a3:=isAgg3,
 z3:=sizeOf3,
 v3:=zeroValue3,
 t4:=underlying4,
 a4:=isAgg4,
 z4:=sizeOf4,
 v4:=zeroValue4,
 t5:=underlying5,
 a5:=isAgg5,
 z5:=sizeOf5,
 v5:=zeroValue5,
 t9:=underlying9,
 a9:=isAgg9,
 z9:=sizeOf9,
 v9:=zeroValue9,
 t21:=underlying21,
 a21:=isAgg21,
 z21:=sizeOf21,
 v21:=zeroValue21,
 t46:=underlying108,
 a46:=isAgg108,
 z46:=sizeOf108,
 v46:=zeroValue108,
 t116:=underlying149,
 a116:=isAgg149,
 z116:=sizeOf149,
 t117:=underlying150,
 a117:=isAgg150,
 z117:=sizeOf150,
 v117:=zeroValue150,
 t124:=underlying171,
 a124:=isAgg171,
 z124:=sizeOf171,
 v124:=zeroValue171}
def Og:Go.Shelf.Ren:=⟨fun|119=>145|120=>179|137=>144|151=>135|152=>117|162=>129|197=>180|217=>162|224=>146|225=>147|227=>119|228=>120|232=>148|234=>149|236=>150|260=>188|266=>178|271=>163|n=>n,fun|0=>0|3=>3|4=>4|5=>5|9=>9|21=>21|46=>108|105=>102|116=>149|117=>150|119=>177|124=>171|138=>179|139=>180|n=>n,fun|3=>0|4=>1|n=>n⟩
theorem afK:Lays.n162 prog Og:={
 mixed:=dV,
 f119:=func145.trans (congrArg some dV),
 f120:=func179.trans (congrArg some dV),
 f137:=func144.trans (congrArg some dV),
 f151:=func135.trans (congrArg some dV),
 f152:=func117.trans (congrArg some dV),
 f162:=func129.trans (congrArg some dV),
 f197:=func180.trans (congrArg some dV),
 f217:=func162.trans (congrArg some dV),
 f224:=func146.trans (congrArg some dV),
 f225:=func147.trans (congrArg some dV),
 f227:=func119.trans (congrArg some dV),
 f228:=func120.trans (congrArg some dV),
 f232:=func148.trans (congrArg some dV),
 f234:=func149.trans (congrArg some dV),
 f236:=func150.trans (congrArg some dV),
 f260:=func188.trans (congrArg some dV),
 f266:=func178.trans (congrArg some dV),
 f271:=func163.trans (congrArg some dV),
 t0:=underlying0,
 a0:=isAgg0,
 z0:=sizeOf0,
 v0:=zeroValue0,
 t3:=underlying3,
 a3:=isAgg3,
 z3:=sizeOf3,
 v3:=zeroValue3,
 t4:=underlying4,
 a4:=isAgg4,
 z4:=sizeOf4,
 v4:=zeroValue4,
 t5:=underlying5,
 a5:=isAgg5,
 z5:=sizeOf5,
 v5:=zeroValue5,
 t9:=underlying9,
 a9:=isAgg9,
 z9:=sizeOf9,
 v9:=zeroValue9,
 t21:=underlying21,
 a21:=isAgg21,
 z21:=sizeOf21,
 v21:=zeroValue21,
 t46:=underlying108,
 a46:=isAgg108,
 z46:=sizeOf108,
 v46:=zeroValue108,
 t105:=underlying102,
 a105:=isAgg102,
 z105:=sizeOf102,
 v105:=zeroValue102,
 t116:=underlying149,
 a116:=isAgg149,
 z116:=sizeOf149,
 t117:=underlying150,
 a117:=isAgg150,
 z117:=sizeOf150,
 v117:=zeroValue150,
 t119:=underlying177,
 a119:=isAgg177,
 z119:=sizeOf177,
 t124:=underlying171,
 a124:=isAgg171,
 z124:=sizeOf171,
 v124:=zeroValue171,
 t138:=underlying179,
 a138:=isAgg179,
 z138:=sizeOf179,
 v138:=zeroValue179,
 t139:=underlying180,
 a139:=isAgg180,
 z139:=sizeOf180,
 v139:=zeroValue180,
 g3:=dV,
 g4:=dV}
def K6:Go.Shelf.Ren:=⟨fun|137=>144|217=>162|266=>178|n=>n,fun|3=>3|5=>5|9=>9|n=>n,λn=>n⟩
theorem acy:Lays.n137 prog K6:={
 mixed:=dV,
 f137:=func144.trans (congrArg some dV),
 f217:=func162.trans (congrArg some dV),
 f266:=func178.trans (congrArg some dV),
 t3:=underlying3,
 a3:=isAgg3,
 z3:=sizeOf3,
 v3:=zeroValue3,
 t5:=underlying5,
 a5:=isAgg5,
 z5:=sizeOf5,
 v5:=zeroValue5,
 t9:=underlying9,
 a9:=isAgg9,
 z9:=sizeOf9,
 v9:=zeroValue9}
def K7:Go.Shelf.Ren:=⟨fun|99=>79|206=>121|n=>n,fun|3=>3|4=>4|9=>9|n=>n,λn=>n⟩
theorem acz:Lays.n99 prog K7:={
 mixed:=dV,
 f99:=func79.trans (congrArg some dV),
 f206:=func121.trans (congrArg some dV),
 t3:=underlying3,
 a3:=isAgg3,
 z3:=sizeOf3,
 v3:=zeroValue3,
 t4:=underlying4,
 a4:=isAgg4,
 z4:=sizeOf4,
 v4:=zeroValue4,
 t9:=underlying9,
 a9:=isAgg9,
 z9:=sizeOf9,
 v9:=zeroValue9}
end
section
open Go.RowKit
open Sg
def crlf(r:Int):Int:=if r=13 then 0 else if r=10 then 1 else -1
theorem V7(r:Int)(h0:0<=r)(h1:r<128):Lib.indexByte [13,10] r.toNat.toUInt8=crlf r:=by
 have key:∀n:Fin 128,Lib.indexByte [13,10] n.val.toUInt8=crlf (n.val:Int):=dU
 have:=key ⟨r.toNat,dS⟩;simp only at this;rw[this];congr 1;omega
theorem K8(r:Int)(w:World)(h0:0<=r)(h1:r<128):
 Calls prog 117 #[.string ⟨#[13,10]⟩,.int .i32 r] w λe w'=>e=.returned (.int .i64 (crlf r))/\Below w.heap.size w w':=by
 have h:=Any.strings_IndexRune_ascii (L:={Uo with}) ⟨#[13,10]⟩ r w h0 h1;refine O9 h ?_;rintro e w' ⟨rfl,rfl⟩;refine⟨?_,fD _ _⟩;show Ending.returned (.int .i64 (Lib.indexByte [13,10] r.toNat.toUInt8))=_;rw[V7 r h0 h1]
theorem Si(w:World):
 Calls prog 117 #[.string ⟨#[13,10]⟩,.int .i32 65533] w λe w'=>e=.returned (.int .i64 (-1))/\Below w.heap.size w w':=by
 go_enter func117,ntmps117
 go_wp2_with fail
 go_loopg [] 2 (λgf wr=>∃(pos:Nat),wr.heap[w.heap.size]?=some (.stringIter ⟨#[13,10]⟩ pos)/\Below w.heap.size w wr/\pos+gf=2)
 case atStart=>exact⟨0,AL w _ 0,(fD _ w).alloc (eO _) _,rfl⟩
 case round=>
  obtain⟨pos,hit,hb,hf⟩:=hrel;rcases(by omega:pos=0\/pos=1\/pos=2)with rfl|rfl|rfl
  ·obtain rfl:gk=2:=by omega
   have hnx:∀ty,(Instr.next (.pointer (some ⟨w.heap.size,0,none⟩)) true ty).run prog wr=_:=λty=>Gt wr w.heap.size ⟨#[13,10]⟩ 0 ty hit dU dU
   have hit2:=yI wr w.heap.size ⟨#[13,10]⟩ 0 1 hit;have hb2:=tJ hb (k:=w.heap.size) (eO _) ⟨#[13,10]⟩ 1;generalize wr.iterAt w.heap.size ⟨#[13,10]⟩ (0+1)=W at*;clear hit hb;go_wp2_with fail
   go_roundg 1
   case measure=>omega
   case rel=>exact⟨1,hit2,hb2,rfl⟩
  ·obtain rfl:gk=1:=by omega
   have hnx:∀ty,(Instr.next (.pointer (some ⟨w.heap.size,0,none⟩)) true ty).run prog wr=_:=λty=>Gt wr w.heap.size ⟨#[13,10]⟩ 1 ty hit dU dU
   have hit2:=yI wr w.heap.size ⟨#[13,10]⟩ 1 2 hit;have hb2:=tJ hb (k:=w.heap.size) (eO _) ⟨#[13,10]⟩ 2;generalize wr.iterAt w.heap.size ⟨#[13,10]⟩ (1+1)=W at*;clear hit hb;go_wp2_with fail
   go_roundg 0
   case measure=>omega
   case rel=>exact⟨2,hit2,hb2,rfl⟩
  ·have hnx:∀ty,(Instr.next (.pointer (some ⟨w.heap.size,0,none⟩)) true ty).run prog wr=_:=λty=>Dv wr w.heap.size ⟨#[13,10]⟩ 2 ty hit dU
   exact QX
theorem Oh(c:Int)(w:World):Calls prog 144 #[.string ByteArray.empty,.int .u8 c] w λe w'=>e=.returned (.int .i64 (-1))/\w'=w:=by
 have h:=Any.strings_IndexByte (L:=acy) ByteArray.empty c w;refine O9 h ?_;rintro e w' ⟨rfl,rfl⟩;exact⟨rfl,rfl⟩
theorem Sj(r:Int)(a b:UInt8)(w:World)(hr:128<=r)(hr2:r<=1114111)(hn:r≠65533)(hv:Utf8.valid r=true)(hb:128<=b.toNat)(he:Utf8.encode r=⟨#[a,b]⟩):
 Calls prog 117 #[.string ⟨#[13,10]⟩,.int .i32 r] w λe w'=>e=.returned (.int .i64 (-1))/\Below w.heap.size w w':=by
 have h3:(r==65533)=false:=jE.2 hn;have hcv:∀w,(convert 21 9 (.int .i32 r)).run prog w=.ok (.string ⟨#[a,b]⟩) w:=λw=>by rw[Fz r w,he]
 have hne:((((⟨#[13,10]⟩:ByteArray)[1]'(by decide)).toNat:Int) !=(((⟨#[a,b]⟩:ByteArray)[1]'(by decide:(1:Nat)<2)).toNat:Int))=true:=by
  show((10:Int) !=(b.toNat:Int))=true;simp;omega
 have HV:=dY (FB r w dS hv);clear he hv
 go_enter func117,ntmps117
 go_wp2_with fail
 refine HV.out.mono ?_;rintro e w1 ⟨rfl,rfl⟩;go_wp2_with fail
 go_step3
 go_wp2_with fail
 go_loopg [9,10] 1 (λgf i f wr=>i=.int .i64 1/\f=.int .i64 0/\wr=w)
 case atStart=>exact⟨rfl,rfl,rfl⟩
 case round=>
  obtain⟨rfl,rfl,rfl⟩:=hrel;go_wp2_with fail
  go_step3
  go_wp2_with fail
  go_big_quiet (fail)
  go_wp2_with fail
  go_big_quiet (exact(Oh _ _).mono λ_ _ h=>⟨h.1,_,h.2⟩)
  exact aaw
theorem Oi(r:Int)(V:ByteArray)(w:World)(hr:128<=r)(hr2:r<=1114111)(hn:r≠65533)(hv:Utf8.valid r=true)(hb:3<=V.size)(hb2:V.size<=4)(he:Utf8.encode r=V):
 Calls prog 117 #[.string ⟨#[13,10]⟩,.int .i32 r] w λe w'=>e=.returned (.int .i64 (-1))/\Below w.heap.size w w':=by
 have h3:(r==65533)=false:=jE.2 hn;have hcv:∀w,(convert 21 9 (.int .i32 r)).run prog w=.ok (.string V) w:=λw=>by rw[Fz r w,he]
 have hge:¬((V.size:Int)-1<2):=dS
 have HV:=dY (FB r w dS hv);clear he hv
 go_enter func117,ntmps117
 go_wp2_with fail
 refine HV.out.mono ?_;rintro e w1 ⟨rfl,rfl⟩;go_wp2_with fail
 go_step3
 go_wp2_with fail
 go_loopg [9,10] 1 (λgf i f wr=>i=.int .i64 ((V.size:Int)-1)/\f=.int .i64 0/\wr=w)
 case atStart=>exact⟨rfl,rfl,rfl⟩
 case round=>
  exact QU
theorem Sk(r:Int)(w:World)(h0:0<=r)(hr2:r<=1114111)(hv:Utf8.valid r=true):
 Calls prog 117 #[.string ⟨#[13,10]⟩,.int .i32 r] w λe w'=>e=.returned (.int .i64 (crlf r))/\Below w.heap.size w w':=by
 by_cases h1:r<128
 ·exact K8 r w h0 h1
 have hc:crlf r=-1:=by unfold crlf;rw[dW dS,dW dS]
 rw[hc];by_cases h2:r=65533
 ·subst h2;exact Si w
 have hs:=BC hv;have he:=encode_eq r;have hsz:=sK r;generalize Lm r=c at hs he hsz;subst hs;by_cases c2:c<2048
 ·have e:uL c=enc2 c:=by unfold uL;rw[dW dS,dX c2]
  rw[e]at he;exact Sj _ _ (UInt8.ofNat (128+c%64)) w dS hr2 h2 hv (by rw[byte_of _ dS];omega) he
 ·have h3:3<=(uL c).length/\(uL c).length<=4:=by
   unfold uL;rw[dW dS,dW c2];split<;>simp[enc3,enc4]
  exact Oi _ _ w dS hr2 h2 hv (by rw[hsz];exact h3.1) (by rw[hsz];exact h3.2) rfl
def Ci(l:List Nat):Int:=if Sc.jg l=l.length then -1 else(Sc.jg l:Int)
theorem La(l:List UInt8):Lib.indexAny l [13,10]=Ci (l.map UInt8.toNat):=by
 induction l with
 |nil=>rfl
 |cons b r ih=>
  have hb:([13,10]:List UInt8).contains b=Sc.brk b.toNat:=by
   have key:∀n:Fin 256,([13,10]:List UInt8).contains n.val.toUInt8=Sc.brk n.val:=gV
   have:=key ⟨b.toNat,XW b⟩
   simpa using this
  rw[Lib.indexAny,hb,ih];unfold Ci Sc.jg;rw[yG,Sc.run];cases hk:Sc.brk b.toNat with
  |true=>simp
  |false=>
   have:=Sc.og (λc=>!Sc.brk c) (r.map UInt8.toNat);rw[dX (show(!false)=true from rfl),iR];generalize Sc.run (λc=>!Sc.brk c) (r.map UInt8.toNat)=k at*;generalize (r.map UInt8.toNat).length=n at*;by_cases h:k=n
   ·subst h;simp
   ·have h2:((k:Int)==-1)=false:=jE.2 dS;simp[h,h2]
end
end Go.Proofs.YtmkkdjpebbdikaaGreatDoor

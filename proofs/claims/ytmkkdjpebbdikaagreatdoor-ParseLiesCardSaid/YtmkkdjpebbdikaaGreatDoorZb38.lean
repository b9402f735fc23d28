import Derived.Test.YtmkkdjpebbdikaaGreatDoorZb31
set_option linter.all false
set_option maxHeartbeats 16000000
set_option maxRecDepth 100000
namespace Go.Proofs.YtmkkdjpebbdikaaGreatDoor
open Go.RowKit Go.Proofs.Tryz
def aip:=@run_eql_struct
section
open Go.RowKit
open Sg
open Sq
open Ar
theorem S8:prog.eqGuardType prog.depth 40=false:=dV
theorem adt(a b c:Int)(w:World):(binOp .eql 40 (.agg #[.int .i64 a,.int .i64 b,.int .i64 c]) (.agg #[.int .i64 a,.int .i64 b,.int .i64 c])).run prog w=.ok (.bool true) w:=by
 have u3:=underlying3;have hS:prog.underlying 40=some (.struct (prog.fieldsOf 40)):=dV
 have hp:prog.stoodInHeld 40=false:=dV
 rw[aip,show(10000:Nat)=9999+1 from rfl,run_equalIn_agg w 9999 40 _ _ hS hp];simp only[Program.fieldsOf,underlying40];go_simp
theorem adu(a b c:Int)(w:World):(binOp .neq 40 (.agg #[.int .i64 a,.int .i64 b,.int .i64 c]) (.agg #[.int .i64 a,.int .i64 b,.int .i64 c])).run prog w=.ok (.bool false) w:=by
 have h:=adt a b c w;rw[aip]at h;rw[run_neq_struct]
 revert h
 generalize (Op.equalIn 10000 40 (.agg #[.int .i64 a,.int .i64 b,.int .i64 c]) (.agg #[.int .i64 a,.int .i64 b,.int .i64 c])).run prog w=r;intro h;cases r with
 |ok x w1=>
  simp only[aeG]at h⊢;injection h with h1 h2
  injection h1 with h1
  rw[h1,h2];rfl
 |halt x w1=>simp[Result.andThen]at h
theorem abG(va vb:Value)(D:List Fl.Dg)(w:World)(ha:Reads fK w va D)(hb:Reads fK w vb D):
 Calls prog 15 #[va,vb] w λe w'=>e=.returned (.bool true)/\Below w.heap.size w w':=by
 obtain⟨a,ca,rfl⟩:=ha.shape;obtain⟨b,cb,rfl⟩:=hb.shape;have hl:=ha.size_le;obtain⟨n,hn⟩:=eu (D.length);have HX:=dY (λW (hW:Below w.heap.size w W) j x hx=>lH (ha.below hW) j x hx);have HY:=dY (λW (hW:Below w.heap.size w W) j x hx=>lH (hb.below hW) j x hx);have HQ:=dY (λw'=>show Below w.heap.size w w'->(λe (w':World)=>e=Ending.returned (.bool true)/\Below w.heap.size w w') (.returned (.bool true)) w' from λh=>⟨rfl,h⟩);obtain⟨Q,hQ⟩:=eu ((λe (w':World)=>e=Ending.returned (.bool true)/\Below w.heap.size w w'));rw[hQ]at HQ⊢;rw[hn]at hl⊢;have hl2:n<=9223372036854775807:=iU hl dU;have HN:=dY hn;have hg:=S8;clear ha hb hn hQ hl
 go_enter func15,ntmps15
 go_wp2_with fail
 go_loopw [5] (λiv wr=>∃i:Nat,iv=.int .i64 i/\i<=n/\Below w.heap.size w wr) (λiv _=>n-(intOf iv).toNat)
 case atStart=>exact⟨0,rfl,fP _,fD _ _⟩
 case round=>
  obtain⟨i,rfl,hin,hb⟩:=hrel;by_cases hlt:i<n
  ·obtain⟨x,hx⟩:∃x,D[i]?=some x:=⟨_,fu sO⟩
   obtain⟨b,off,rfl,x0,x1,x2⟩:=HX.out wr hb i x hx;obtain⟨b',off',rfl,y0,y1,y2⟩:=HY.out wr hb i x hx;have hii:(i:Int)<(n:Int):=dS
   have he:=adu x.code x.f x.t;have aa:=dY hb;clear hx hb;go_wp2_with fail
   go_quiet (fail)
   have OU:=dY (mF aa.out nq);clear x0 x1 x2 y0 y1 y2 he;generalize World.drewN _ nq=wn at*;go_wp2_with fail
   go_roundw
   case rel=>exact⟨i+1,fH,dS,OU.out⟩
   case measure=>simp[intOf];omega
  ·have hii:¬((i:Int)<(n:Int)):=by omega
   have HD:=dY (HQ.out _ hb);clear hb;go_wp2_with fail
   exact ll
end
end Go.Proofs.YtmkkdjpebbdikaaGreatDoor

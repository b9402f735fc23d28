import Derived.Test.YtfbiffdmhcjhbaaZa31
set_option linter.all false
set_option maxHeartbeats 16000000
set_option maxRecDepth 100000
set_option synthInstance.maxSize 4000
set_option synthInstance.maxHeartbeats 0
namespace Go.Proofs.Ytfbiffdmhcjhbaa
open Go.RowKit Try
section
open Go.RowKit
open Sq
open Ar
open Fl (Tk)
theorem Qy(x n:Int)(w:World)(h1:1<=n)(h2:n<=100000):
 Calls prog 13 #[.int .i64 x,.int .i64 n] w λe w'=>e=.returned (.int .i64 (zb x n))/\w=w':=by
 have hb1:=La x (show 0<n by omega);have hb2:-n<x.tmod n:=by
  have:=La (-x) (show 0<n by omega);rw[Un]at this;omega
 have hz:(n==0)=false:=by simp;omega
 have hn1:n≠0:=by omega
 unfold zb;by_cases hc:x.tmod n<0
 ·rw[gu hc]
  go_enter func13,ntmps13
  go_wp2;go_ret;exact⟨rfl,rfl⟩
 rw[fu hc]
 go_enter func13,ntmps13
 go_wp2;go_ret;exact⟨rfl,rfl⟩
theorem vW(x:Int)(n:Nat)(m:Int)(hm:m=(n:Int))(h1:1<=n)(h2:n<=100000):∃k:Nat,k<n/\((k:Int)=zb x n)/\∀w:World,Calls prog 13 #[.int .i64 x,.int .i64 m] w λe w'=>e=.returned (.int .i64 (k:Int))/\w=w':=by
 subst hm;have hb:=Ki x n (by omega);refine⟨(zb x n).toNat,by omega,by omega,λw=>?_⟩;have:=Qy x n w (by omega) (by omega);rw[show((zb x n).toNat:Int)=zb x n from by omega];exact this
end
end Go.Proofs.Ytfbiffdmhcjhbaa

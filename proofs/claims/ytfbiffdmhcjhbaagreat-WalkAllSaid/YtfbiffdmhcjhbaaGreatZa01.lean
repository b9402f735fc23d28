import Derived.Test.YtfbiffdmhcjhbaaGreatZa00
import Derived.Lib.Hide
set_option linter.all false
set_option maxHeartbeats 16000000
set_option maxRecDepth 100000
set_option synthInstance.maxSize 4000
set_option synthInstance.maxHeartbeats 0
namespace Go.Proofs.YtfbiffdmhcjhbaaGreat
open Go.RowKit
theorem eu{p:Prop}(h:p):Go.RowKit.Hid p:=h
theorem fD{p q:Prop}(P:p)(Q:q):Hid p/\Hid q:=⟨P,Q⟩
theorem gW{p q r:Prop}(P:p)(Q:q)(R:r):Hid p/\Hid q/\Hid r:=⟨P,Q,R⟩
theorem jk{p q r s:Prop}(P:p)(Q:q)(R:r)(S:s):Hid p/\Hid q/\Hid r/\Hid s:=⟨P,Q,R,S⟩
theorem xZ{p q r s t:Prop}(P:p)(Q:q)(R:r)(S:s)(T:t):Hid p/\Hid q/\Hid r/\Hid s/\Hid t:=⟨P,Q,R,S,T⟩
theorem j6{p q r s t u:Prop}(P:p)(Q:q)(R:r)(S:s)(T:t)(U:u):Hid p/\Hid q/\Hid r/\Hid s/\Hid t/\Hid u:=⟨P,Q,R,S,T,U⟩
end Go.Proofs.YtfbiffdmhcjhbaaGreat

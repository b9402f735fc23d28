import Derived.Test.YtfbiffdmhcjhbaaZa10
import Derived.ArgAppend
import Derived.Lib.ConvBytes
import Derived.Lib.EndianMore
set_option linter.all false
set_option maxHeartbeats 16000000
set_option maxRecDepth 100000
namespace Go.Proofs.Ytfbiffdmhcjhbaa
open Go.RowKit Try
section
open Go.RowKit
structure Fv(w:World)(g:Nat)(s:ByteArray)(cap:Nat):Prop where
 le:s.size<=cap
 max:cap<=maxLen
 at':∃C fr,w.heap[g]?=some (.cells C 5 fr)/\C.size=cap/\C.size<=fr.1
 cell:∀j,j<s.size->w.cell? ⟨g,j,none⟩=some (.int .u8 (s.get! j).toNat)
theorem Fv.Xr{w:World}{g:Nat}{s:ByteArray}{cap:Nat}(h:Fv w g s cap):uG w (.slice (some ⟨g,0,none⟩) s.size cap) s:=
 .inr ⟨g,0,cap,rfl,h.le,h.max,λj hj=>by rw[qz];exact h.cell j hj⟩
theorem Hf(s:ByteArray)(w:World)(hs:s.size<=maxLen):
 ∃cap w',(convert 9 23 (.string s)).run prog w=.ok (.slice (some ⟨w.heap.size,0,none⟩) s.size cap) w'/\Fv w' w.heap.size s cap/\Below w.heap.size w w':=by
 refine⟨grownCap w s.size 0 5,Lib.bytesWorld w 5 s,Lib.run_convert_string_bytes w 9 23 5 s underlying9 underlying23 underlying5,?_,?_⟩
 ·have hge:=grownCap_ge w s.size 0 5;have hC:(Lib.bytesCells w 5 s).size=grownCap w s.size 0 5:=by
   have e:s.data.size=s.size:=rfl;simp[Lib.bytesCells,e];omega
  refine⟨hge,grownCap_le_maxLen _ _ _ _ hs,⟨_,_,Lib.bytesWorld_at_new w 5 s,hC,mJ _⟩,λj hj=>?_⟩;rw[Lib.bytesWorld_cell w 5 s j hj,BP]
 exact⟨rfl,rfl,rfl,by rw[Lib.bytesWorld_size];omega,λi hi=>Lib.bytesWorld_at_old w 5 s i hi⟩
end
end Go.Proofs.Ytfbiffdmhcjhbaa

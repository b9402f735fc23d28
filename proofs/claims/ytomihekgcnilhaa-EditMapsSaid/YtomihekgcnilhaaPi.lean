/- package edit: what an edited text is made of (pieces), as values. -/
import Derived.Test.YtomihekgcnilhaaSqb
import Derived.Test.YtomihekgcnilhaaE5
import Derived.Test.YtomihekgcnilhaaPf
namespace Go.Proofs.Ytomihekgcnilhaa
open Go.RowKit
open Go.Proofs.Ytomihekgcnilhaa.Sq

/-- One of them: bytes that stay (a slice value, and what it reads as), or a text that is put. -/
inductive It where
  | stays (v : Value) (t : ByteArray)
  | put (t : ByteArray)
def It.cell : It → Value
  | .stays v _ => .iface 22 v
  | .put t => .iface 9 (.string t)
def It.text : It → ByteArray
  | .stays _ t => t
  | .put t => t
/-- It reads as it says. -/
def It.Ok (w : World) : It → Prop
  | .stays v t => Bys w v t
  | .put _ => True
def encI : Enc It := ⟨fun x => [x.cell], 1, by decide, fun _ => rfl, fun x u hu => by
  rw [List.mem_singleton.1 hu]
  cases x <;> rfl⟩
theorem tyI : Ty Try.prog encI 52 20 16 := Ty.of (z := .nilIface) Try.underlying52 (by kernel_rfl) (by kernel_rfl) rfl (fun w => by kernel_rfl)
/-- The bytes of all. -/
def cat (its : List It) : List UInt8 := its.flatMap fun x => x.text.data.toList
theorem cat_app (a b : List It) : cat (a ++ b) = cat a ++ cat b := by simp [cat]
theorem items_at {w : World} {a : Option Addr} {cap : Nat} {l : List It} (h : Reads encI w (.slice a l.length cap) l) (j : Nat) (x : It) (hj : l[j]? = some x) :
    ∃ b off, a = some ⟨b, off, none⟩ ∧ w.cell? ⟨b, off + j, none⟩ = some x.cell := by
  obtain ⟨b, off, h1, h2⟩ := h.at_ j x hj
  refine ⟨b, off, h1, ?_⟩
  have h3 := h2 0 x.cell rfl
  rw [show off + j * encI.k + 0 = off + j from by show off + j * 1 + 0 = off + j; omega] at h3
  exact h3
theorem assert_str (t : ByteArray) (w : World) : (Instr.typeAssert (.iface 9 (.string t)) 20 9 true).run Try.prog w = .ok (.tuple #[.string t, .bool true]) w := by kernel_rfl
theorem assert_no (v : Value) (w : World) : (Instr.typeAssert (.iface 22 v) 20 9 true).run Try.prog w = .ok (.tuple #[.string ⟨#[]⟩, .bool false]) w := by kernel_rfl
theorem assert_bys (v : Value) (w : World) : (Instr.typeAssert (.iface 22 v) 20 22 false).run Try.prog w = .ok v w := by kernel_rfl
theorem bys_cut_full {w : World} {a : Option Addr} {s : ByteArray} {cap lo hi : Nat} (h : Bys w (.slice a s.size cap) s) (h1 : lo ≤ hi) (h2 : hi ≤ s.size) :
    Bys w (.slice (if hi = lo then a else a.map fun x => x.add lo) (hi - lo) (hi - lo)) (s.extract lo hi) := by
  have hz := Sg.ext_size s lo hi h2
  rcases h with ⟨hv, h0⟩ | ⟨b, off, cap', hv, g2, g3, g4⟩
  · obtain ⟨rfl, -, rfl⟩ := Value.slice.inj hv
    obtain rfl : hi = 0 := by omega
    obtain rfl : lo = 0 := by omega
    exact .inl ⟨rfl, hz⟩
  · obtain ⟨rfl, -, rfl⟩ := Value.slice.inj hv
    by_cases hc : hi = lo
    · rw [if_pos hc]
      refine .inr ⟨b, off, hi - lo, by rw [hz], by omega, by omega, fun j hj => ?_⟩
      rw [hz] at hj; omega
    · rw [if_neg hc]
      refine .inr ⟨b, off + lo, hi - lo, ?_, by omega, by omega, fun j hj => ?_⟩
      · rw [hz, Option.map_some, addr_add]
      · rw [hz] at hj
        rw [Sg.ext_get s lo hi j (by omega), Nat.add_assoc]
        exact g4 (lo + j) (by omega)
/-- b[lo:hi:hi]. -/
theorem bcut_lhm {w : World} {a : Option Addr} {s : ByteArray} {cap lo hi : Nat} (h : Bys w (.slice a s.size cap) s) (h1 : lo ≤ hi) (h2 : hi ≤ s.size) :
    ∃ v, (∀ W : World, (Instr.slice 22 (.slice a s.size cap) (some (.int .i64 (lo : Int))) (some (.int .i64 (hi : Int))) (some (.int .i64 (hi : Int)))).run Try.prog W = .ok v W) ∧ Bys w v (s.extract lo hi) := by
  have hb := bys_cut_full h h1 h2
  have hc := h.cap_le
  refine ⟨_, fun W => ?_, hb⟩
  rw [run_slice_lhm W _ a s.size cap elem_bytes .i64 .i64 .i64 lo hi hi (by omega) (by omega) (by omega) (by omega), size_bytes]
  simp [Result.andThen, sliced]
theorem concrete_bys : Try.prog.concrete 22 = true := by kernel_rfl
theorem concrete_str : Try.prog.concrete 9 = true := by kernel_rfl
/-- Two of them that were just laid. -/
theorem laid_two (W : World) (x y : It) (t : TypeId) : ∀ j c, (encI.all [x, y])[j]? = some c → (W.alloc (.cells #[x.cell, y.cell] t)).cell? ⟨W.heap.size, j, none⟩ = some c := by
  intro j c hj
  rw [World.cell?_alloc_mark]
  simpa [Enc.all, encI] using hj
end Go.Proofs.Ytomihekgcnilhaa

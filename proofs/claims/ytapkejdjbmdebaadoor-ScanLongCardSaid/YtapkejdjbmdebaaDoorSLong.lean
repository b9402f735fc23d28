/- The walk of correctorlaw6.ScanLong: of more than 2^14 bytes there are no tokens; of fewer zeros there is one. -/
import Derived.Test.YtapkejdjbmdebaaDoorAid6
import Derived.Test.YtapkejdjbmdebaaDoorSp6
import Derived.Laws.MakeOwn
namespace Go.Proofs.YtapkejdjbmdebaaDoor
open Go.RowKit
open Go.Proofs.YtapkejdjbmdebaaDoor.Sg
open Go.Proofs.YtapkejdjbmdebaaDoor.Sq
set_option linter.unusedVariables false

def zeros (n : Nat) : ByteArray := ⟨(List.replicate n (0 : UInt8)).toArray⟩
theorem zeros_size (n : Nat) : (zeros n).size = n := by simp [zeros, ByteArray.size]
theorem nats_zeros (n : Nat) : Sc.nats (zeros n) = List.replicate n 0 := by
  simp [Sc.nats, zeros]
def mz (n : Nat) : Array Value := madeCells (Value.int .u8 0).cells (n * 1)
theorem mz_get (n j : Nat) (h : j < n) : (mz n)[j]? = some (.int .u8 0) := by
  simp [mz, madeCells, h, Nat.mod_one, Value.cells]
theorem zeros_get (n j : Nat) : ((zeros n).get! j).toNat = 0 := by
  rw [zeros, Sg.get_at, List.getD_eq_getElem?_getD, List.getElem?_replicate]
  split <;> rfl
theorem make_mz (n : Nat) (W : World) (hn : n ≤ 1000000) (m : Int) (hm : m = (n : Int)) : (Instr.makeSlice 23 (.int .i64 m) (.int .i64 m)).run Tryd.prog W = .ok (.slice (some ⟨W.heap.size, 0, none⟩) n n) (W.alloc (.cells (mz n) 5)) := by
  obtain ⟨i0, hi, hz0, hz1, hz2⟩ := info_parts infoByte
  have h := run_make (P := Tryd.prog) W 23 5 i0 (.int .u8 0) Tryd.underlying23 hi hz0 .i64 .i64 (n : Int) (n : Int) (by omega) (Int.le_refl _) (by rw [hz2]; omega) (by omega)
  rw [hm, h, hz1]
  simp only [Int.toNat_natCast]
  rfl
theorem bys_mz (n : Nat) (W : World) (hn : n ≤ 1000000) : Bys (W.alloc (.cells (mz n) 5)) (.slice (some ⟨W.heap.size, 0, none⟩) n n) (zeros n) := by
  refine .inr ⟨W.heap.size, 0, n, by rw [zeros_size], by rw [zeros_size]; exact Nat.le_refl _, by simp only [maxLen]; omega, fun j hj => ?_⟩
  rw [zeros_size] at hj
  rw [World.cell?_alloc_mark, Nat.zero_add, mz_get n j hj, zeros_get n j]
  rfl
set_option maxHeartbeats 2000000 in
set_option maxRecDepth 100000 in
theorem walk_ScanLong (a : Int) (w : World) (_ : (Lit.int .i64 a).wf = true) (hT : Tabs w) :
    Calls Tryd.prog 9 #[.int .i64 a] w fun e w' => e = .returned (.bool true) ∧ Below w.heap.size w w' := by
  obtain ⟨k, hk, hwi⟩ := within_nat a 7 (by decide) (by decide)
  obtain ⟨n, hn⟩ : ∃ n, n = 16381 + k := ⟨_, rfl⟩
  have hnI : (16381 : Int) + (k : Int) = (n : Int) := by omega
  have hn0 : (0 : Int) ≤ (n : Int) := by omega
  have HK := Lib.hid (known_true w hT)
  have HW := Lib.hid hwi
  have HT := Lib.hid hT
  clear hwi hT
  go_enter Tryd.func9, Tryd.ntmps9
  go_wp2_with fail
  refine HK.out.mono ?_
  rintro e w1 ⟨rfl, hb⟩
  go_wp2_with fail
  refine (HW.out _).mono ?_
  rintro e w2 ⟨rfl, rfl⟩
  have hmk := make_mz n w1 (by omega) n rfl
  have hbA := below_alloc w1 (.cells (mz n) 5)
  have hTk := pTokens _ _ _ (bys_mz n w1 (by omega)) ((HT.out.below hb).below hbA)
  rw [nats_zeros] at hTk
  have hbb := hb.trans (hbA.mono hb.size)
  have HTk := Lib.hid hTk
  have HBB := Lib.hid hbb
  clear hTk hbA hbb hb hn
  generalize mz n = C at *
  go_wp2_with fail
  refine HTk.out.mono ?_
  intro e w3 hg
  obtain ⟨a, cap, rfl, hR, hb3⟩ := hg.read
  have hfin := HBB.out.trans (hb3.mono HBB.out.size)
  by_cases hl : 16384 < n
  · have hlI : (16384 : Int) < (n : Int) := by omega
    rw [show Sc.tokens (List.replicate n 0) = [] from by rw [Sc.tokens_eq, if_pos (by rw [List.length_replicate]; exact hl)]]
    clear hR hg hb3 HTk hmk
    simp only [List.length_nil] at *
    go_wp2_with fail
    go_ret
    exact ⟨rfl, hfin⟩
  · have hlI : ¬ ((16384 : Int) < (n : Int)) := by omega
    rw [Sc.tokens_zeros n (by omega) (by omega)] at hR ⊢
    obtain ⟨tb, off, rfl, hat⟩ := reads_all hR (by simp)
    have a0 : w3.cell? ⟨tb, off + 2, none⟩ = some (.int .i64 n) := by
      have := (hat 0 (15, 0, n) rfl).2.2
      rw [Nat.zero_mul, Nat.add_zero] at this
      exact this
    clear hR hg hb3 HTk hmk hat
    simp only [List.length_cons, List.length_nil] at *
    go_wp2_with fail
    go_ret
    exact ⟨rfl, hfin⟩
end Go.Proofs.YtapkejdjbmdebaaDoor

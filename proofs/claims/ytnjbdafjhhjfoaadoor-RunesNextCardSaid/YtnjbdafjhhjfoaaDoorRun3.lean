/- What runes.Bad answers of any bytes: the places at which no sign begins. -/
import Derived.Test.YtnjbdafjhhjfoaaDoorRun2
import Derived.WalkSmall
import Derived.Maps.AppendAt
import Derived.Deep.DeepMust
import Derived.LoopN
namespace Go.Proofs.YtnjbdafjhhjfoaaDoor
open Go.RowKit
open Go.Proofs.YtnjbdafjhhjfoaaDoor.Sg

/-- A row of the call's own does not lie where a text is being ranged over. -/
theorem row_off_iter {w : World} {B e size n k pos : Nat} {v : Value} {xs : List Value} {s : ByteArray} (h : w.ownsRow B e size v n xs) (hk : w.heap[k]? = some (.stringIter s pos)) : v.ownBlock ≠ some k := fun e => by
  rcases h.2 with ⟨h1, _⟩ | ⟨g, cap, cur, h1, _, h3, _⟩
  · rw [h1] at e; cases e
  · rw [h1] at e
    obtain rfl : g = k := Option.some.inj e
    rw [h3] at hk; cases hk
theorem own_iterAt {w : World} {B e size n k pos : Nat} {v : Value} {xs : List Value} {s : ByteArray} (h : w.ownsRow B e size v n xs) (hk : w.heap[k]? = some (.stringIter s pos)) (pos' : Nat) : (w.iterAt k s pos').ownsRow B e size v n xs :=
  h.kept (row := some k) ⟨rfl, rfl, rfl, Nat.le_of_eq (Lib.iterAt_size w k s pos').symm, fun j _ hj => Lib.iterAt_other w k j s pos' (fun e => hj (by rw [e]))⟩ (.inr (row_off_iter h hk))
theorem own_ne_iter {w : World} {B e size n k pos : Nat} {v : Value} {xs : List Value} {s : ByteArray} (h : w.ownsRow B e size v n xs) (hk : w.heap[k]? = some (.stringIter s pos)) : some k ≠ v.ownBlock := fun e => row_off_iter h hk e.symm
/-- A row of the call's own stays where nothing below the heap's size changes. -/
theorem own_below {w w' : World} {B e size n : Nat} {v : Value} {xs : List Value} (h : w.ownsRow B e size v n xs) (hb : Below w.heap.size w w') : w'.ownsRow B e size v n xs := by
  refine ⟨h.1, ?_⟩
  rcases h.2 with h0 | ⟨g, cap, cur, hv, hbg, hg, rest⟩
  · exact .inl h0
  · have hlt : g < w.heap.size := (Array.getElem?_eq_some_iff.1 hg).1
    exact .inr ⟨g, cap, cur, hv, hbg, (hb.block g hlt).trans hg, rest⟩
theorem Tabs.below {w w' : World} (h : Tabs w) (hb : Below w.heap.size w w') : Tabs w' := by
  refine ⟨fun c hc => ?_, fun i hi => ⟨?_, ?_⟩⟩
  · have h0 := h.1 c hc
    rw [hb.cell (p := ⟨0, c, none⟩) (lt_of_cell h0)]
    exact h0
  · have h0 := (h.2 i hi).1
    rw [hb.cell (p := ⟨1, 2 * i, none⟩) (lt_of_cell h0)]
    exact h0
  · have h0 := (h.2 i hi).2
    rw [hb.cell (p := ⟨1, 2 * i + 1, none⟩) (lt_of_cell h0)]
    exact h0
/-- Places as values. -/
def places (l : List Nat) : List Value := l.map fun (p : Nat) => Value.int .i64 (p : Int)
theorem places_snoc (l : List Nat) (p : Nat) : places (l ++ [p]) = places l ++ [.int .i64 (p : Int)] := by simp [places]
theorem infoInt : (Tryd.prog.info? 3).map (fun i => (i.zero, i.size, i.bytes)) = some (some (.int .i64 0), 1, 8) := by kernel_rfl

set_option maxHeartbeats 2000000 in
set_option maxRecDepth 100000 in
theorem runesBad_on (s : ByteArray) (b off cap : Nat) (w : World) (hT : Tabs w) (hm : s.size ≤ 1000000) (hcap : s.size ≤ cap) (hcm : cap ≤ maxLen) (hp : ∀ j, j < s.size → w.cell? ⟨b, off + j, none⟩ = some (.int .u8 (s.get! j).toNat)) :
    Calls Tryd.prog 14 #[.slice (some ⟨b, off, none⟩) s.size cap] w fun e w' => ∃ v, e = .returned v ∧ w'.ownsRow w.heap.size 3 1 v (bad s).length (places (bad s)) ∧ Below w.heap.size w w' := by
  obtain ⟨i0, hi, hz0, hz1, hz2⟩ := info_parts infoInt
  have hcv := conv_bytes b off cap s w hp
  have hm2 : s.size ≤ 9223372036854775807 := by omega
  simp only [maxLen] at hcm
  go_enter Tryd.func14, Tryd.ntmps14
  go_wp2
  clear hcv
  go_loopg [3] s.size (fun gf v wr => ∃ (pos : Nat) (acc : List Nat), wr.ownsRow w.heap.size 3 1 v acc.length (places acc) ∧ wr.heap[w.heap.size]? = some (.stringIter s pos) ∧ Below w.heap.size w wr ∧ acc ++ badF s gf pos = bad s ∧ s.size ≤ pos + gf ∧ acc.length ≤ pos ∧ pos ≤ s.size)
  case atStart => exact ⟨0, [], World.ownsRow_nil _ _ _ _, World.iter_heap w s 0, (Below.refl _ w).alloc (Nat.le_refl _) _, by simp [bad], by omega, Nat.le_refl _, Nat.zero_le _⟩
  case round =>
    obtain ⟨pos, acc, hown, hit, hb, hc, hf, ha, hps⟩ := hrel
    by_cases hlt : pos < s.size
    · obtain ⟨g', rfl⟩ : ∃ g', gk = g' + 1 := ⟨gk - 1, by omega⟩
      have hnx : ∀ ty, (Instr.next (.pointer (some ⟨w.heap.size, 0, none⟩)) true ty).run Tryd.prog wr = _ := fun ty => Lib.run_next_any_at wr w.heap.size s pos ty hit hlt
      have hwd := nx_pos s pos hlt
      have hwn := nx_le s pos hlt
      have hlo := nx_lo s pos
      have hng := nx_neg s pos hlt
      rw [badF_step s g' pos hlt] at hc
      rw [← nx_width s pos hlt] at hnx
      have hNX : nx (s.extract pos s.size) 0 = nx s pos := by rw [nx_tail, Nat.add_zero]
      obtain ⟨K, hK⟩ : ∃ K, (nx s pos).2 = K := ⟨_, rfl⟩
      obtain ⟨X, hX⟩ : ∃ X, (nx s pos).1 = X := ⟨_, rfl⟩
      obtain ⟨R, hR⟩ : ∃ R, (Utf8.decode s pos).1 = R := ⟨_, rfl⟩
      rw [hX] at hlo hng hc
      rw [hR] at hng
      rw [hK, hR] at hnx
      rw [hK] at hwd hwn hc
      have hit2 := Lib.iterAt_heap wr w.heap.size s pos (pos + K) hit
      have hb2 := Lib.below_iterAt hb (k := w.heap.size) (Nat.le_refl _) s (pos + K)
      have hown2 := own_iterAt hown hit (pos + K)
      obtain ⟨W, hWd⟩ : ∃ W, wr.iterAt w.heap.size s (pos + K) = W := ⟨_, rfl⟩
      rw [hWd] at hnx hit2 hb2 hown2
      have hT2 : Tabs W := hT.below hb2
      have hN := runesNext (s.extract pos s.size) (s.size - pos) b (off + pos) (cap - pos) W (Lib.tail_size s pos) hT2 (fun j hj => by
        have hc0 := hp (pos + j) (by omega)
        have hblt : b < w.heap.size := lt_of_cell hc0
        rw [Lib.tail_get!, hb2.cell (p := ⟨b, off + pos + j, none⟩) hblt, ← hc0, Nat.add_assoc])
      rw [hNX, hK, hX] at hN
      have HN := Lib.hid hN
      have HC := Lib.hid hc
      have hpi : (pos : Int) ≤ (cap : Int) := by omega
      have hpi2 : (pos : Int) < (s.size : Int) := by omega
      clear hK hR hX hWd hit hb hc hN hT2 hown hNX hp hT
      by_cases hr : R = 65533
      · subst hr
        clear hng
        by_cases hx : X = -1
        · subst hx
          go_wp2_with fail
          refine HN.out.mono ?_
          rintro e W1 ⟨rfl, hb3⟩
          have hlt2 : w.heap.size < W.heap.size := (Array.getElem?_eq_some_iff.1 hit2).1
          have hown3 := own_below hown2 hb3
          have hit3 := (hb3.block _ hlt2).trans hit2
          have hb4 := hb2.trans (hb3.mono hb2.size)
          clear hb3 hb2 hit2 hown2
          go_wp2_with (at_builtin; go_must (refine wpList_append_own _ rfl (.tmp 24) (.tmp 26) 29 rfl w.heap.size 3 i0 (.int .i64 0) 1 8 Tryd.underlying29 hi hz0 hz1 hz2 rfl (by decide) _ _ _ rfl (hown3.alloc _) ⟨W1.heap.size, 0, none⟩ 1 1 [.int .i64 (pos : Int)] rfl rfl (cell_one_new _ _ _) (by intro u hu; simp at hu; subst hu; rfl) (by unfold maxLen; omega) (by omega) (by have := hb4.size; simp; omega) ?_; intro v3 w3 hown4 hgrow hnil))
          go_roundg g'
          case measure => omega
          case rel =>
            have hX := hown3.alloc (.cells #[.int .i64 (pos : Int)] 3)
            have hc := HC.out
            rw [if_pos (by omega), ← List.append_assoc] at hc
            refine ⟨pos + K, acc ++ [pos], ?_, ?_, ?_, hc, by omega, by simp; omega, hwn⟩
            · rw [List.length_append, places_snoc]; exact hown4
            · have hlt3 : w.heap.size < W1.heap.size := (Array.getElem?_eq_some_iff.1 hit3).1
              exact (hgrow.block w.heap.size (by simp; omega) (own_ne_iter hown3 hit3)).trans ((Below.heap_alloc _ _ _ hlt3).trans hit3)
            · exact (hb4.alloc hb4.size _).grown hgrow (by have := hb4.size; simp; omega) (fun j hj => (hX.lt j hj).1)
        · have hxb : ((X : Int) == -1) = false := by simp; omega
          go_wp2_with fail
          refine HN.out.mono ?_
          rintro e W1 ⟨rfl, hb3⟩
          have hlt2 : w.heap.size < W.heap.size := (Array.getElem?_eq_some_iff.1 hit2).1
          have hown3 := own_below hown2 hb3
          have hit3 := (hb3.block _ hlt2).trans hit2
          have hb4 := hb2.trans (hb3.mono hb2.size)
          clear hb3 hb2 hit2 hown2
          go_wp2
          go_roundg g'
          case measure => omega
          case rel =>
            have hc := HC.out
            rw [if_neg (by omega)] at hc
            exact ⟨pos + K, acc, hown3, hit3, hb4, hc, by omega, by omega, hwn⟩
      · have hXR := hng hr
        have hrb : ((R : Int) == 65533) = false := by simp; omega
        clear hng hr
        go_wp2
        go_roundg g'
        case measure => omega
        case rel =>
          have hc := HC.out
          rw [if_neg (by omega)] at hc
          exact ⟨pos + K, acc, hown2, hit2, hb2, hc, by omega, by omega, hwn⟩
    · have hnx : ∀ ty, (Instr.next (.pointer (some ⟨w.heap.size, 0, none⟩)) true ty).run Tryd.prog wr = _ := fun ty => Lib.run_next_end_at wr w.heap.size s pos ty hit hlt
      rw [badF_end s gk pos hlt, List.append_nil] at hc
      subst hc
      go_wp2
      go_ret
      exact ⟨_, rfl, hown, hb⟩

set_option maxHeartbeats 1000000 in
set_option maxRecDepth 100000 in
theorem runesBad_nil (w : World) :
    Calls Tryd.prog 14 #[.slice none 0 0] w fun e w' => ∃ v, e = .returned v ∧ w'.ownsRow w.heap.size 3 1 v 0 [] ∧ Below w.heap.size w w' := by
  have hcv := conv_nil w 0
  have hnx : ∀ ty, (Instr.next (.pointer (some ⟨w.heap.size, 0, none⟩)) true ty).run Tryd.prog (w.iter ⟨#[]⟩ 0) = _ := fun ty => run_next_end w ⟨#[]⟩ 0 ty (by decide)
  go_enter Tryd.func14, Tryd.ntmps14
  go_wp2
  refine wp_loop_rounds 1 ?_
  rw [rounds_succ]
  go_wp2
  go_ret
  exact ⟨_, rfl, World.ownsRow_nil _ _ _ _, (Below.refl _ w).alloc (Nat.le_refl _) _⟩

theorem runesBad (s : ByteArray) (v : Value) (w : World) (h : Bys w v s) (hT : Tabs w) (hm : s.size ≤ 1000000) :
    Calls Tryd.prog 14 #[v] w fun e w' => ∃ v, e = .returned v ∧ w'.ownsRow w.heap.size 3 1 v (bad s).length (places (bad s)) ∧ Below w.heap.size w w' := by
  rcases h with ⟨rfl, h⟩ | ⟨b, off, cap, rfl, h2, h3, h4⟩
  · have e : bad s = [] := badF_end s _ _ (by omega)
    rw [e]
    exact runesBad_nil w
  · exact runesBad_on s b off cap w hT hm h2 h3 h4
end Go.Proofs.YtnjbdafjhhjfoaaDoor

/- slices.BinarySearchFunc over edits in order. -/
import Derived.Test.YtomihekgcnilhaaPd
import Derived.Deep.RegionHeld3
namespace Go.Proofs.Ytomihekgcnilhaa
open Go.RowKit
open Go.Proofs.Ytomihekgcnilhaa.Sq

/-- Those that stand ahead of e stand ahead of the others. -/
def Rises (l : List Et) (e : Et) : Prop := ∀ (i j : Nat) (x y : Et), i < j → l[i]? = some x → l[j]? = some y → Ed.ahead y.ed e.ed = true → Ed.ahead x.ed e.ed = true
/-- What is known of those below i and from j on. -/
def Parts (l : List Et) (e : Et) (i j : Nat) : Prop := (∀ (k : Nat) (x : Et), k < i → l[k]? = some x → Ed.ahead x.ed e.ed = true) ∧ (∀ (k : Nat) (x : Et), j ≤ k → l[k]? = some x → Ed.ahead x.ed e.ed = false)
theorem parts_all (l : List Et) (e : Et) : Parts l e 0 l.length := ⟨fun k x h _ => absurd h (Nat.not_lt_zero k), fun k x h hx => by have := (List.getElem?_eq_some_iff.1 hx).1; omega⟩
theorem parts_up {l : List Et} {e x : Et} {i j h : Nat} (hP : Parts l e i j) (hR : Rises l e) (hx : l[h]? = some x) (ha : Ed.ahead x.ed e.ed = true) : Parts l e (h + 1) j := by
  refine ⟨fun k y hk hy => ?_, hP.2⟩
  by_cases hkh : k = h
  · subst hkh; rw [hx] at hy; rw [← Option.some.inj hy]; exact ha
  · exact hR k h y x (by omega) hy hx ha
theorem parts_down {l : List Et} {e x : Et} {i j h : Nat} (hP : Parts l e i j) (hR : Rises l e) (hx : l[h]? = some x) (ha : Ed.ahead x.ed e.ed = false) : Parts l e i h := by
  refine ⟨hP.1, fun k y hk hy => ?_⟩
  by_cases hkh : k = h
  · subst hkh; rw [hx] at hy; rw [← Option.some.inj hy]; exact ha
  · cases hay : Ed.ahead y.ed e.ed with
    | false => rfl
    | true => rw [hR h k x y (by omega) hx hy hay] at ha; cases ha
/-- What the search yields. -/
def Found (l : List Et) (e : Et) (w : World) (r : Ending) (w' : World) : Prop :=
  ∃ (p : Nat) (b : Bool), r = .returned (.tuple #[.int .i64 p, .bool b]) ∧ p ≤ l.length ∧ Parts l e p p ∧ Below w.heap.size w w'
theorem drew_cell {W : World} {p : Addr} {u : Value} (h : W.cell? p = some u) : W.drew.cell? p = some u := h
theorem cell_keep {w w' : World} {b o : Nat} {v : Value} (h : w.cell? ⟨b, o, none⟩ = some v) (hb : Below w.heap.size w w') : w'.cell? ⟨b, o, none⟩ = some v := (hb.cell (p := ⟨b, o, none⟩) (cell_lt h)).trans h
set_option maxHeartbeats 3000000 in
set_option maxRecDepth 100000 in
theorem search_any (v : Value) (l : List Et) (e : Et) (w : World) (hE : Edits w v l) (hl : l.length ≤ 100000) (hR : Rises l e) :
    Calls Try.prog 36 #[v, e.val, .func (.func 37) #[] #[]] w (Found l e w) := by
  obtain ⟨a, cap, rfl⟩ := hE.shape
  obtain ⟨N, hN⟩ : ∃ N, l.length = N := ⟨_, rfl⟩
  have HA := Lib.hid (fun k y hk => edits_at hE k y hk)
  have HN := Lib.hid hN
  have HR := Lib.hid hR
  have HP0 := Lib.hid (by have h := parts_all l e; rw [hN] at h; exact h)
  rw [hN] at hl
  rw [hN]
  have HIn := Lib.hid (fun x W => inOrder_any x e W)
  obtain ⟨f, t, p⟩ := e
  clear hN hE hR
  go_enter Try.func36, Try.ntmps36
  go_wp2_with fail
  go_loopw [9, 10] (fun is js wr => ∃ i j : Nat, is = .int .i64 i ∧ js = .int .i64 j ∧ i ≤ j ∧ j ≤ N ∧ Hid (Parts l ⟨f, t, p⟩ i j) ∧ wr.cell? ⟨w.heap.size, 0, none⟩ = some (.int .i64 f) ∧ wr.cell? ⟨w.heap.size, 1, none⟩ = some (.int .i64 t) ∧ wr.cell? ⟨w.heap.size, 2, none⟩ = some (.string p) ∧ Below w.heap.size w wr) (fun is js _ => (intOf js).toNat - (intOf is).toNat)
  case atStart => exact ⟨0, N, rfl, rfl, Nat.zero_le _, Nat.le_refl _, HP0, by rw [World.cell?_alloc_mark]; rfl, by rw [World.cell?_alloc_mark]; rfl, by rw [World.cell?_alloc_mark]; rfl, (Below.refl _ _).alloc (Nat.le_refl _) _⟩
  case round =>
    obtain ⟨i, j, rfl, rfl, hij, hjN, HP, d0, d1, d2, hb⟩ := hrel
    by_cases hlt : i < j
    · obtain ⟨h, hh⟩ : ∃ h, (i + j) / 2 = h := ⟨_, rfl⟩
      have hi1 : i ≤ h := by omega
      have hi2 : h < j := by omega
      have eh : ((i : Int) + (j : Int)) / 2 = (h : Int) := by omega
      have hkl : h < l.length := by rw [HN.out]; omega
      obtain ⟨x, hx⟩ : ∃ x, l[h]? = some x := ⟨_, List.getElem?_eq_getElem hkl⟩
      obtain ⟨b, off, rfl, c0, c1, c2⟩ := HA.out h x hx
      have c0 := cell_keep c0 hb
      have c1 := cell_keep c1 hb
      have c2 := cell_keep c2 hb
      have hca := cmp_ahead x ⟨f, t, p⟩
      have HI := Lib.hid (fun W => HIn.out x W)
      obtain ⟨c, hc⟩ : ∃ c, cmpE x ⟨f, t, p⟩ = c := ⟨_, rfl⟩
      rw [hc] at hca HI
      have HX := Lib.hid hx
      have hij' : (i : Int) < (j : Int) := by omega
      have hhN : (h : Int) < (N : Int) := by omega
      have HB := Lib.hid hb
      have hh1 : h < N := by omega
      clear hh hx hc hb

      by_cases hc0 : c < 0
      · skip
        have HP2 := Lib.hid (parts_up HP.out HR.out HX.out (hca.symm.trans (decide_eq_true hc0)))
        clear hca
        go_wp2_with fail
        refine wp_region_quiet_tail 6 (by kernel_rfl) (by kernel_rfl) ?_
        simp only [List.take_succ_cons, List.take_zero, List.drop_succ_cons, List.drop_zero]
        repeat (go_big_quiet_step (fail))
        refine wpQuiet_nil ?_
        go_wp2_with fail
        refine (HI.out _).mono ?_
        rintro e w2 ⟨rfl, hb2⟩
        have q0 := cell_keep (w := wr.drew) d0 hb2
        have q1 := cell_keep (w := wr.drew) d1 hb2
        have q2 := cell_keep (w := wr.drew) d2 hb2
        have HB2 := Lib.hid (HB.out.trans (Below.mono (Below.trans (b := wr.drew) ⟨rfl, rfl, rfl, Nat.le_refl _, fun _ _ => rfl⟩ hb2) HB.out.size))
        clear hb2 d0 d1 d2 c0 c1 c2
        go_wp2
        go_roundw
        case rel => exact ⟨h + 1, j, by go_num, rfl, by omega, hjN, HP2, q0, q1, q2, HB2.out⟩
        case measure => simp [intOf]; omega
      · skip
        have HP2 := Lib.hid (parts_down HP.out HR.out HX.out (hca.symm.trans (decide_eq_false hc0)))
        clear hca
        go_wp2_with fail
        refine wp_region_quiet_tail 6 (by kernel_rfl) (by kernel_rfl) ?_
        simp only [List.take_succ_cons, List.take_zero, List.drop_succ_cons, List.drop_zero]
        repeat (go_big_quiet_step (fail))
        refine wpQuiet_nil ?_
        go_wp2_with fail
        refine (HI.out _).mono ?_
        rintro e w2 ⟨rfl, hb2⟩
        have q0 := cell_keep (w := wr.drew) d0 hb2
        have q1 := cell_keep (w := wr.drew) d1 hb2
        have q2 := cell_keep (w := wr.drew) d2 hb2
        have HB2 := Lib.hid (HB.out.trans (Below.mono (Below.trans (b := wr.drew) ⟨rfl, rfl, rfl, Nat.le_refl _, fun _ _ => rfl⟩ hb2) HB.out.size))
        clear hb2 d0 d1 d2 c0 c1 c2
        go_wp2
        go_roundw
        case rel => exact ⟨i, h, rfl, rfl, by omega, by omega, HP2, q0, q1, q2, HB2.out⟩
        case measure => simp [intOf]; omega
    · obtain rfl : i = j := by omega
      have HFin := Lib.hid (fun b W (hbW : Below w.heap.size w W) => show Found l ⟨f, t, p⟩ w (.returned (.tuple #[.int .i64 i, .bool b])) W from ⟨i, b, rfl, by rw [HN.out]; exact hjN, HP.out, hbW⟩)
      by_cases hiN : i < N
      · have hiN' : (i : Int) < (N : Int) := by omega
        have hkl : i < l.length := by rw [HN.out]; omega
        obtain ⟨x, hx⟩ : ∃ x, l[i]? = some x := ⟨_, List.getElem?_eq_getElem hkl⟩
        obtain ⟨b, off, rfl, c0, c1, c2⟩ := HA.out i x hx
        have c0 := cell_keep c0 hb
        have c1 := cell_keep c1 hb
        have c2 := cell_keep c2 hb
        have HI := Lib.hid (fun W => HIn.out x W)
        obtain ⟨c, hc⟩ : ∃ c, cmpE x ⟨f, t, p⟩ = c := ⟨_, rfl⟩
        rw [hc] at HI
        have HB := Lib.hid hb
        clear hx hc hb
        go_wp2_with fail
        go_region_held3 (fun wx => wx.cell? ⟨b, off + i * 3, none⟩ = some (.int .i64 x.f) ∧ wx.cell? ⟨b, off + i * 3 + 1, none⟩ = some (.int .i64 x.t) ∧ wx.cell? ⟨b, off + i * 3 + 2, none⟩ = some (.string x.p) ∧ wx.cell? ⟨w.heap.size, 0, none⟩ = some (.int .i64 f) ∧ wx.cell? ⟨w.heap.size, 1, none⟩ = some (.int .i64 t) ∧ wx.cell? ⟨w.heap.size, 2, none⟩ = some (.string p)) (((refine ⟨?_, ?_, ?_, ?_, ?_, ?_⟩); all_goals (repeat (first | (with_reducible exact c0) | (with_reducible exact c1) | (with_reducible exact c2) | (with_reducible exact d0) | (with_reducible exact d1) | (with_reducible exact d2) | (with_reducible exact q0) | (with_reducible exact q1) | (with_reducible exact q2) | (with_reducible exact q3) | (with_reducible exact q4) | (with_reducible exact q5) | (with_reducible refine drew_cell ?_)))))
          (((with_reducible refine (HI.out _).mono ?_); rintro e w2 ⟨rfl, hb2⟩; have q0 := cell_keep (w := wr.drew) c0 hb2; have q1 := cell_keep (w := wr.drew) c1 hb2; have q2 := cell_keep (w := wr.drew) c2 hb2; have q3 := cell_keep (w := wr.drew) d0 hb2; have q4 := cell_keep (w := wr.drew) d1 hb2; have q5 := cell_keep (w := wr.drew) d2 hb2; have HB2 := Lib.hid (HB.out.trans (Below.mono (Below.trans (b := wr.drew) ⟨rfl, rfl, rfl, Nat.le_refl _, fun _ _ => rfl⟩ hb2) HB.out.size))))
        clear hb2 d0 d1 d2 c0 c1 c2 q0 q1 q2 q3 q4 q5
        go_wp2
        go_ret2
        exact HFin.out _ _ HB2.out
      · obtain rfl : i = N := by omega
        have HB := Lib.hid hb
        clear hb d0 d1 d2
        go_wp2_with fail
        go_quiet (fail)
        go_wp2
        go_ret2
        exact HFin.out _ _ (HB.out.trans (Below.mono (Below.trans (b := wr.drewN nq) ⟨rfl, rfl, rfl, Nat.le_refl _, fun _ _ => rfl⟩ (Below.refl _ _)) HB.out.size))
end Go.Proofs.Ytomihekgcnilhaa

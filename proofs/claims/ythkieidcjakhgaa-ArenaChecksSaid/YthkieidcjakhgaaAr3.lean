/- The chapter's own arena (correctorref10): reach, copied. -/
import Derived.Test.YthkieidcjakhgaaAr2
import Derived.Lib.MinMax
import Derived.WalkKit
import Derived.BigQuiet
import Derived.Deep.DeepCutAuto
import Derived.Deep.CutBlock
import Derived.Lib.Hide
import Derived.Deep.DeepMust
import Derived.WalkSmall
namespace Go.Proofs.Ythkieidcjakhgaa
open Go.RowKit
open Go.Proofs.Ythkieidcjakhgaa.Sq
open Go.Proofs.Ythkieidcjakhgaa.Ar
set_option linter.unusedVariables false

theorem below_from {w w1 w2 : World} (h1 : Below w.heap.size w w1) (h2 : Below w1.heap.size w1 w2) : Below w.heap.size w w2 := h1.trans (h2.mono h1.size)
/-- What reach leaves. -/
def Reached (R : List Nd) (B : Nat) (v : Value) (w : World) (e : Ending) (w' : World) : Prop :=
  e = .returned (.tuple #[]) ∧ (∃ L, L.map Ln.nd = R ∧ OT w' B v L) ∧ Below B w w'
set_option maxHeartbeats 4000000 in
set_option maxRecDepth 100000 in
theorem rReach (g cap B n : Nat) (L : List Ln) (k to' : Int) (w : World) (h : OT w B (.slice (some ⟨g, 0, none⟩) n cap) L) (hn : L.length = n) (hG : Ar.Good (L.map Ln.nd)) (hk1 : -1 ≤ k) (hk2 : k < n) :
    Calls Try.prog 24 #[.slice (some ⟨g, 0, none⟩) n cap, .int .i64 k, .int .i64 to'] w (Reached (reachN (L.map Ln.nd) k to') B (.slice (some ⟨g, 0, none⟩) n cap) w) := by
  obtain ⟨R, hR⟩ : ∃ R, reachN (L.map Ln.nd) k to' = R := ⟨_, rfl⟩
  rw [hR]
  have HQ := Lib.hid (fun w' => show ((∃ L, L.map Ln.nd = R ∧ OT w' B (.slice (some ⟨g, 0, none⟩) n cap) L) ∧ Below B w w') → Reached R B (.slice (some ⟨g, 0, none⟩) n cap) w (.returned (.tuple #[])) w' from fun h => ⟨rfl, h⟩)
  obtain ⟨Q, hQ⟩ : ∃ Q, Reached R B (.slice (some ⟨g, 0, none⟩) n cap) w = Q := ⟨_, rfl⟩
  rw [hQ] at HQ ⊢
  have hcap : n ≤ cap ∧ cap ≤ maxLen := by
    rcases h.row.2 with ⟨h1, _⟩ | ⟨g', cap', cur, hv, _, _, h4, h5, _⟩
    · cases h1
    · obtain ⟨_, _, e3⟩ := Value.slice.inj hv
      rw [e3]; exact ⟨by rw [← hn]; exact h4, h5⟩
  simp only [maxLen] at hcap
  have H0 := Lib.hid h
  have HG0 := Lib.hid hG
  have HR0 := Lib.hid hR
  have HN0 := Lib.hid hn
  clear h hG hR hn hQ
  go_enter Try.func24, Try.ntmps24
  go_wp2_with fail
  go_loopw [6] (fun kv wr => ∃ (k : Int) (L : List Ln), kv = .int .i64 k ∧ -1 ≤ k ∧ k < n ∧ Hid (OT wr B (.slice (some ⟨g, 0, none⟩) n cap) L) ∧ Hid (Ar.Good (L.map Ln.nd)) ∧ Hid (reachN (L.map Ln.nd) k to' = R) ∧ Hid (L.length = n) ∧ Hid (Below B w wr)) (fun kv _ => (intOf kv + 1).toNat)
  case atStart => exact ⟨k, L, rfl, hk1, hk2, H0, HG0, HR0, HN0, Lib.hid (Below.refl _ _)⟩
  case round =>
    clear hk1 hk2 H0 HG0 HR0 HN0
    obtain ⟨k, L, rfl, hk1, hk2, HO, HG, HR, HN, HB⟩ := hrel
    by_cases hneg : k < 0
    · obtain rfl : k = -1 := by omega
      have hr := HR.out
      rw [reach_stop _ _ _ (by omega)] at hr
      have HD := Lib.hid (HQ.out wr ⟨⟨L, hr, HO.out⟩, HB.out⟩)
      clear hr hk2
      go_wp2_with fail
      go_end0
      exact HD.out
    · obtain ⟨i, rfl⟩ : ∃ i : Nat, k = (i : Int) := ⟨k.toNat, by omega⟩
      have hin : i < n := by omega
      obtain ⟨p, hp⟩ : ∃ p, L[i]? = some p := ⟨_, List.getElem?_eq_getElem (by rw [HN.out]; exact hin)⟩
      have hrow := HO.out.row
      have c2 : wr.cell? ⟨g, i * 6 + 2, none⟩ = some (.int .i64 p.nd.t) := by
        have := hrow.cells (g := g) rfl _ _ ((all_get encN L i p hp 2 (by decide)).trans rfl)
        rw [add_addr, Nat.zero_add] at this
        exact this
      have c3 : wr.cell? ⟨g, i * 6 + 3, none⟩ = some (.int .i64 p.nd.u) := by
        have := hrow.cells (g := g) rfl _ _ ((all_get encN L i p hp 3 (by decide)).trans rfl)
        rw [add_addr, Nat.zero_add] at this
        exact this
      obtain ⟨g', cap', hv, hBg, hfz, _, _⟩ := own_at hrow (by rw [HN.out]; omega)
      obtain ⟨e1, _, _⟩ := Value.slice.inj hv
      injection e1 with e1
      injection e1 with e1
      subst e1
      have f2 := hfz (i * 6 + 2)
      have d3 := at_off (o := i * 6 + 2) (v := .int .i64 (max p.nd.t to')) (by omega) c3
      have hx : (L.map Ln.nd)[i]? = some p.nd := by rw [List.getElem?_map, hp]; rfl
      have hu := HG.out.up i p.nd hx
      have hst := reach_step (L.map Ln.nd) i to' p.nd HG.out (by omega) (by rw [Int.toNat_natCast]; exact hx)
      rw [Int.toNat_natCast] at hst
      have hO2 := HO.out.set i 2 p { p.nd with t := max p.nd.t to' } (.int .i64 (max p.nd.t to')) hp rfl rfl (by decide)
      have hmap : (L.set i { p with nd := { p.nd with t := max p.nd.t to' } }).map Ln.nd = (L.map Ln.nd).set i { p.nd with t := max p.nd.t to' } := by rw [List.map_set]
      obtain ⟨L2, hL2⟩ : ∃ L2, L.set i { p with nd := { p.nd with t := max p.nd.t to' } } = L2 := ⟨_, rfl⟩
      rw [hL2] at hO2 hmap
      have HO2 := Lib.hid hO2
      have HG2 := Lib.hid (show Ar.Good (L2.map Ln.nd) by rw [hmap]; exact good_set HG.out i p.nd hx _ (Int.le_max_left _ _))
      have HR2 := Lib.hid (show reachN (L2.map Ln.nd) p.nd.u to' = R by rw [hmap, ← hst]; exact HR.out)
      have HN2 := Lib.hid (show L2.length = n by rw [← hL2, List.length_set]; exact HN.out)
      have HB2 := Lib.hid (HB.out.setCell (p := ⟨g, i * 6 + 2, none⟩) hBg (.int .i64 (max p.nd.t to')))
      have hi2 : (i : Int) < (n : Int) := by omega
      clear hrow hv hBg hfz hx hst hO2 hmap hL2 hp
      go_wp2_with fail
      go_roundw
      case rel => exact ⟨p.nd.u, L2, rfl, by omega, by omega, HO2, HG2, HR2, HN2, HB2⟩
      case measure => simp [intOf]; omega
end Go.Proofs.Ythkieidcjakhgaa

/- Package arena: reach. -/
import Derived.Test.YthkieidcjakhgaaAq4
namespace Go.Proofs.Ythkieidcjakhgaa
open Go.RowKit
open Go.Proofs.Ythkieidcjakhgaa.Sq
open Go.Proofs.Ythkieidcjakhgaa.Ar
set_option linter.unusedVariables false

theorem gb_below {w w' : World} (hb : Below w.heap.size w w') (r : Option Nat) : w.grownBy w' r := ⟨hb.os, hb.tape, hb.output, hb.size, fun k hk _ => hb.block k hk⟩
theorem gb_any {w w' : World} (h : w.grownBy w' none) (r : Option Nat) : w.grownBy w' r := ⟨h.os, h.tape, h.output, h.size, fun k hk _ => h.block k hk (fun e => by cases e)⟩
theorem gb_set {w w' : World} {r : Option Nat} (h : w.grownBy w' r) {b : Nat} (hb : r = some b ∨ w.heap.size ≤ b) (o : Nat) (u : Value) : w.grownBy (w'.setCell ⟨b, o, none⟩ u) r :=
  ⟨h.os, h.tape, h.output, by simp [World.setCell]; exact h.size, fun k hk hne => (Below.heap_setCell _ _ _ _ (fun e => by
    have e : k = b := e
    rcases hb with hb | hb
    · exact hne (by rw [hb, e])
    · omega)).trans (h.block k hk hne)⟩
theorem gb_then {w w' w'' : World} {r : Option Nat} (h : w.grownBy w' r) (hb : Below w'.heap.size w' w'') : w.grownBy w'' r := h.trans (gb_below hb r)
theorem gb_drew {w w' : World} {r : Option Nat} (h : w.grownBy w' r) : w.grownBy w'.drew r := gb_then h (Below.refl _ _).drew
theorem gb_low {w w' : World} {g B : Nat} (h : w.grownBy w' (some g)) (hB : B ≤ g) (hw : B ≤ w.heap.size) : Below B w w' := (Below.refl B w).grown h hw (fun k hk => by have e : g = k := Option.some.inj hk; omega)
/-- What reach leaves of a copied tree. -/
def ReachedP (R : List Nd) (B g : Nat) (v : Value) (w : World) (e : Ending) (w' : World) : Prop :=
  e = .returned (.tuple #[]) ∧ (∃ L, L.map Ln.nd = R ∧ PT w' B v L) ∧ w.grownBy w' (some g)
theorem PT.drew {w : World} {B : Nat} {v : Value} {L : List Ln} (h : PT w B v L) : PT w.drew B v L := h.below (Below.refl _ _).drew
set_option maxHeartbeats 4000000 in
set_option maxRecDepth 100000 in
theorem aReach (g cap B n : Nat) (L : List Ln) (k to' : Int) (w : World) (h : PT w B (.slice (some ⟨g, 0, none⟩) n cap) L) (hn : L.length = n) (hG : Ar.Good (L.map Ln.nd)) (hk1 : -1 ≤ k) (hk2 : k < n) :
    Calls Try.prog 37 #[.agg #[.slice (some ⟨g, 0, none⟩) n cap], .agg #[.int .i64 k, .int .i64 to']] w (ReachedP (reachN (L.map Ln.nd) k to') B g (.slice (some ⟨g, 0, none⟩) n cap) w) := by
  obtain ⟨R, hR⟩ : ∃ R, reachN (L.map Ln.nd) k to' = R := ⟨_, rfl⟩
  rw [hR]
  have HQ := Lib.hid (fun w' => show ((∃ L, L.map Ln.nd = R ∧ PT w' B (.slice (some ⟨g, 0, none⟩) n cap) L) ∧ w.grownBy w' (some g)) → ReachedP R B g (.slice (some ⟨g, 0, none⟩) n cap) w (.returned (.tuple #[])) w' from fun h => ⟨rfl, h⟩)
  obtain ⟨Q, hQ⟩ : ∃ Q, ReachedP R B g (.slice (some ⟨g, 0, none⟩) n cap) w = Q := ⟨_, rfl⟩
  rw [hQ] at HQ ⊢
  have hcap := own_cap h.row
  simp only [maxLen] at hcap
  obtain ⟨-, hc1, hc2⟩ := hcap
  obtain ⟨Bt, hBt⟩ : ∃ Bt, w.heap.size = Bt := ⟨_, rfl⟩
  obtain ⟨Bg, hBg⟩ : ∃ Bg, w.heap.size + 1 = Bg := ⟨_, rfl⟩
  obtain ⟨w1, hw1⟩ : ∃ w1, (w.alloc (.cells #[.slice (some ⟨g, 0, none⟩) n cap] 27)).alloc (.cells #[.int .i64 k, .int .i64 to'] 55) = w1 := ⟨_, rfl⟩
  have hgw : B ≤ g ∧ g < w.heap.size := h.row.lt g rfl
  have hb1 : Below w.heap.size w w1 := by rw [← hw1]; exact below_allocS (below_alloc w _) _
  have ct : w1.cell? ⟨Bt, 0, none⟩ = some (.slice (some ⟨g, 0, none⟩) n cap) := by rw [← hw1, ← hBt]; exact at_alloc (at_new rfl)
  have hsz : (w.alloc (.cells #[.slice (some ⟨g, 0, none⟩) n cap] 27)).heap.size = Bg := by rw [size_alloc]; exact hBg
  have cg0 : w1.cell? ⟨Bg, 0, none⟩ = some (.int .i64 k) := by rw [← hw1, ← hsz]; exact at_new rfl
  have cg1 : w1.cell? ⟨Bg, 1, none⟩ = some (.int .i64 to') := by rw [← hw1, ← hsz]; exact at_new rfl
  have ht1 : g ≠ Bt := by omega
  have ht2 : g ≠ Bg := by omega
  have H0 := Lib.hid (h.below hb1)
  have HB0 := Lib.hid (gb_below hb1 (some g))
  have HG0 := Lib.hid hG
  have HR0 := Lib.hid hR
  have HN0 := Lib.hid hn
  have HW1 := Lib.hid hw1
  have HBt := Lib.hid hBt
  have HBg := Lib.hid hBg
  clear h hG hR hn hQ hw1 hBt hBg hb1 hsz
  obtain ⟨hBgl, -⟩ := hgw
  go_enter Try.func37, Try.ntmps37
  go_upto_region 1 with fail
  rw [HW1.out, HBg.out, HBt.out]
  clear HW1 HBg HBt
  go_wp2_with fail
  have ct0 := Lib.hid ct
  have cg10 := Lib.hid cg1
  clear cg0 ct cg1
  go_loopw [4] (fun kv wr => ∃ (k : Int) (L : List Ln), kv = .int .i64 k ∧ -1 ≤ k ∧ k < n ∧ Hid (PT wr B (.slice (some ⟨g, 0, none⟩) n cap) L) ∧ Hid (Ar.Good (L.map Ln.nd)) ∧ Hid (reachN (L.map Ln.nd) k to' = R) ∧ Hid (L.length = n) ∧ Hid (w.grownBy wr (some g)) ∧ Hid (wr.cell? ⟨Bt, 0, none⟩ = some (.slice (some ⟨g, 0, none⟩) n cap)) ∧ Hid (wr.cell? ⟨Bg, 1, none⟩ = some (.int .i64 to'))) (fun kv _ => (intOf kv + 1).toNat)
  case atStart => exact ⟨k, L, rfl, hk1, hk2, H0, HG0, HR0, HN0, HB0, ct0, cg10⟩
  case round =>
    clear hk1 hk2 H0 HG0 HR0 HN0 HB0 ct0 cg10
    obtain ⟨k, L, rfl, hk1, hk2, HO, HG, HR, HN, HB, HCt, HCg⟩ := hrel
    by_cases hneg : k < 0
    · obtain rfl : k = -1 := by omega
      have hr := HR.out
      rw [reach_stop _ _ _ (by omega)] at hr
      have HD := Lib.hid (HQ.out wr ⟨⟨L, hr, HO.out⟩, HB.out⟩)
      clear hr hk2
      go_wp2_with fail
      go_end0
      exact HD.out
    · obtain ⟨i, rfl⟩ : ∃ i : Nat, k = (i : Int) := ⟨k.toNat, by omega⟩
      have hin : i < n := by omega
      obtain ⟨p, hp⟩ : ∃ p, L[i]? = some p := ⟨_, List.getElem?_eq_getElem (by rw [HN.out]; exact hin)⟩
      have hrow := HO.out.row
      have c2 : wr.cell? ⟨g, i * 6 + 2, none⟩ = some (.int .i64 p.nd.t) := by
        have := hrow.cells (g := g) rfl _ _ ((all_get encN L i p hp 2 (by decide)).trans rfl)
        rw [add_addr, Nat.zero_add] at this
        exact this
      have c3 : wr.cell? ⟨g, i * 6 + 3, none⟩ = some (.int .i64 p.nd.u) := by
        have := hrow.cells (g := g) rfl _ _ ((all_get encN L i p hp 3 (by decide)).trans rfl)
        rw [add_addr, Nat.zero_add] at this
        exact this
      obtain ⟨g', cap', hv, -, hfz, -, -⟩ := own_at hrow (by rw [HN.out]; omega)
      have e1 := (Value.slice.inj hv).1
      injection e1 with e1
      injection e1 with e1
      subst e1
      have f2 := hfz (i * 6 + 2)
      have d3 := at_off (o := i * 6 + 2) (v := .int .i64 (max p.nd.t to')) (by omega) c3
      have e3 := at_drew d3
      have hx : (L.map Ln.nd)[i]? = some p.nd := by rw [List.getElem?_map, hp]; rfl
      have hu := HG.out.up i p.nd hx
      have hst := reach_step (L.map Ln.nd) i to' p.nd HG.out (by omega) (by rw [Int.toNat_natCast]; exact hx)
      rw [Int.toNat_natCast] at hst
      have hO2 := HO.out.set i 2 p { p with nd := { p.nd with t := max p.nd.t to' } } (.int .i64 (max p.nd.t to')) hp rfl (by decide) ((HO.out.kids p (List.mem_of_getElem? hp)).nd _ rfl)
      have hmap : (L.set i { p with nd := { p.nd with t := max p.nd.t to' } }).map Ln.nd = (L.map Ln.nd).set i { p.nd with t := max p.nd.t to' } := by rw [List.map_set]
      obtain ⟨L2, hL2⟩ : ∃ L2, L.set i { p with nd := { p.nd with t := max p.nd.t to' } } = L2 := ⟨_, rfl⟩
      rw [hL2] at hO2 hmap
      have HO2 := Lib.hid hO2.drew
      have HG2 := Lib.hid (show Ar.Good (L2.map Ln.nd) by rw [hmap]; exact good_set HG.out i p.nd hx _ (Int.le_max_left _ _))
      have HR2 := Lib.hid (show reachN (L2.map Ln.nd) p.nd.u to' = R by rw [hmap, ← hst]; exact HR.out)
      have HN2 := Lib.hid (show L2.length = n by rw [← hL2, List.length_set]; exact HN.out)
      have HB2 := Lib.hid (gb_drew (gb_set HB.out (.inl rfl) (i * 6 + 2) (.int .i64 (max p.nd.t to'))))
      have ct := HCt.out
      have cg := HCg.out
      have HCt2 := Lib.hid (at_drew (at_far (o := i * 6 + 2) (v := .int .i64 (max p.nd.t to')) ht1 ct))
      have HCg2 := Lib.hid (at_drew (at_far (o := i * 6 + 2) (v := .int .i64 (max p.nd.t to')) ht2 cg))
      have hi2 : (i : Int) < (n : Int) := by omega
      have hup : ¬ ((i : Int) ≤ p.nd.u) := by omega
      clear hrow hv hfz hx hst hO2 hmap hL2 hp
      go_upto_region 4 with fail
      go_region
      obtain ⟨w2, hw2⟩ : ∃ w2, (wr.setCell ⟨g, i * 6 + 2, none⟩ (.int .i64 (max p.nd.t to'))).drew = w2 := ⟨_, rfl⟩
      rw [hw2] at HO2 HB2 HCt2 HCg2 e3
      rw [hw2]
      clear hw2 d3 c2 c3 f2 ct cg
      go_wp2_with fail
      go_roundw
      case rel => exact ⟨p.nd.u, L2, rfl, by omega, by omega, HO2, HG2, HR2, HN2, HB2, HCt2, HCg2⟩
      case measure => simp [intOf]; omega
end Go.Proofs.Ythkieidcjakhgaa

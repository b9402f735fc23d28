/- Several texts in one: Fw4 Fw5 Fc. -/
import Derived.Test.YtmlpaafclobgcaaMgJ
import Derived.Test.YtmlpaafclobgcaaMgF
import Derived.Test.YtmlpaafclobgcaaMgI
import Derived.OneCell
/- Package flow: leaf, fault, and the closure that puts what does not belong. -/
namespace Go.Proofs.Ytmlpaafclobgcaa
open Go.RowKit
open Go.Proofs.Ytmlpaafclobgcaa.Sq
open Go.Proofs.Ytmlpaafclobgcaa.Ar
set_option linter.unusedVariables false

/-- There is room for so much. -/
structure Room (s : Fl.PSt) : Prop where
  q : s.q.length ≤ 900000
  d : s.d.length ≤ 900000
  kb : Fl.KB s.q
theorem Room.kids {s : Fl.PSt} (h : Room s) : ∀ x ∈ s.q, x.ks.length ≤ 1000000 := fun x hx => by
  obtain ⟨i, hi⟩ := List.getElem?_of_mem hx
  have := h.kb i x hi
  have := h.q
  omega
set_option maxHeartbeats 2000000 in
set_option maxRecDepth 100000 in
theorem fLeaf (w0 w : World) (rb : Nat) (tv : Value) (l : List Tk) (s : Fl.PSt) (R : Nat → Prop) (up : Int) (k f t : Nat) (hS : RS w0 w rb tv l s R) (hu1 : -1 ≤ up) (hu2 : up < s.q.length) (hr : Room s) :
    Calls Try.prog 44 #[RP rb, .int .i64 up, .int .i64 k, .int .i64 f, .int .i64 t] w (Goes w0 w rb tv l R (.int .i64 t) ⟨Fl.qLeaf s.q up k f t, s.d⟩) := by
  have HA := Lib.hid (fAdd w0 w rb tv l s R up k f hS hu1 hu2 (by have := hr.q; omega) hr.kids)
  have HR := Lib.hid (fun w1 R1 (h : RS w0 w1 rb tv l ⟨Fl.qPut s.q up k f, s.d⟩ R1) => fReach w0 w1 rb tv l ⟨Fl.qPut s.q up k f, s.d⟩ R1 s.q.length t h (by show _ < (Fl.qPut s.q up k f).length; rw [Fl.qPut_len]; omega) (by show (Fl.qPut s.q up k f).length ≤ _; rw [Fl.qPut_len]; have := hr.q; omega))
  obtain ⟨N, hN⟩ : ∃ N, s.q.length = N := ⟨_, rfl⟩
  have HQ := Lib.hid (fun w2 R1 R2 w1 (h1 : FP w w1 rb R R1) (h2 : RS w0 w2 rb tv l ⟨Fl.qEnd (Fl.qPut s.q up k f) s.q.length t, s.d⟩ R2) (h3 : FP w1 w2 rb R1 R2) => show Goes w0 w rb tv l R (.int .i64 t) ⟨Fl.qLeaf s.q up k f t, s.d⟩ (.returned (.int .i64 t)) w2 from ⟨rfl, R2, h2, h1.trans h3⟩)
  obtain ⟨Q, hQ⟩ : ∃ Q, Goes w0 w rb tv l R (.int .i64 t) ⟨Fl.qLeaf s.q up k f t, s.d⟩ = Q := ⟨_, rfl⟩
  rw [hQ] at HQ ⊢
  rw [hN] at HA HR HQ
  clear hS hu2 hr hN hQ
  go_enter Try.func44, Try.ntmps44
  go_wp2_with fail
  refine HA.out.mono ?_
  rintro e w1 ⟨rfl, R1, hS1, hF1⟩
  have HR1 := Lib.hid (HR.out w1 R1 hS1)
  have HF1 := Lib.hid hF1
  clear hS1 hF1 HR HA
  go_wp2_with fail
  refine HR1.out.mono ?_
  rintro e w2 ⟨rfl, R2, hS2, hF2⟩
  have HD := Lib.hid (HQ.out w2 R1 R2 w1 HF1.out hS2 hF2)
  clear hS2 hF2 HR1 HF1 HQ
  go_wp2_with fail
  exact HD.out
set_option maxHeartbeats 2000000 in
set_option maxRecDepth 100000 in
theorem fFault (w0 w : World) (rb : Nat) (tv : Value) (l : List Tk) (s : Fl.PSt) (R : Nat → Prop) (up : Int) (code f t : Nat) (hS : RS w0 w rb tv l s R) (hu1 : -1 ≤ up) (hu2 : up < s.q.length) (hr : Room s) (hd : s.d.length < 900000) (hf : f < l.length) (ht0 : 0 < t) (ht : t ≤ l.length) :
    Calls Try.prog 46 #[RP rb, .int .i64 up, .int .i64 code, .int .i64 f, .int .i64 t] w (Goes w0 w rb tv l R (.int .i64 t) (Fl.pErr l s up f t code)) := by
  obtain ⟨j, rfl⟩ : ∃ j, t = j + 1 := ⟨t - 1, by omega⟩
  have HA := Lib.hid (fTell w0 w rb tv l s R code f j hS hf (by omega) (by have := hr.d; omega))
  obtain ⟨T, hT⟩ : ∃ T, j + 1 = T := ⟨_, rfl⟩
  have HQ := Lib.hid (fun w2 R1 R2 w1 (h1 : FP w w1 rb R R1) (h2 : RS w0 w2 rb tv l ⟨Fl.qLeaf s.q up 11 f (j + 1), s.d ++ [⟨code, Fl.frm l f, Fl.too l j⟩]⟩ R2) (h3 : FP w1 w2 rb R1 R2) => show Goes w0 w rb tv l R (.int .i64 (j + 1 : Nat)) (Fl.pErr l s up f (j + 1) code) (.returned (.int .i64 (j + 1 : Nat))) w2 from ⟨rfl, R2, by unfold Fl.pErr; rw [Nat.add_sub_cancel]; exact h2, h1.trans h3⟩)
  obtain ⟨Q, hQ⟩ : ∃ Q, Goes w0 w rb tv l R (.int .i64 (j + 1 : Nat)) (Fl.pErr l s up f (j + 1) code) = Q := ⟨_, rfl⟩
  rw [hQ] at HQ ⊢
  have HL := Lib.hid (fun w1 R1 (h : RS w0 w1 rb tv l ⟨s.q, s.d ++ [⟨code, Fl.frm l f, Fl.too l j⟩]⟩ R1) => fLeaf w0 w1 rb tv l ⟨s.q, s.d ++ [⟨code, Fl.frm l f, Fl.too l j⟩]⟩ R1 up 11 f (j + 1) h hu1 hu2 ⟨hr.q, by show (s.d ++ _).length ≤ _; rw [List.length_append]; have := hd; simp; omega, hr.kb⟩)
  rw [hT] at HA HL HQ ⊢
  clear hS hu2 hr hd hQ hf ht0 ht hT
  go_enter Try.func46, Try.ntmps46
  go_wp2_with fail
  refine HA.out.mono ?_
  rintro e w1 ⟨rfl, R1, hS1, hF1⟩
  have HR1 := Lib.hid (HL.out w1 R1 hS1)
  have HF1 := Lib.hid hF1
  clear hS1 hF1 HL HA
  go_wp2_with fail
  refine HR1.out.mono ?_
  rintro e w2 ⟨rfl, R2, hS2, hF2⟩
  have HD := Lib.hid (HQ.out w2 R1 R2 w1 HF1.out hS2 hF2)
  clear hS2 hF2 HR1 HF1 HQ
  go_wp2_with fail
  exact HD.out
/-- A block that holds one value: a variable that a closure captured. -/
def Cap (w : World) (b : Nat) (v : Value) (t : TypeId) : Prop := w.heap[b]? = some (.cells #[v] t (0, 0))
theorem Cap.cell {w : World} {b : Nat} {v : Value} {t : TypeId} (h : Cap w b v t) : w.cell? ⟨b, 0, none⟩ = some v := (Joins.cell_of_block h 0).trans rfl
theorem Cap.free {w : World} {b : Nat} {v : Value} {t : TypeId} (h : Cap w b v t) : w.frozen? ⟨b, 0, none⟩ = false := Joins.unfrozen_of_block h 0
theorem Cap.lt {w : World} {b : Nat} {v : Value} {t : TypeId} (h : Cap w b v t) : b < w.heap.size := lt_of_block h
theorem Cap.fp {w w' : World} {b rb : Nat} {v : Value} {t : TypeId} {R R' : Nat → Prop} (h : Cap w b v t) (hF : FP w w' rb R R') (hr : b ≠ rb) (hn : ¬ R b) : Cap w' b v t ∧ ¬ R' b :=
  ⟨(hF.block b h.lt hr hn).trans h, fun h2 => (hF.rows b h2).elim hn (fun h3 => absurd h.lt (Nat.not_lt.2 h3))⟩
theorem Cap.set {w : World} {b : Nat} {v : Value} {t : TypeId} (h : Cap w b v t) (u : Value) : Cap (w.setCell ⟨b, 0, none⟩ u) b u t := Joins.block_setCell h u
theorem Cap.far {w : World} {b b' o : Nat} {v u : Value} {t : TypeId} (h : Cap w b v t) (hne : b ≠ b') : Cap (w.setCell ⟨b', o, none⟩ u) b v t := (Below.heap_setCell _ _ _ _ hne).trans h
set_option maxHeartbeats 2000000 in
set_option maxRecDepth 100000 in
/-- What does not belong is put into the collection; the place is then behind it. -/
theorem fStray (w0 w : World) (rb : Nat) (tv : Value) (l : List Tk) (s : Fl.PSt) (R : Nat → Prop) (b5 b13 b14 c f t : Nat) (hS : RS w0 w rb tv l s R) (hc : c < s.q.length) (hr : Room s) (hd : s.d.length < 900000) (hf : f < l.length) (ht0 : 0 < t) (ht : t ≤ l.length)
    (h5 : Cap w b5 (RP rb) 71) (h13 : Cap w b13 (.int .i64 c) 3) (h14 : Cap w b14 (.int .i64 f) 3) (n14 : ¬ R b14) (r14 : b14 ≠ rb) :
    Calls Try.prog 62 #[.int .i64 t, .pointer (some ⟨b5, 0, none⟩), .pointer (some ⟨b13, 0, none⟩), .pointer (some ⟨b14, 0, none⟩)] w
      (fun e w' => e = .returned (.tuple #[]) ∧ ∃ w1 R', RS w0 w1 rb tv l (Fl.pErr l s c f t 8) R' ∧ FP w w1 rb R R' ∧ w' = w1.setCell ⟨b14, 0, none⟩ (.int .i64 t)) := by
  have HA := Lib.hid (fFault w0 w rb tv l s R c 8 f t hS (by omega) (by omega) hr hd hf ht0 ht)
  have c5 := h5.cell
  have c13 := h13.cell
  have c14 := h14.cell
  have H14 := Lib.hid h14
  clear hS hc hr hd hf ht0 ht h5 h13 h14
  go_enter Try.func62, Try.ntmps62
  go_wp2_with fail
  refine HA.out.mono ?_
  rintro e w1 ⟨rfl, R1, hS1, hF1⟩
  have hk := (H14.out.fp hF1 r14 n14).1
  have d14 := hk.cell
  have f14 := hk.free
  have HS1 := Lib.hid hS1
  have HF1 := Lib.hid hF1
  clear hS1 hF1 hk HA H14 c5 c13 c14
  go_wp2_with fail
  go_end0
  exact ⟨rfl, w1, R1, HS1.out, HF1.out, rfl⟩
end Go.Proofs.Ytmlpaafclobgcaa

/- Package flow: pair, entry. (Written by tools/gen_fw5.py.) -/
namespace Go.Proofs.Ytmlpaafclobgcaa
open Go.RowKit
open Go.Proofs.Ytmlpaafclobgcaa.Sq
open Go.Proofs.Ytmlpaafclobgcaa.Ar
set_option linter.unusedVariables false

/-- What is read so far, and what is still to come (a pair more each time that it goes in), is not too much. -/
structure Sz (l : List Tk) (s : Fl.PSt) (p d : Nat) : Prop where
  q : s.q.length + 2 * (l.length - p) + d ≤ 400000
  d : s.d.length + (l.length - p) ≤ 400000
  kb : Fl.KB s.q
theorem Sz.room {l : List Tk} {s : Fl.PSt} {p d : Nat} (h : Sz l s p d) : Room s := ⟨by have := h.q; omega, by have := h.d; omega, h.kb⟩
theorem Sz.gr {l : List Tk} {s s' : Fl.PSt} {p next d : Nat} (h : Sz l s p d) (g : Fl.Gr s s' (next - p)) (h1 : p ≤ next) (h2 : next ≤ l.length) : Sz l s' next d :=
  ⟨by have := h.q; have := g.len; omega, by have := h.d; have := g.dl; omega, g.kids h.kb⟩
theorem Sz.on {l : List Tk} {s : Fl.PSt} {p q d d' : Nat} (h : Sz l s p d) (h1 : p ≤ q) (hd : d' ≤ d) : Sz l s q d' := ⟨by have := h.q; omega, by have := h.d; omega, h.kb⟩
/-- What value is to answer, at a depth. -/
def ValH (w0 : World) (rb : Nat) (tv : Value) (l : List Tk) (d : Nat) : Prop :=
  ∀ (w : World) (c : Int) (p : Nat) (s : Fl.PSt) (R : Nat → Prop), RS w0 w rb tv l s R → -1 ≤ c → c < s.q.length → p ≤ l.length → Sz l s p d →
    Calls Try.prog 22 #[RP rb, .int .i64 c, .int .i64 p, .int .i64 d] w (Goes w0 w rb tv l R (.int .i64 (Fl.pvalN l l.length d c p s).1) (Fl.pvalN l l.length d c p s).2)
section
variable {w0 w w' : World} {rb : Nat} {tv : Value} {l : List Tk} {s : Fl.PSt} {R : Nat → Prop}
/-- A node of the reader's: where it lies, its kind, and how it is said to have a key. -/
theorem RS.node (h : RS w0 w rb tv l s R) {i : Nat} {x : Nd} (hx : s.q[i]? = some x) :
    ∃ g cap, w.cell? ⟨rb, 1, none⟩ = some (.slice (some ⟨g, 0, none⟩) s.q.length cap) ∧ (∀ o, w.frozen? ⟨g, o, none⟩ = false) ∧ w.cell? ⟨g, i * 6, none⟩ = some (.int .i64 x.k) ∧ w.cell? ⟨g, i * 6 + 5, none⟩ = some (.bool x.y) ∧
      ∃ R', RS w0 (w.setCell ⟨g, i * 6 + 5, none⟩ (.bool true)) rb tv l ⟨Fl.keyed s.q i, s.d⟩ R' ∧ FP w (w.setCell ⟨g, i * 6 + 5, none⟩ (.bool true)) rb R R' := by
  obtain ⟨nv, dv, L, hM, hL, rfl⟩ := h
  have hi := (List.getElem?_eq_some_iff.1 hx).1
  have hLn : L.length = s.q.length := by rw [← hL, List.length_map]
  obtain ⟨p, hp⟩ : ∃ p, L[i]? = some p := ⟨_, List.getElem?_eq_getElem (by omega)⟩
  have hpx : p.nd = x := by
    have : s.q[i]? = some p.nd := by rw [← hL, List.getElem?_map, hp]; rfl
    rw [hx] at this
    exact (Option.some.inj this).symm
  obtain ⟨g, cap, rfl, hB, hfz, hc1, hc2⟩ := own_at hM.nodes.row (by omega)
  obtain ⟨hS2, hF⟩ := hM.setNode i 5 p { p.nd with y := true } (.bool true) hp rfl rfl (by decide)
  have ce : ∀ k, k < 6 → w.cell? ⟨g, i * 6 + k, none⟩ = (nCells p)[k]? := fun k hk => by
    have h0 := all_get encN L i p hp k hk
    cases hv : (nCells p)[k]? with
    | none => have : (nCells p).length = 6 := rfl; rw [List.getElem?_eq_none_iff] at hv; omega
    | some u =>
      have := hM.nodes.row.cells (g := g) rfl _ _ (h0.trans hv)
      rw [add_addr, Nat.zero_add] at this
      exact this
  refine ⟨g, cap, by rw [← hLn]; exact hM.cells.2.1, hfz, by have := ce 0 (by decide); rw [Nat.add_zero] at this; rw [this, ← hpx]; rfl, by rw [ce 5 (by decide), ← hpx]; rfl, _, ⟨_, _, _, hS2, ?_, rfl⟩, hF⟩
  unfold Fl.keyed
  rw [Int.toNat_natCast, hx, ← hL, List.map_set, ← hpx]
end
theorem keyK_less {l : List Tk} {j q : Nat} (h : j < q) (h6 : Fl.raw l (q - 1) ≠ 13) : keyK l j (q - j) = keyK l j (q - 1 - j) := by
  by_cases hy : ∃ k, k < q - 1 - j ∧ Fl.raw l (j + k) = 13
  · obtain ⟨k, hk, hr⟩ := hy
    rw [keyK_yes (show k < q - j by omega) hr, keyK_yes hk hr]
  · rw [keyK_no (fun k hk hr => ?_), keyK_no (fun k hk hr => hy ⟨k, hk, hr⟩)]
    by_cases e : j + k = q - 1
    · rw [e] at hr; exact h6 hr
    · exact hy ⟨k, by omega, hr⟩
set_option maxHeartbeats 8000000 in
set_option maxRecDepth 100000 in
theorem fPair (w0 w : World) (rb : Nat) (tv : Value) (l : List Tk) (d : Nat) (s : Fl.PSt) (R : Nat → Prop) (hV : ValH w0 rb tv l d) (c j q : Nat) (hS : RS w0 w rb tv l s R) (hc : c < s.q.length) (hz : Sz l s j d) (hjq : j < q) (hqN : q ≤ l.length) (h6 : Fl.raw l (q - 1) = 6) (hcj : Fl.cnt (Fl.raw l j) = true) :
    Calls Try.prog 71 #[RP rb, .int .i64 c, .int .i64 j, .int .i64 (q - 1 : Nat), .int .i64 d] w
      (fun e w' => ∃ to', to' = (if (Fl.pvalN l l.length d s.q.length (Fl.trivia l l.length q) (Fl.ppair l s c j q)).1 = Fl.trivia l l.length q then q else (Fl.pvalN l l.length d s.q.length (Fl.trivia l l.length q) (Fl.ppair l s c j q)).1) ∧
        Goes w0 w rb tv l R (.int .i64 to') ⟨Fl.qEnd (Fl.pvalN l l.length d s.q.length (Fl.trivia l l.length q) (Fl.ppair l s c j q)).2.q s.q.length to', (Fl.pvalN l l.length d s.q.length (Fl.trivia l l.length q) (Fl.ppair l s c j q)).2.d⟩ e w') := by
  obtain ⟨a1, a2, a3, a4, a5⟩ := Fl.gr_pair (l := l) s c j q hc
  have hgp : Fl.Gr s (Fl.ppair l s c j q) (q - j) := ⟨by omega, by split at a2 <;> omega, by rw [a3]; omega, a4, a5⟩
  have ht := Fl.trivia_in (l := l) (e := l.length) (i := q) hqN
  have hz2 := (hz.gr hgp (by omega) hqN).on ht.1 (Nat.le_refl _)
  have hpv := Fl.pv_all (l := l) (e := l.length) d s.q.length (Fl.trivia l l.length q) (Fl.ppair l s c j q) ht.2 (by omega) (by omega)
  have hID := hS.rt.idle q hqN
  have hpp : Fl.ppair l s c j q = if q - j < 2 then ⟨Fl.qPut s.q c 6 j, s.d⟩ else ⟨Fl.qLeaf (Fl.keyed (Fl.qPut s.q c 6 j) s.q.length) s.q.length (keyK l j (q - j)) j (Fl.back l (q - 1) (j + 1)), s.d⟩ := rfl
  obtain ⟨pp, hppd⟩ : ∃ pp, Fl.ppair l s c j q = pp := ⟨_, rfl⟩
  rw [hppd] at a1 hz2 hpv hpp ⊢
  obtain ⟨xx, hxx⟩ : ∃ xx, Fl.trivia l l.length q = xx := ⟨_, rfl⟩
  rw [hxx] at ht hz2 hpv hID ⊢
  obtain ⟨r, hr⟩ : ∃ r, Fl.pvalN l l.length d s.q.length xx pp = r := ⟨_, rfl⟩
  rw [hr] at hpv ⊢
  have hrb : r.2.q.length ≤ 400000 ∧ s.q.length < r.2.q.length ∧ r.1 ≤ 100000 := by
    have := hz2.q
    have := hS.rt.size
    rcases hpv with ⟨e1, _⟩ | ⟨nx, s', e1, g1, g2, g3, g4, g5, _⟩
    · rw [e1]; dsimp only; omega
    · rw [e1]; dsimp only; have := g4.le; omega
  have HVal := Lib.hid (fun w1 R1 (h : RS w0 w1 rb tv l pp R1) => by have := hV w1 s.q.length xx pp R1 h (by omega) (by omega) ht.2 hz2; rw [hr] at this; exact this)
  have HRch := Lib.hid (fun w1 R1 (to' : Nat) (h : RS w0 w1 rb tv l r.2 R1) => fReach w0 w1 rb tv l r.2 R1 s.q.length to' h hrb.2.1 (by omega))
  have HAdd := Lib.hid (fAdd w0 w rb tv l s R c 6 j hS (by omega) (by omega) (by have := hz.q; omega) hz.room.kids)
  have HIdl := Lib.hid (fun w1 (h : RT w1 rb tv l) => by have := h.idle q hqN; rw [hxx] at this; exact this)
  have hsz := hS.rt.size
  have hxs : (q : Int) ≤ 100000 := by omega
  have hq0 : 0 < q := by omega
  have hroom2 : Room ⟨Fl.keyed (Fl.qPut s.q c 6 j) s.q.length, s.d⟩ := ⟨by show (Fl.keyed _ _).length ≤ _; rw [Fl.keyed_len, Fl.qPut_len]; have := hz.q; omega, by have := hz.d; show s.d.length ≤ _; omega, Fl.kb_key (Fl.kb_put hz.kb c 6 j (by omega)) s.q.length⟩
  have HLf := Lib.hid (fun w1 R1 (h : RS w0 w1 rb tv l ⟨Fl.keyed (Fl.qPut s.q c 6 j) s.q.length, s.d⟩ R1) => fLeaf w0 w1 rb tv l ⟨Fl.keyed (Fl.qPut s.q c 6 j) s.q.length, s.d⟩ R1 s.q.length (keyK l j (q - j)) j (Fl.back l (q - 1) (j + 1)) h (by omega) (by show (s.q.length : Int) < ((Fl.keyed _ _).length : Int); rw [Fl.keyed_len, Fl.qPut_len]; omega) hroom2)
  have HNode := Lib.hid (fun w1 R1 (h : RS w0 w1 rb tv l ⟨Fl.qPut s.q c 6 j, s.d⟩ R1) => h.node (i := s.q.length) (Fl.qPut_new s.q c 6 j (by omega)))
  have HKK := Lib.hid (fun w1 (h : RT w1 rb tv l) => by have := fKeyKind rb tv l j (q - 1) w1 h (by omega) (by omega); rw [← keyK_less hjq (by rw [h6]; decide)] at this; exact this)
  have HCt := Lib.hid (fun w1 (h : RT w1 rb tv l) (h2 : j < q - 1) => h.counted (q - 1) (j + 1) (by omega) (by omega) (by omega) ⟨j + 1, by omega, by omega, by rw [Nat.add_sub_cancel]; exact hcj⟩)
  have hpl : (Fl.qPut s.q c 6 j).length = s.q.length + 1 := Fl.qPut_len _ _ _ _
  rw [show (⟨Fl.qPut s.q c 6 j, s.d⟩ : Fl.PSt).q = Fl.qPut s.q c 6 j from rfl, hpl] at HNode
  obtain ⟨n, hn⟩ : ∃ n, s.q.length = n := ⟨_, rfl⟩
  have hns : n ≤ 400000 := by have := hz.q; omega
  rw [hn] at HVal HRch HAdd HLf HNode hpp hrb ⊢
  obtain ⟨qr, rfl⟩ : ∃ qr, q = qr + 1 := ⟨q - 1, by omega⟩
  rw [Nat.add_sub_cancel] at HKK HCt HLf hpp ⊢
  have HQ := Lib.hid (fun (to' : Nat) w1 w2 R1 R2 (h0 : to' = if r.1 = xx then qr + 1 else r.1) (h1 : FP w w1 rb R R1) (h2 : RS w0 w2 rb tv l ⟨Fl.qEnd r.2.q n to', r.2.d⟩ R2) (h3 : FP w1 w2 rb R1 R2) => show (fun e w' => ∃ to', to' = (if r.1 = xx then qr + 1 else r.1) ∧ Goes w0 w rb tv l R (.int .i64 to') ⟨Fl.qEnd r.2.q n to', r.2.d⟩ e w') (.returned (.int .i64 to')) w2 from ⟨to', h0, rfl, R2, h2, h1.trans h3⟩)
  obtain ⟨Q, hQ⟩ : ∃ Q, (fun e w' => ∃ to', to' = (if r.1 = xx then qr + 1 else r.1) ∧ Goes w0 w rb tv l R (.int .i64 to') ⟨Fl.qEnd r.2.q n to', r.2.d⟩ e w') = Q := ⟨_, rfl⟩
  rw [hQ] at HQ ⊢
  have HPp := Lib.hid hpp
  have hr1 := hrb.2.2
  obtain ⟨r1, hr1d⟩ : ∃ r1, r.1 = r1 := ⟨_, rfl⟩
  rw [hr1d] at HVal HQ hr1
  have hxxs : xx ≤ 100000 := by omega
  have gqw : (qr : Int) + 1 ≤ 100000 := by omega
  clear hV hS hc hz hqN h6 hcj a1 a2 a3 a4 a5 hgp ht hz2 hpv hID hppd hxx hr hroom2 hQ hn hpp hrb hpl hr1d hq0 hsz hxs
  go_enter Try.func71, Try.ntmps71
  go_wp2_with fail
  refine HAdd.out.mono ?_
  rintro e w1 ⟨rfl, R1, hS1, hF1⟩
  have HF1 := Lib.hid hF1
  have HS1 := Lib.hid hS1
  clear hF1 hS1 HAdd
  by_cases g2 : qr + 1 - j < 2
  · have hpe := HPp.out
    rw [if_pos g2] at hpe
    obtain rfl : qr = j := by omega
    have HSa := Lib.hid (show RS w0 w1 rb tv l pp R1 by rw [hpe]; exact HS1.out)
    have HFa := HF1
    clear HPp hpe HS1 HF1 HLf HNode HKK HCt g2 hjq
    go_wp2_with fail
    refine (HIdl.out w1 HSa.out.rt).mono ?_
    rintro e wi ⟨rfl, rfl⟩
    have HVal2 := Lib.hid (HVal.out w1 R1 HSa.out)
    clear HVal HIdl HSa
    go_wp2_with fail
    refine HVal2.out.mono ?_
    rintro e wv ⟨rfl, Rv, hSv, hFv⟩
    have HFv := Lib.hid (HFa.out.trans hFv)
    have HSv := Lib.hid hSv
    clear hSv hFv HVal2 HFa
    by_cases gx : r1 = xx
    · subst gx
      have HR2 := Lib.hid (HRch.out wv Rv (qr + 1) HSv.out)
      rw [show ((qr + 1 : Nat) : Int) = (qr : Int) + 1 from by omega] at HR2
      have HQ2 := Lib.hid (fun w2 R2 h2 h3 => HQ.out (qr + 1) wv w2 Rv R2 (by rw [if_pos rfl]) HFv.out h2 h3)
      rw [show ((qr + 1 : Nat) : Int) = (qr : Int) + 1 from by omega] at HQ2
      clear HRch HQ HSv HFv
      go_wp2_with fail
      refine HR2.out.mono ?_
      rintro e w2 ⟨rfl, R2', hS2', hF2'⟩
      have HD := Lib.hid (HQ2.out w2 R2' hS2' hF2')
      clear hS2' hF2' HR2 HQ2
      go_wp2_with fail
      exact HD.out
    · have gx2 : ((r1 : Int) == (xx : Int)) = false := by simp; omega
      have HR2 := Lib.hid (HRch.out wv Rv r1 HSv.out)
      have HQ2 := Lib.hid (fun w2 R2 h2 h3 => HQ.out r1 wv w2 Rv R2 (by rw [if_neg gx]) HFv.out h2 h3)
      clear HRch HQ HSv HFv
      go_wp2_with fail
      refine HR2.out.mono ?_
      rintro e w2 ⟨rfl, R2', hS2', hF2'⟩
      have HD := Lib.hid (HQ2.out w2 R2' hS2' hF2')
      clear hS2' hF2' HR2 HQ2
      go_wp2_with fail
      exact HD.out
  · have gjq : (j : Int) < (qr : Int) := by omega
    have gjq2 : j < qr := by omega
    have hpe := HPp.out
    rw [if_neg g2] at hpe
    obtain ⟨g, cap, c1, hfz, -, c5, R2, hS2, hF2⟩ := HNode.out w1 R1 HS1.out
    have f5 := hfz (n * 6 + 5)
    have hnn : (n : Int) < (n : Int) + 1 := by omega
    have HS2 := Lib.hid hS2
    have HF2 := Lib.hid (HF1.out.trans hF2)
    obtain ⟨w2, hw2⟩ : ∃ w2, w1.setCell ⟨g, n * 6 + 5, none⟩ (.bool true) = w2 := ⟨_, rfl⟩
    rw [hw2] at HS2 HF2
    have HKK2 := Lib.hid (HKK.out w2 HS2.out.rt)
    have HW2 := Lib.hid hw2
    clear HNode HS1 HF1 hfz hS2 hF2 hw2 HPp HKK
    go_upto_region 4 with fail
    rw [HW2.out]
    clear HW2 c1 c5 f5
    go_wp2_with fail
    refine HKK2.out.mono ?_
    rintro e w3 ⟨rfl, hb3⟩
    have hS3 := HS2.out.below hb3
    have HCt2 := Lib.hid (HCt.out w3 hS3.rt gjq2)
    have HF3 := Lib.hid (HF2.out.trans (FP.below hb3))
    have HLf2 := Lib.hid (HLf.out w3 R2 hS3)
    clear hb3 hS3 HS2 HF2 HCt HLf HKK2
    go_wp2_with fail
    refine HCt2.out.mono ?_
    rintro e w3' ⟨rfl, rfl⟩
    go_wp2_with fail
    refine HLf2.out.mono ?_
    rintro e w4 ⟨rfl, R4, hS4, hF4⟩
    have HSa := Lib.hid (show RS w0 w4 rb tv l pp R4 by rw [hpe]; exact hS4)
    have HFa := Lib.hid (HF3.out.trans hF4)
    clear hS4 hF4 HCt2 HLf2 HF3 hpe
    go_wp2_with fail
    refine (HIdl.out w4 HSa.out.rt).mono ?_
    rintro e wi ⟨rfl, rfl⟩
    have HVal2 := Lib.hid (HVal.out w4 R4 HSa.out)
    clear HVal HIdl HSa
    go_wp2_with fail
    refine HVal2.out.mono ?_
    rintro e wv ⟨rfl, Rv, hSv, hFv⟩
    have HFv := Lib.hid (HFa.out.trans hFv)
    have HSv := Lib.hid hSv
    clear hSv hFv HVal2 HFa
    by_cases gx : r1 = xx
    · subst gx
      have HR2 := Lib.hid (HRch.out wv Rv (qr + 1) HSv.out)
      rw [show ((qr + 1 : Nat) : Int) = (qr : Int) + 1 from by omega] at HR2
      have HQ2 := Lib.hid (fun w2 R2 h2 h3 => HQ.out (qr + 1) wv w2 Rv R2 (by rw [if_pos rfl]) HFv.out h2 h3)
      rw [show ((qr + 1 : Nat) : Int) = (qr : Int) + 1 from by omega] at HQ2
      clear HRch HQ HSv HFv
      go_wp2_with fail
      refine HR2.out.mono ?_
      rintro e w2 ⟨rfl, R2', hS2', hF2'⟩
      have HD := Lib.hid (HQ2.out w2 R2' hS2' hF2')
      clear hS2' hF2' HR2 HQ2
      go_wp2_with fail
      exact HD.out
    · have gx2 : ((r1 : Int) == (xx : Int)) = false := by simp; omega
      have HR2 := Lib.hid (HRch.out wv Rv r1 HSv.out)
      have HQ2 := Lib.hid (fun w2 R2 h2 h3 => HQ.out r1 wv w2 Rv R2 (by rw [if_neg gx]) HFv.out h2 h3)
      clear HRch HQ HSv HFv
      go_wp2_with fail
      refine HR2.out.mono ?_
      rintro e w2 ⟨rfl, R2', hS2', hF2'⟩
      have HD := Lib.hid (HQ2.out w2 R2' hS2' hF2')
      clear hS2' hF2' HR2 HQ2
      go_wp2_with fail
      exact HD.out
set_option maxHeartbeats 8000000 in
set_option maxRecDepth 100000 in
theorem fEntry (w0 w : World) (rb : Nat) (tv : Value) (l : List Tk) (d : Nat) (s : Fl.PSt) (R : Nat → Prop) (hV : ValH w0 rb tv l d) (hT : TokOk l) (c j : Nat) (x : Nd) (hS : RS w0 w rb tv l s R) (hx : s.q[c]? = some x) (hz : Sz l s j (d + 1)) (hk : Fl.kd l l.length j ≠ 0) (hcj : Fl.cnt (Fl.raw l j) = true) :
    Calls Try.prog 66 #[RP rb, .int .i64 c, .int .i64 j, .int .i64 d] w
      (fun e w' => ∃ (nx : Nat) (s' : Fl.PSt), (nx, s') = (if 0 < Fl.key l l.length j ∨ Fl.begins (Fl.kd l l.length j) = true then Fl.pitem l l.length (Fl.pvalN l l.length d) (x.k == 10) c j s else (j, s)) ∧ Goes w0 w rb tv l R (.int .i64 nx) s' e w') := by
  have hj := (Fl.kd_lt hk).1
  have hc := (List.getElem?_eq_some_iff.1 hx).1
  have hkx := kx_kd (show j ≤ l.length by omega) hk
  have hsz := hS.rt.size
  have HCol := Lib.hid (fColon rb tv l j w hS.rt hT (by omega))
  have hns : s.q.length ≤ 400000 := by have := hz.q; omega
  have hjs : j ≤ 100000 := by omega
  by_cases hq : 0 < Fl.key l l.length j
  · obtain ⟨q1, q2, q3⟩ := Fl.key_in (show j ≤ l.length by omega) hq
    have HP := Lib.hid (fPair w0 w rb tv l d s R hV c j (Fl.key l l.length j) hS hc (hz.on (Nat.le_refl _) (Nat.le_succ d)) q1 q2 q3 hcj)
    have hres : (if 0 < Fl.key l l.length j ∨ Fl.begins (Fl.kd l l.length j) = true then Fl.pitem l l.length (Fl.pvalN l l.length d) (x.k == 10) c j s else (j, s)) = Fl.pitem l l.length (Fl.pvalN l l.length d) (x.k == 10) c j s := if_pos (.inl hq)
    rw [hres]
    unfold Fl.pitem
    dsimp only
    rw [if_pos hq]
    unfold Fl.colonV at HCol
    obtain ⟨q, hqd⟩ : ∃ q, Fl.key l l.length j = q := ⟨_, rfl⟩
    rw [hqd] at HP HCol q1 q2 ⊢
    obtain ⟨r, hr⟩ : ∃ r, Fl.pvalN l l.length d s.q.length (Fl.trivia l l.length q) (Fl.ppair l s c j q) = r := ⟨_, rfl⟩
    rw [hr] at HP ⊢
    obtain ⟨T, hTd⟩ : ∃ T, (if r.1 = Fl.trivia l l.length q then q else r.1) = T := ⟨_, rfl⟩
    rw [hTd] at HP ⊢
    obtain ⟨qr, rfl⟩ : ∃ qr, q = qr + 1 := ⟨q - 1, by omega⟩
    rw [Nat.add_sub_cancel] at HP
    rw [show ((qr + 1 : Nat) : Int) - 1 = (qr : Int) by omega] at HCol
    have gne : ((qr : Int) != -1) = true := by simp
    have gne2 : ((qr : Int) == -1) = false := by simp
    obtain ⟨N, hN⟩ : ∃ N, s.q.length = N := ⟨_, rfl⟩
    rw [hN] at HP ⊢
    obtain ⟨s', hs'⟩ : ∃ s', (⟨Fl.qEnd r.2.q N T, r.2.d⟩ : Fl.PSt) = s' := ⟨_, rfl⟩
    have HP2 := Lib.hid (show Calls Try.prog 71 #[RP rb, .int .i64 c, .int .i64 j, .int .i64 qr, .int .i64 d] w (Goes w0 w rb tv l R (.int .i64 T) s') from HP.out.mono (fun e w' ⟨t, h1, h2⟩ => by subst h1; rw [← hs']; exact h2))
    rw [hs']
    clear hV hT hS hx hz hk hcj hj hc hkx q1 q2 q3 HP hres hqd hr hTd hN hs' hq hns
    go_enter Try.func66, Try.ntmps66
    go_wp2_with fail
    refine HCol.out.mono ?_
    rintro e w1 ⟨rfl, rfl⟩
    go_wp2_with fail
    refine HP2.out.mono ?_
    rintro e w2 ⟨rfl, R2, hS2, hF2⟩
    have HD := Lib.hid (show Goes w0 w rb tv l R (.int .i64 T) s' (.returned (.int .i64 T)) w2 from ⟨rfl, R2, hS2, hF2⟩)
    clear hS2 hF2 HP2 HCol
    go_wp2_with fail
    go_ret
    exact ⟨T, s', rfl, HD.out⟩
  · have hcv : Fl.colonV l j = -1 := by unfold Fl.colonV; omega
    rw [hcv] at HCol
    obtain ⟨g, cap, c1, hfz, c0, -, -⟩ := hS.node hx
    have HK := Lib.hid (by have := hS.rt.kind j (by omega); rw [hkx] at this; exact this)
    have hpv := Fl.pv_all (l := l) (e := l.length) d c j s (by omega) (by omega) (by omega)
    have HVd := Lib.hid (hV w c j s R hS (by omega) (by omega) (by omega) (hz.on (Nat.le_refl _) (Nat.le_succ d)))
    by_cases hb : x.k = 10 ∧ Fl.begins (Fl.kd l l.length j) = true
    · -- a pair of its own
      obtain ⟨hb1, hb2⟩ := hb
      have hres : (if 0 < Fl.key l l.length j ∨ Fl.begins (Fl.kd l l.length j) = true then Fl.pitem l l.length (Fl.pvalN l l.length d) (x.k == 10) c j s else (j, s)) = Fl.pitem l l.length (Fl.pvalN l l.length d) (x.k == 10) c j s := if_pos (.inr hb2)
      rw [hres]
      unfold Fl.pitem
      dsimp only
      rw [if_neg hq, if_pos (by rw [hb1]; rfl)]
      have hgh := Fl.gh_put s c 6 j (by omega)
      have hpl : (Fl.qPut s.q c 6 j).length = s.q.length + 1 := Fl.qPut_len _ _ _ _
      have hz1 : Sz l ⟨Fl.keyed (Fl.qPut s.q c 6 j) s.q.length, s.d⟩ j d := ⟨by show (Fl.keyed _ _).length + _ + _ ≤ _; rw [Fl.keyed_len, hpl]; have := hz.q; omega, hz.d, Fl.kb_key (hgh.kids hz.kb) _⟩
      have hpv2 := Fl.pv_all (l := l) (e := l.length) d s.q.length j ⟨Fl.keyed (Fl.qPut s.q c 6 j) s.q.length, s.d⟩ (by omega) (by omega) (by show (s.q.length : Int) < ((Fl.keyed _ _).length : Int); rw [Fl.keyed_len, hpl]; omega)
      obtain ⟨r, hr⟩ : ∃ r, Fl.pvalN l l.length d s.q.length j ⟨Fl.keyed (Fl.qPut s.q c 6 j) s.q.length, s.d⟩ = r := ⟨_, rfl⟩
      rw [hr] at hpv2 ⊢
      have hrb : r.2.q.length ≤ 400000 ∧ s.q.length < r.2.q.length ∧ r.1 ≤ 100000 := by
        have h1 := hz1.q
        have h2 : (⟨Fl.keyed (Fl.qPut s.q c 6 j) s.q.length, s.d⟩ : Fl.PSt).q.length = s.q.length + 1 := by show (Fl.keyed _ _).length = _; rw [Fl.keyed_len, hpl]
        rw [h2] at h1
        rcases hpv2 with ⟨e1, _⟩ | ⟨nx, s', e1, g1, g2, g3, g4, g5, _⟩
        · rw [e1]; refine ⟨?_, ?_, ?_⟩
          · rw [h2]; omega
          · rw [h2]; omega
          · show j ≤ _; omega
        · rw [h2] at g5
          have := g4.le
          rw [h2] at this
          rw [e1]; exact ⟨by show s'.q.length ≤ _; omega, by show _ < s'.q.length; omega, by show nx ≤ _; omega⟩
      have HAdd := Lib.hid (fAdd w0 w rb tv l s R c 6 j hS (by omega) (by omega) (by omega) hz.room.kids)
      have HNode := Lib.hid (fun w1 R1 (h : RS w0 w1 rb tv l ⟨Fl.qPut s.q c 6 j, s.d⟩ R1) => h.node (i := s.q.length) (Fl.qPut_new s.q c 6 j (by omega)))
      have HVal := Lib.hid (fun w1 R1 (h : RS w0 w1 rb tv l ⟨Fl.keyed (Fl.qPut s.q c 6 j) s.q.length, s.d⟩ R1) => by have := hV w1 s.q.length j _ R1 h (by omega) (by show (s.q.length : Int) < ((Fl.keyed _ _).length : Int); rw [Fl.keyed_len, hpl]; omega) (by omega) hz1; rw [hr] at this; exact this)
      have HRch := Lib.hid (fun w1 R1 (to' : Nat) (h : RS w0 w1 rb tv l r.2 R1) => fReach w0 w1 rb tv l r.2 R1 s.q.length to' h hrb.2.1 (by omega))
      rw [show (⟨Fl.qPut s.q c 6 j, s.d⟩ : Fl.PSt).q = Fl.qPut s.q c 6 j from rfl, hpl] at HNode
      have HBg := Lib.hid (by have := fBegins (Fl.kd l l.length j) w; rw [hb2] at this; exact this)
      have hcN : (c : Int) < (s.q.length : Int) := by omega
      obtain ⟨n, hn⟩ : ∃ n, s.q.length = n := ⟨_, rfl⟩
      rw [hn] at HVal HRch HAdd HNode c1 hns hcN ⊢
      obtain ⟨r1, hr1⟩ : ∃ r1, r.1 = r1 := ⟨_, rfl⟩
      have hr1s := hrb.2.2
      rw [hr1] at HVal hr1s ⊢
      obtain ⟨s', hs'⟩ : ∃ s', (⟨Fl.qEnd r.2.q n r1, r.2.d⟩ : Fl.PSt) = s' := ⟨_, rfl⟩
      have HRch2 := Lib.hid (fun w1 R1 (h : RS w0 w1 rb tv l r.2 R1) => by have := HRch.out w1 R1 r1 h; rw [hs'] at this; exact this)
      rw [hs']
      obtain ⟨K, hK⟩ : ∃ K, Fl.kd l l.length j = K := ⟨_, rfl⟩
      rw [hK] at HK HBg
      rw [hb1] at c0
      clear hV hT hS hx hz hk hcj hj hc hkx hb1 hb2 hres hgh hpl hz1 hpv2 hr hrb hpv HVd HRch hn hr1 hs' hK hq hcv hfz
      go_enter Try.func66, Try.ntmps66
      go_wp2_with fail
      refine HCol.out.mono ?_
      rintro e w1 ⟨rfl, rfl⟩
      go_wp2_with fail
      refine HK.out.mono ?_
      rintro e w1 ⟨rfl, rfl⟩
      go_wp2_with fail
      refine HBg.out.mono ?_
      rintro e w1 ⟨rfl, rfl⟩
      clear HCol HK HBg c0 c1
      go_wp2_with fail
      refine HAdd.out.mono ?_
      rintro e w1 ⟨rfl, R1, hS1, hF1⟩
      obtain ⟨g9, cap9, c1, hfz, -, c5, R2, hS2, hF2⟩ := HNode.out w1 R1 hS1
      have f5 := hfz (n * 6 + 5)
      have hnn : (n : Int) < (n : Int) + 1 := by omega
      have HF2 := Lib.hid (hF1.trans hF2)
      have HVal2 := Lib.hid (HVal.out _ R2 hS2)
      obtain ⟨w2, hw2⟩ : ∃ w2, w1.setCell ⟨g9, n * 6 + 5, none⟩ (.bool true) = w2 := ⟨_, rfl⟩
      rw [hw2] at HVal2 HF2
      have HW2 := Lib.hid hw2
      clear HNode hS1 hF1 hfz hS2 hF2 hw2 HVal HAdd
      go_upto_region 7 with fail
      rw [HW2.out]
      clear HW2 c1 c5 f5
      go_wp2_with fail
      refine HVal2.out.mono ?_
      rintro e w3 ⟨rfl, R3, hS3, hF3⟩
      have HR3 := Lib.hid (HRch2.out w3 R3 hS3)
      have HF3 := Lib.hid (HF2.out.trans hF3)
      clear hS3 hF3 HVal2 HF2 HRch2
      go_wp2_with fail
      refine HR3.out.mono ?_
      rintro e w4 ⟨rfl, R4, hS4, hF4⟩
      have HD := Lib.hid (show Goes w0 w rb tv l R (.int .i64 r1) s' (.returned (.int .i64 r1)) w4 from ⟨rfl, R4, hS4, HF3.out.trans hF4⟩)
      clear hS4 hF4 HR3 HF3
      go_wp2_with fail
      go_ret
      exact ⟨r1, s', rfl, HD.out⟩
    · have hres : (if 0 < Fl.key l l.length j ∨ Fl.begins (Fl.kd l l.length j) = true then Fl.pitem l l.length (Fl.pvalN l l.length d) (x.k == 10) c j s else (j, s)) = Fl.pvalN l l.length d c j s := by
        by_cases hb2 : Fl.begins (Fl.kd l l.length j) = true
        · have hxk : (x.k == 10) = false := by simpa using fun h => hb ⟨h, hb2⟩
          rw [if_pos (.inr hb2), hxk]
          unfold Fl.pitem
          dsimp only
          rw [if_neg hq, if_neg (by decide)]
        · rw [if_neg (fun h => h.elim hq hb2)]
          rcases hpv with ⟨e1, _⟩ | ⟨nx, s', _, _, _, _, _, _, g6⟩
          · exact e1.symm
          · exfalso
            rcases g6 with g6 | g6
            · exact hb2 g6
            · rw [g6] at hcj; exact absurd hcj (by decide)
      rw [hres]
      have hcN : (c : Int) < (s.q.length : Int) := by omega
      obtain ⟨r, hr⟩ : ∃ r, Fl.pvalN l l.length d c j s = r := ⟨_, rfl⟩
      rw [hr] at HVd ⊢
      obtain ⟨r1, r2⟩ := r
      dsimp only at HVd
      obtain ⟨n, hn⟩ : ∃ n, s.q.length = n := ⟨_, rfl⟩
      rw [hn] at c1 hns hcN
      by_cases hxk : x.k = 10
      · have hb2 : Fl.begins (Fl.kd l l.length j) = false := by
          cases h : Fl.begins (Fl.kd l l.length j) with
          | true => exact absurd ⟨hxk, h⟩ hb
          | false => rfl
        have HBg := Lib.hid (by have := fBegins (Fl.kd l l.length j) w; rw [hb2] at this; exact this)
        obtain ⟨K, hK⟩ : ∃ K, Fl.kd l l.length j = K := ⟨_, rfl⟩
        rw [hK] at HK HBg
        rw [hxk] at c0
        clear hV hT hS hx hz hk hcj hj hc hkx hb hb2 hres hpv hr hn hK hq hcv hfz hxk
        go_enter Try.func66, Try.ntmps66
        go_wp2_with fail
        refine HCol.out.mono ?_
        rintro e w1 ⟨rfl, rfl⟩
        go_wp2_with fail
        refine HK.out.mono ?_
        rintro e w1 ⟨rfl, rfl⟩
        go_wp2_with fail
        refine HBg.out.mono ?_
        rintro e w1 ⟨rfl, rfl⟩
        clear HCol HK HBg c0 c1
        go_wp2_with fail
        refine HVd.out.mono ?_
        rintro e w4 ⟨rfl, R4, hS4, hF4⟩
        have HD := Lib.hid (show Goes w0 w rb tv l R (.int .i64 r1) r2 (.returned (.int .i64 r1)) w4 from ⟨rfl, R4, hS4, hF4⟩)
        clear hS4 hF4 HVd
        go_wp2_with fail
        go_ret
        exact ⟨r1, r2, rfl, HD.out⟩
      · have gk : (x.k == 10) = false := by simpa using hxk
        obtain ⟨xk, hxd⟩ : ∃ xk, x.k = xk := ⟨_, rfl⟩
        rw [hxd] at c0 gk
        clear hV hT hS hx hz hk hcj hj hc hkx hb hres hpv hr hn hq hcv hfz hxk HK hxd
        go_enter Try.func66, Try.ntmps66
        go_wp2_with fail
        refine HCol.out.mono ?_
        rintro e w1 ⟨rfl, rfl⟩
        clear HCol
        go_wp2_with fail
        refine HVd.out.mono ?_
        rintro e w4 ⟨rfl, R4, hS4, hF4⟩
        have HD := Lib.hid (show Goes w0 w rb tv l R (.int .i64 r1) r2 (.returned (.int .i64 r1)) w4 from ⟨rfl, R4, hS4, hF4⟩)
        clear hS4 hF4 HVd
        go_wp2_with fail
        go_ret
        exact ⟨r1, r2, rfl, HD.out⟩
end Go.Proofs.Ytmlpaafclobgcaa

/- Package flow: a collection's loop: what is so each time round (no function of the program's). -/
namespace Go.Proofs.Ytmlpaafclobgcaa
open Go.RowKit
open Go.Proofs.Ytmlpaafclobgcaa.Sq
open Go.Proofs.Ytmlpaafclobgcaa.Ar
set_option linter.unusedVariables false

theorem back_over {l : List Tk} {p m : Nat} (hm : m ≤ p) (h0 : 0 < p) (hc : Fl.cnt (Fl.raw l (p - 1)) = true) : ∀ j, p ≤ j → (∀ k, p ≤ k → k < j → Fl.cnt (Fl.raw l k) = false) → Fl.back l j m = p
  | 0 => fun h _ => by omega
  | j + 1 => fun h hk => by
    by_cases e : p = j + 1
    · subst e; exact Fl.back_self l _ m h0 hc
    · rw [Fl.back, if_pos ⟨by omega, hk j (by omega) (by omega)⟩]
      exact back_over hm h0 hc j (by omega) (fun k h1 h2 => hk k h1 (by omega))
/-- The variables that the closure captured: where they lie. -/
structure Vars (wr : World) (rb b5 b13 b14 c p : Nat) (R : Nat → Prop) : Prop where
  c5 : Cap wr b5 (RP rb) 71
  c13 : Cap wr b13 (.int .i64 c) 3
  c14 : Cap wr b14 (.int .i64 p) 3
  n5 : ¬ R b5
  n13 : ¬ R b13
  n14 : ¬ R b14
  r5 : b5 ≠ rb
  r13 : b13 ≠ rb
  r14 : b14 ≠ rb
  e5 : b5 ≠ b14
  e13 : b13 ≠ b14
theorem Vars.fp {wr w' : World} {rb b5 b13 b14 c p : Nat} {R R' : Nat → Prop} (h : Vars wr rb b5 b13 b14 c p R) (hF : FP wr w' rb R R') : Vars w' rb b5 b13 b14 c p R' := by
  obtain ⟨a1, a2⟩ := h.c5.fp hF h.r5 h.n5
  obtain ⟨a3, a4⟩ := h.c13.fp hF h.r13 h.n13
  obtain ⟨a5, a6⟩ := h.c14.fp hF h.r14 h.n14
  exact ⟨a1, a3, a5, a2, a4, a6, h.r5, h.r13, h.r14, h.e5, h.e13⟩
theorem Vars.set {wr : World} {rb b5 b13 b14 c p : Nat} {R : Nat → Prop} (h : Vars wr rb b5 b13 b14 c p R) (q : Nat) : Vars (wr.setCell ⟨b14, 0, none⟩ (.int .i64 q)) rb b5 b13 b14 c q R :=
  ⟨h.c5.far h.e5, h.c13.far h.e13, h.c14.set _, h.n5, h.n13, h.n14, h.r5, h.r13, h.r14, h.e5, h.e13⟩
theorem FP.setNew {w wr : World} {rb b o : Nat} {R R' : Nat → Prop} {u : Value} (h : FP w wr rb R R') (hb : w.heap.size ≤ b) : FP w (wr.setCell ⟨b, o, none⟩ u) rb R R' :=
  ⟨by simpa using h.size, fun k hk hr hn => (Below.heap_setCell _ _ _ _ (fun e => by have e : k = b := e; omega)).trans (h.block k hk hr hn), h.rows⟩
/-- Each time round: at place p, f: a value stands there already. -/
structure Col (w0 w wr : World) (rb : Nat) (tv : Value) (l : List Tk) (R0 : Nat → Prop) (b5 b13 b14 c op d : Nat) (RES : Nat × Fl.PSt) (p : Nat) (f : Bool) (s : Fl.PSt) (R : Nat → Prop) : Prop where
  rs : RS w0 wr rb tv l s R
  fp : FP w wr rb R0 R
  vars : Vars wr rb b5 b13 b14 c p R
  low : w0.heap.size ≤ b14
  new : w.heap.size ≤ b14
  res : ∃ g, l.length - p < g ∧ Fl.pcolF l l.length (Fl.pvalN l l.length d) c op g p f s = RES
  sq : s.q.length + 2 * (l.length - p) + (d + 1) ≤ 400000
  sd : s.d.length + (l.length - p) + 1 ≤ 400000
  kb : Fl.KB s.q
  nd : ∃ x, s.q[c]? = some x ∧ (x.k == 10) = (Fl.raw l op == 9)
  opp : op < p
  pl : p ≤ l.length
  cn : Fl.cnt (Fl.raw l (p - 1)) = true
section
variable {w0 w wr w' : World} {rb : Nat} {tv : Value} {l : List Tk} {R0 R R' : Nat → Prop} {b5 b13 b14 c op d p : Nat} {RES : Nat × Fl.PSt} {f : Bool} {s : Fl.PSt}
theorem Col.sz (h : Col w0 w wr rb tv l R0 b5 b13 b14 c op d RES p f s R) : Sz l s p (d + 1) := ⟨h.sq, by have := h.sd; omega, h.kb⟩
/-- The next time round: so much further on. -/
theorem Col.next (h : Col w0 w wr rb tv l R0 b5 b13 b14 c op d RES p f s R) {j q : Nat} {f' : Bool} {s' : Fl.PSt} (hS : RS w0 w' rb tv l s' R') (hF : FP w w' rb R0 R') (hV : Vars w' rb b5 b13 b14 c q R') (hpj : p ≤ j) (hjq : j < q) (hql : q ≤ l.length) (hcn : Fl.cnt (Fl.raw l (q - 1)) = true)
    (hg : Fl.Gr s s' (q - p)) (hr : ∀ g, Fl.pcolF l l.length (Fl.pvalN l l.length d) c op (g + 1) p f s = Fl.pcolF l l.length (Fl.pvalN l l.length d) c op g q f' s') : Col w0 w w' rb tv l R0 b5 b13 b14 c op d RES q f' s' R' := by
  obtain ⟨g, hg1, hg2⟩ := h.res
  obtain ⟨x, hx1, hx2⟩ := h.nd
  obtain ⟨x', hx3, hx4⟩ := hg.kinds c x hx1
  obtain ⟨g', rfl⟩ : ∃ g', g = g' + 1 := ⟨g - 1, by omega⟩
  rw [hr] at hg2
  exact ⟨hS, hF, hV, h.low, h.new, ⟨g', by omega, hg2⟩, by have := h.sq; have := hg.len; omega, by have := h.sd; have := hg.dl; omega, hg.kids h.kb, ⟨x', hx3, by rw [hx4]; exact hx2⟩, by have := h.opp; omega, hql, hcn⟩
theorem Col.step (h : Col w0 w wr rb tv l R0 b5 b13 b14 c op d RES p f s R) : ∃ g, Fl.pcolF l l.length (Fl.pvalN l l.length d) c op (g + 1) p f s = RES := by
  obtain ⟨g, hg1, hg2⟩ := h.res
  obtain ⟨g', rfl⟩ : ∃ g', g = g' + 1 := ⟨g - 1, by omega⟩
  exact ⟨g', hg2⟩
end
end Go.Proofs.Ytmlpaafclobgcaa

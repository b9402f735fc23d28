/- Package rows: Rows. -/
import Derived.Test.YtaokjeopmhbddaaRy
namespace Go.Proofs.Ytaokjeopmhbddaa
open Go.RowKit
open Go.Proofs.Ytaokjeopmhbddaa.Sg
open Go.Proofs.Ytaokjeopmhbddaa.Sq
set_option linter.unusedVariables false

/-- What the call owns lies above the box. -/
theorem own_off {w : World} {B e size n : Nat} {v : Value} {xs : List Value} (h : w.ownsRow (B + 1) e size v n xs) : v.ownBlock = none ∨ v.ownBlock ≠ some B := by
  right; intro e; have := (h.lt _ e).1; omega
theorem own_ne {w : World} {B e size n : Nat} {v : Value} {xs : List Value} (h : w.ownsRow (B + 1) e size v n xs) : some B ≠ v.ownBlock := fun e => by have := (h.lt _ e.symm).1; omega
/-- The row that begins at a place, with so many tokens. -/
abbrev rowOf (op fr R : Nat) (row : List Tk) : Rw.R := ⟨Rw.kindOf (decide (0 < op)) row, fr, fr + R, Rw.colOf row⟩
set_option maxHeartbeats 8000000 in
set_option maxRecDepth 100000 in
theorem pRows (bv v : Value) (l : List Tk) (w : World) (h : Reads encT w v l) (hs : l.length ≤ 100000) (hf : ∀ x ∈ l, x.2.1 ≤ 1000000) :
    Calls Try.prog 12 #[bv, v] w (GivesR (Rw.rowsN l) w) := by
  obtain ⟨a, cap, rfl⟩ := h.shape
  have H := Lib.hid h
  have HF := Lib.hid hf
  have HC := Lib.hid (fun n (hn : n ≤ l.length) => cut_l (P := Try.prog) tyT h hn)
  have HSt := Lib.hid (Rw.rows_from l)
  have HEn := Lib.hid (Rw.rows_done l)
  have hat : Rw.rowsAt 0 0 l = Rw.rowsN l := rfl
  obtain ⟨Rs, hRs⟩ : ∃ Rs, Rw.rowsN l = Rs := ⟨_, rfl⟩
  rw [hRs] at hat ⊢
  have HG := Lib.hid (fun e w' => show (∃ u, e = .returned u ∧ w'.ownsRow w.heap.size 33 4 u Rs.length (encR.all Rs) ∧ Below w.heap.size w w') → GivesR Rs w e w' from fun h => h)
  obtain ⟨Q, hQ⟩ : ∃ Q, GivesR Rs w = Q := ⟨_, rfl⟩
  rw [hQ] at HG ⊢
  obtain ⟨N, hN⟩ : ∃ N, l.length = N := ⟨_, rfl⟩
  have HN := Lib.hid hN
  rw [hN] at hs HC
  have hcp := h.cap_le
  rw [hN] at hcp
  unfold maxLen at hcp
  rw [hN]
  have HAt := Lib.hid hat
  clear h hf hRs hN hQ hat
  go_enter Try.func12, Try.ntmps12
  go_wp2_with fail
  refine (pBrackets w).mono ?_
  rintro e w1 ⟨rfl, rfl⟩
  go_wp2_with fail
  go_loopw [5, 7] (fun lv fv wr => ∃ (fr op : Nat) (done : List Rw.R), fv = .int .i64 fr ∧ fr ≤ N ∧ op ≤ fr ∧ done.length ≤ fr ∧ Hid (done ++ Rw.rowsAt op fr (l.drop fr) = Rs) ∧ wr.ownsRow (w.heap.size + 1) 33 4 lv done.length (encR.all done) ∧ wr.heap[w.heap.size]? = some (.cells #[.int .i64 op] 3 (0, 0)) ∧ Below w.heap.size w wr) (fun _ fv _ => N - (intOf fv).toNat)
  case atStart =>
    exact ⟨0, 0, [], rfl, Nat.zero_le _, Nat.le_refl _, Nat.le_refl _, Lib.hid (by rw [List.nil_append, List.drop_zero]; exact HAt.out), own_nil encR _ _, heap_alloc_new w _, below_alloc w _⟩
  case round =>
    obtain ⟨fr, op, done, rfl, hfr, hop, hdl, HE, hown, hp, hb⟩ := hrel
    by_cases hlt : fr < N
    · have hi : (fr : Int) < (N : Int) := by omega
      obtain ⟨u, hu, hru⟩ := HC.out fr (by omega)
      have hne : l.drop fr ≠ [] := fun e => by have := congrArg List.length e; rw [List.length_drop, HN.out] at this; simp at this; omega
      have hrp := Rw.rlen_pos _ hne
      have hrl := Rw.rlen_le (l.drop fr)
      rw [List.length_drop, HN.out] at hrl
      have hF := pFirstRow u (l.drop fr) wr (hru.below hb) (by rw [List.length_drop, HN.out]; omega)
      have hst := HSt.out op fr (by rw [HN.out]; exact hlt)
      have hfs : ∀ x ∈ (l.drop fr).take (Rw.rlen (l.drop fr)), x.2.1 ≤ 1000000 := fun x hx => HF.out x (List.mem_of_mem_drop (List.mem_of_mem_take hx))
      have hlen : ((l.drop fr).take (Rw.rlen (l.drop fr))).length = Rw.rlen (l.drop fr) := by rw [List.length_take, List.length_drop, HN.out]; omega
      obtain ⟨row, hrow⟩ : ∃ row, (l.drop fr).take (Rw.rlen (l.drop fr)) = row := ⟨_, rfl⟩
      rw [hrow] at hst hF hlen hfs
      obtain ⟨R, hR⟩ : ∃ R, Rw.rlen (l.drop fr) = R := ⟨_, rfl⟩
      rw [hR] at hst hlen hrp hrl
      have HFr := Lib.hid hF
      have HSt2 := Lib.hid hst
      have HFs := Lib.hid hfs
      have HLen := Lib.hid hlen
      have HO := Lib.hid hown
      have HP := Lib.hid hp
      have HB := Lib.hid hb
      have hR1 : fr + R ≤ N := by omega
      clear hF hst hfs hlen hown hp hb hrow hR hne hru H HF HC HSt HEn HN HG HAt
      go_wp2_with fail
      refine HFr.out.mono ?_
      rintro e w2 ⟨u2, rfl, hr2, hb2⟩
      obtain ⟨a2, cap2, rfl⟩ := hr2.shape
      have hp2 := (hb2.block _ (lt_of_block HP.out)).trans HP.out
      have hr2 := hr2.below hb2
      have hwi := pWithin _ row op w.heap.size w2 hr2 (by rw [HLen.out]; omega) (by omega) hp2
      rw [HLen.out] at hwi
      have HR2 := Lib.hid hr2
      have HP2 := Lib.hid hp2
      have HB2 := Lib.hid hb2
      have HWi := Lib.hid hwi
      rw [HLen.out]
      clear hr2 hp2 hb2 hwi HFr
      go_wp2_with fail
      refine HWi.out.mono ?_
      rintro e w3 ⟨rfl, hp3, hg3⟩
      have hr3 := reads_past HR2.out HP2.out hg3
      have hk := pKind _ row (decide (0 < op)) w3 hr3 (by rw [HLen.out]; omega) (fun e => by have := HLen.out; rw [e] at this; simp at this; omega)
      rw [HLen.out] at hk
      have HR3 := Lib.hid hr3
      have HP3 := Lib.hid hp3
      have HG3 := Lib.hid hg3
      have HK := Lib.hid hk
      clear hr3 hp3 hg3 hk HWi
      go_wp2_with fail
      refine HK.out.mono ?_
      rintro e w4 ⟨rfl, hb4⟩
      have hr4 := HR3.out.below hb4
      have hfi := pFirst _ row w4 hr4 (by rw [HLen.out]; omega)
      rw [HLen.out] at hfi
      have HR4 := Lib.hid hr4
      have HB4 := Lib.hid hb4
      have HFi := Lib.hid hfi
      clear hr4 hb4 hfi HK
      go_wp2_with fail
      refine HFi.out.mono ?_
      rintro e w5 ⟨rfl, hb5⟩
      have hr5 := HR4.out.below hb5
      have hco := pColumn _ row (Rw.leadN row) w5 hr5 (by rw [HLen.out]; omega) (Rw.lead_le row) HFs.out
      rw [HLen.out, Rw.colA_lead] at hco
      have HB5 := Lib.hid hb5
      have HCo := Lib.hid hco
      clear hr5 hb5 hco HFi
      have HCs := Lib.hid (show encR.cells (rowOf op fr R row) = [.int .i64 (Rw.kindOf (decide (0 < op)) row : Nat), .int .i64 fr, .int .i64 ((fr : Int) + (R : Int)), .int .i64 (Rw.colOf row)] by simp [encR, rCells])
      go_wp2_with fail
      refine HCo.out.mono ?_
      rintro e w6 ⟨rfl, hb6⟩
      have hb36 := below_from (below_from HB4.out HB5.out) hb6
      have ho2 := own_below HO.out HB2.out
      have ho3 := ho2.kept HG3.out (own_off ho2)
      have ho6 := own_below ho3 hb36
      have hp4 := (hb36.block _ (lt_of_block HP3.out)).trans HP3.out
      have hsz : w.heap.size + 1 ≤ w6.heap.size := lt_of_block hp4
      have hbx : Below w.heap.size w w6 := ((HB.out.trans (HB2.out.mono HB.out.size)).grown HG3.out (Nat.le_trans HB.out.size HB2.out.size) (fun k hk => by injection hk with hk; omega)).trans (hb36.mono (Nat.le_trans HB.out.size (Nat.le_trans HB2.out.size HG3.out.size)))
      have HO6 := Lib.hid ho6
      have HP6 := Lib.hid hp4
      have HB6 := Lib.hid hbx
      have HS6 := Lib.hid hsz
      clear hb6 hb36 ho2 ho3 ho6 hp4 hbx hsz HR2 HR3 HR4 HB2 HB4 HB5 HG3 HP2 HP3 HO HP HB HCo
      go_wp2_with (at_builtin; go_must (refine append_one tyR rfl (.tmp 23) (.tmp 36) rfl (w.heap.size + 1) _ done (rowOf op fr R row) _ HCs.out rfl HO6.out rfl (by simp only [maxLen]; omega) (by omega) HS6.out ?_; intro v7 w7 hown7 hg7))
      have hg7 : (w6.alloc (.cells #[.int .i64 (Rw.kindOf (decide (0 < op)) row : Nat), .int .i64 fr, .int .i64 ((fr : Int) + (R : Int)), .int .i64 (Rw.colOf row)] 33)).grownBy w7 (Value.ownBlock _) := hg7
      have hlen7 : (done ++ [rowOf op fr R row]).length = done.length + 1 := by simp
      have hor := own_ne HO6.out
      go_roundw
      case rel =>
        refine ⟨fr + R, Rw.opnL op row, done ++ [rowOf op fr R row], by go_num, hR1, ?_, by omega, Lib.hid ?_, hown7, ?_, ?_⟩
        · have := Rw.opnL_le row op
          have := HLen.out
          omega
        · rw [List.append_assoc, ← HE.out, HSt2.out]; rfl
        · refine (hg7.block _ ?_ hor).trans ((Below.heap_alloc _ _ _ (lt_of_block HP6.out)).trans HP6.out)
          have := lt_of_block HP6.out
          simp; omega
        · refine (HB6.out.alloc HB6.out.size _).grown hg7 (by have := HB6.out.size; simp; omega) (fun k hk => ?_)
          have := (HO6.out.lt k hk).1
          omega
      case measure => simp [intOf]; omega
    · obtain rfl : fr = N := by omega
      have hne : ¬ ((fr : Int) < (fr : Int)) := by omega
      have hE := HE.out
      rw [HEn.out op fr (by rw [HN.out]; exact Nat.le_refl _), List.append_nil] at hE
      subst hE
      have HD := Lib.hid (HG.out _ wr ⟨_, rfl, own_base hown (Nat.le_succ _), hb⟩)
      clear HE hown hp hb hlt H HF HC HSt HEn HG HN HAt hdl
      go_wp2_with fail
      exact HD.out
end Go.Proofs.Ytaokjeopmhbddaa

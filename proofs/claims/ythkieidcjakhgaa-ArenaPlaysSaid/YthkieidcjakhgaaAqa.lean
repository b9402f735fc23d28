/- Package arena: Add. -/
import Derived.Test.YthkieidcjakhgaaAq9
namespace Go.Proofs.Ythkieidcjakhgaa
open Go.RowKit
open Go.Proofs.Ythkieidcjakhgaa.Sq
open Go.Proofs.Ythkieidcjakhgaa.Ar
set_option linter.unusedVariables false

theorem add_yes {l : List Nd} {up kind f t : Int} (hm : mayAdd l up kind f t = true) : ∃ (i : Nat), up = (i : Int) ∧ (Ch.add i kind f t).ok l ∧ addN l up kind f t = ((Ch.add i kind f t).res l, (l.length : Int)) := by
  obtain ⟨h0, h1, p, hp⟩ := may_up hm
  obtain ⟨i, rfl⟩ : ∃ i : Nat, up = (i : Int) := ⟨up.toNat, by omega⟩
  have hf := (may_le hm hp).1
  have hp2 := hp
  rw [Int.toNat_natCast] at hp2
  refine ⟨i, rfl, ⟨p, hp2, hf⟩, ?_⟩
  unfold addN
  rw [if_pos hm, hp]
  simp only [Ch.res, hp2, putN, Int.toNat_natCast]
set_option maxHeartbeats 8000000 in
set_option maxRecDepth 100000 in
theorem aAdd : PAdd := by
  intro v l up kind f t w h hG hs hk
  obtain ⟨a, cap, rfl⟩ := h.shape
  obtain ⟨R, hR⟩ : ∃ R, addN l up kind f t = R := ⟨_, rfl⟩
  have HX := Lib.hid (fun W (hb : Below w.heap.size w W) => h.below hb)
  have HC0 := Lib.hid (fun W (hb : Below w.heap.size w W) => changed_none _ l W (h.below hb) hG (by omega) (fun x hx => Nat.le_trans (hk x hx) (by omega)))
  have HC1 := Lib.hid (fun (k : Nat) W cb (ho : (Ch.add k kind f t).ok l) (hb : Below w.heap.size w W) (hc : W.cell? ⟨cb, 0, none⟩ = some (Ch.add k kind f t).cell) => changed_one (.add k kind f t) rfl _ l W cb (h.below hb) hG (by omega) (fun x hx => Nat.le_trans (hk x hx) (by omega)) ho hc)
  have HFi := Lib.hid (fun W (hb : Below w.heap.size w W) => aFits _ l up kind f t W (h.below hb) hG (by omega) (fun x hx => Nat.le_trans (hk x hx) (by omega)))
  have hyes := fun hm => add_yes (l := l) (up := up) (kind := kind) (f := f) (t := t) hm
  have hno : mayAdd l up kind f t = false → addN l up kind f t = (l, -1) := fun e => by unfold addN; rw [e]; rfl
  obtain ⟨M, hM⟩ : ∃ M, mayAdd l up kind f t = M := ⟨_, rfl⟩
  rw [hM] at HFi hyes hno
  rw [hR] at hyes hno ⊢
  have HQ := Lib.hid (fun u z w' => show (R.2 = z ∧ Nodes w' u R.1 ∧ Below w.heap.size w w') → TreedA false R w (.returned (.tuple #[.agg #[u], .int .i64 z])) w' from fun h => ⟨u, by rw [h.1], h.2.1, fun e => absurd e (by decide), h.2.2⟩)
  obtain ⟨Q, hQ⟩ : ∃ Q, TreedA false R w = Q := ⟨_, rfl⟩
  rw [hQ] at HQ ⊢
  obtain ⟨N, hN⟩ : ∃ N, l.length = N := ⟨_, rfl⟩
  rw [hN] at HX HC0 HC1 HFi hyes hs ⊢
  have HN := Lib.hid hN
  have HYes := Lib.hid hyes
  have HNot := Lib.hid hno
  obtain ⟨w1, hw1⟩ : ∃ w1, (w.alloc (.cells #[.slice a N cap] 27)).alloc (.cells #[.slice none 0 0] 27) = w1 := ⟨_, rfl⟩
  obtain ⟨Bt, hBt⟩ : ∃ Bt, w.heap.size = Bt := ⟨_, rfl⟩
  obtain ⟨Br, hBr⟩ : ∃ Br, w.heap.size + 1 = Br := ⟨_, rfl⟩
  have hb1 := below_allocS (below_alloc w (.cells #[.slice a N cap] 27)) (.cells #[.slice none 0 0] 27)
  have ct : w1.cell? ⟨Bt, 0, none⟩ = some (.slice a N cap) := by rw [← hw1, ← hBt]; exact at_alloc (at_new rfl)
  have cr : Hld w1 Br 0 (.slice none 0 0) := by
    rw [← hw1, ← hBr]
    have h := hld_new (W := w.alloc (.cells #[.slice a N cap] 27)) (C := #[.slice none 0 0]) (t := 27) (k := 0) rfl
    rw [size_alloc] at h
    exact h
  rw [hw1] at hb1
  obtain ⟨Ba, hBa⟩ : ∃ Ba, w1.heap.size = Ba := ⟨_, rfl⟩
  obtain ⟨w2, hw2⟩ : ∃ w2, w1.alloc (.cells #[.int .i64 up, .int .i64 t, .int .i64 kind, .int .i64 f] 57) = w2 := ⟨_, rfl⟩
  have hb2 : Below w1.heap.size w1 w2 := hw2 ▸ below_alloc w1 _
  have ct2 := at_below hb2 ct
  have cr2 := hld_below hb2 cr
  have a0 : w2.cell? ⟨Ba, 0, none⟩ = some (.int .i64 up) := by rw [← hw2, ← hBa]; exact at_new rfl
  have a1 : w2.cell? ⟨Ba, 1, none⟩ = some (.int .i64 t) := by rw [← hw2, ← hBa]; exact at_new rfl
  have a2 : w2.cell? ⟨Ba, 2, none⟩ = some (.int .i64 kind) := by rw [← hw2, ← hBa]; exact at_new rfl
  have a3 : w2.cell? ⟨Ba, 3, none⟩ = some (.int .i64 f) := by rw [← hw2, ← hBa]; exact at_new rfl
  have hn1 : Br ≠ Bt := by omega
  have hn2 : Br ≠ Ba := by have h9 : Br < w1.heap.size := lt_of_cell cr.1; omega
  have HB2 := Lib.hid (below_from hb1 hb2)
  have HCr2 := Lib.hid cr2
  have HFw := Lib.hid (HFi.out w2 (below_from hb1 hb2))
  have HW1 := Lib.hid hw1
  have HBt := Lib.hid hBt
  have HBr := Lib.hid hBr
  have HW2 := Lib.hid hw2
  have HBa := Lib.hid hBa
  have hwr : w.heap.size ≤ Br := by omega
  clear h hG hk hR hQ hN hM hyes hno hw1 hBt hBr hb1 cr hBa hw2 hb2 cr2 ct HFi
  go_enter Try.func14, Try.ntmps14
  go_upto_region 1 with fail
  rw [HW1.out, HBr.out, HBt.out]
  clear HW1 HBr HBt
  go_upto_region 2 with fail
  rw [HW2.out, HBa.out]
  clear HW2 HBa
  go_wp2_with fail
  refine HFw.out.mono ?_
  rintro e w3 ⟨rfl, hb3⟩
  have ct3 := at_below hb3 ct2
  have a03 := at_below hb3 a0
  have a13 := at_below hb3 a1
  have a23 := at_below hb3 a2
  have a33 := at_below hb3 a3
  have HCr3 := Lib.hid (hld_below hb3 HCr2.out)
  have HB3 := Lib.hid (below_from HB2.out hb3)
  clear hb3 ct2 a0 a1 a2 a3
  cases M with
  | false =>
    have hr := HNot.out rfl
    have HC03 := Lib.hid (HC0.out w3 HB3.out)
    clear HC0 HYes
    go_wp2_with fail
    refine HC03.out.mono ?_
    rintro e w4 ⟨u, rfl, hn, -, hb⟩
    obtain ⟨ua, uc, rfl⟩ := hn.shape
    rw [HN.out] at hn ⊢
    have hc := hld_below hb HCr3.out
    have cr0 := hc.1
    have fr0 := hc.2
    have HD := Lib.hid (HQ.out (.slice ua N uc) (-1) _ ⟨by rw [hr], by rw [hr]; exact hn.set cr0 (.slice ua N uc), (below_from HB3.out hb).setCell (p := ⟨Br, 0, none⟩) hwr _⟩)
    clear hn hb hc hr
    go_wp2_with fail
    refine bodyPost_ret (v := .tuple #[.agg #[.slice ua N uc], .int .i64 (-1)]) ?_ rfl HD.out
    simp [results, Try.results14, go_sem, cr0, cell_set_eq]
  | true =>
    obtain ⟨i, rfl, hok, hr⟩ := HYes.out rfl
    have hcall := HC1.out i (w3.drew.alloc (.cells #[.iface 57 (.agg #[.int .i64 i, .int .i64 t, .int .i64 kind, .int .i64 f])] 20)) w3.heap.size hok (below_allocS HB3.out.drew _) (at_new (W := w3.drew) rfl)
    have HCa := Lib.hid hcall
    have HB4 := Lib.hid (below_allocS HB3.out.drew (.cells #[.iface 57 (.agg #[.int .i64 i, .int .i64 t, .int .i64 kind, .int .i64 f])] 20))
    have HCr4 := Lib.hid (hld_alloc (o := .cells #[.iface 57 (.agg #[.int .i64 i, .int .i64 t, .int .i64 kind, .int .i64 f])] 20) (hld_drew HCr3.out))
    have HR := Lib.hid hr
    have b0 := fun o => at_alloc (o := o) (at_drew a03)
    have b1 := fun o => at_alloc (o := o) (at_drew a13)
    have b2 := fun o => at_alloc (o := o) (at_drew a23)
    have b3 := fun o => at_alloc (o := o) (at_drew a33)
    have bt := fun o => at_alloc (o := o) (at_drew ct3)
    have HB0 := Lib.hid (And.intro bt (And.intro b0 (And.intro b1 (And.intro b2 b3))))
    clear hcall hok hr HC0 HC1 HYes HNot b0 b1 b2 b3 bt
    go_wp2_with fail
    -- ADD
    refine wp_region_held_drew (S := fun wx => wx.cell? ⟨Bt, 0, none⟩ = some (.slice a N cap) ∧ wx.cell? ⟨Ba, 0, none⟩ = some (.int .i64 (i : Int)) ∧ wx.cell? ⟨Ba, 1, none⟩ = some (.int .i64 t) ∧ wx.cell? ⟨Ba, 2, none⟩ = some (.int .i64 kind) ∧ wx.cell? ⟨Ba, 3, none⟩ = some (.int .i64 f)) (by kernel_rfl) (⟨ct3, a03, a13, a23, a33⟩) (fun hH => ?_)
    refine wpAnyH_take (i := 0) (oi := { dst := some 25, op := Op.load 27 (Operand.tmp 5), type := 27, pos := _, after := #[], guard := none }) (v := .agg #[.slice a N cap]) rfl (by kernel_rfl) (by kernel_rfl) (by kernel_rfl) (fun _ _ _ h => h) (Or.inl ⟨rfl, fun W hW => ?_⟩) hH ?_
    · obtain ⟨z1, z2, z3, z4, z5⟩ := hW; go_simp
    try simp only [Act.put, List.setIfInBounds_toArray, List.set_cons_zero, List.set_cons_succ]
    refine wpAnyH_take (i := 1) (oi := { dst := some 26, op := Op.load 57 (Operand.tmp 12), type := 57, pos := _, after := #[], guard := none }) (v := .agg #[.int .i64 (i : Int), .int .i64 t, .int .i64 kind, .int .i64 f]) rfl (by kernel_rfl) (by kernel_rfl) (by kernel_rfl) (fun _ _ _ h => h) (Or.inl ⟨rfl, fun W hW => ?_⟩) hH ?_
    · obtain ⟨z1, z2, z3, z4, z5⟩ := hW; go_simp
    try simp only [Act.put, List.setIfInBounds_toArray, List.set_cons_zero, List.set_cons_succ]
    refine wpAnyH_take (i := 2) (oi := { dst := some 27, op := Op.makeInterface 57 (Operand.tmp 26), type := 20, pos := _, after := #[{ on := 1, ground := Ground.data }], guard := none }) (v := .iface 57 (.agg #[.int .i64 (i : Int), .int .i64 t, .int .i64 kind, .int .i64 f])) rfl (by kernel_rfl) (by kernel_rfl) (by kernel_rfl) (fun _ _ _ h => h) (Or.inl ⟨rfl, fun W hW => ?_⟩) hH ?_
    · go_simp
    try simp only [Act.put, List.setIfInBounds_toArray, List.set_cons_zero, List.set_cons_succ]
    refine wpAnyH_take (i := 5) (oi := { dst := some 30, op := Op.fieldAddr 27 (Operand.tmp 5) 0, type := 0, pos := _, after := #[], guard := none }) (v := .pointer (some ⟨Bt, 0, none⟩)) rfl (by kernel_rfl) (by kernel_rfl) (by kernel_rfl) (fun _ _ _ h => h) (Or.inl ⟨rfl, fun W hW => ?_⟩) hH ?_
    · go_simp
    try simp only [Act.put, List.setIfInBounds_toArray, List.set_cons_zero, List.set_cons_succ]
    refine wpAnyH_take (i := 6) (oi := { dst := some 31, op := Op.load 25 (Operand.tmp 30), type := 25, pos := _, after := #[{ on := 5, ground := Ground.data }], guard := none }) (v := .slice a N cap) rfl (by kernel_rfl) (by kernel_rfl) (by kernel_rfl) (fun _ _ _ h => h) (Or.inl ⟨rfl, fun W hW => ?_⟩) hH ?_
    · obtain ⟨z1, z2, z3, z4, z5⟩ := hW; go_simp
    try simp only [Act.put, List.setIfInBounds_toArray, List.set_cons_zero, List.set_cons_succ]
    refine wpAnyH_take (i := 7) (oi := { dst := some 32, op := Op.call { callee := Callee.builtin Builtin.len, args := #[Operand.tmp 31], argTypes := #[25] }, type := 3, pos := _, after := #[{ on := 6, ground := Ground.data }], guard := none }) (v := .int .i64 (N : Int)) rfl (by kernel_rfl) (by kernel_rfl) (by kernel_rfl) (fun _ _ _ h => h) (Or.inl ⟨rfl, fun W hW => ?_⟩) hH ?_
    · go_simp
    try simp only [Act.put, List.setIfInBounds_toArray, List.set_cons_zero, List.set_cons_succ]
    refine wpAnyH_ready (rs := [3]) (by kernel_rfl) (by simp) ?_
    refine AllReadyH.cons (o := { dst := some 28, op := Op.buildSlice 65 1 #[(0, Operand.tmp 27)], type := 65, pos := _, after := #[{ on := 2, ground := Ground.data }], guard := none }) rfl (fun K hK => ?_) AllReadyH.nil
    go_simp
    refine hK.out _ _ (⟨HB0.out.1 _, HB0.out.2.1 _, HB0.out.2.2.1 _, HB0.out.2.2.2.1 _, HB0.out.2.2.2.2 _⟩) (fun hH2 => ?_)
    clear hK K
    try simp only [Act.put, List.setIfInBounds_toArray, List.set_cons_zero, List.set_cons_succ]
    refine wpAnyH_ready (rs := [4]) (by kernel_rfl) (by simp) ?_
    refine AllReadyH.cons (o := { dst := some 29, op := Op.call { callee := Callee.value (Operand.func 26), args := #[Operand.tmp 25, Operand.tmp 28], argTypes := #[27, 65] }, type := 27, pos := _, after := #[{ on := 0, ground := Ground.data }, { on := 3, ground := Ground.data }], guard := none }) rfl (fun K hK => ?_) AllReadyH.nil
    go_simp
    refine HCa.out.mono ?_
    rintro e w4 ⟨u, rfl, hn, -, hb⟩
    obtain ⟨ua, uc, rfl⟩ := hn.shape
    obtain ⟨un, hun⟩ : ∃ un, ((Ch.add i kind f t).res l).length = un := ⟨_, rfl⟩
    rw [hun] at hn ⊢
    clear hun
    have HNn := Lib.hid hn
    have hc := hld_below hb HCr4.out
    have cr0 := hc.1
    have fr0 := hc.2
    have d0 := at_below hb (HB0.out.2.1 _)
    have d1 := at_below hb (HB0.out.2.2.1 _)
    have d2 := at_below hb (HB0.out.2.2.2.1 _)
    have d3 := at_below hb (HB0.out.2.2.2.2 _)
    have dt := at_below hb (HB0.out.1 _)
    have HB5 := Lib.hid (below_from HB4.out hb)
    clear hb hn hc
    try go_wp2_with fail
    refine hK.out _ _ (⟨dt, d0, d1, d2, d3⟩) (fun hH2 => ?_)
    clear hK K
    try simp only [Act.put, List.setIfInBounds_toArray, List.set_cons_zero, List.set_cons_succ]
    refine wpAnyH_ready (rs := [8]) (by kernel_rfl) (by simp) ?_
    refine AllReadyH.cons (o := { dst := none, op := Op.store 27 (Operand.tmp 10) (Operand.tmp 29), type := 0, pos := _, after := #[{ on := 4, ground := Ground.data }, { on := 4, ground := Ground.chain }, { on := 0, ground := Ground.phase }, { on := 1, ground := Ground.phase }, { on := 2, ground := Ground.phase }, { on := 3, ground := Ground.phase }, { on := 4, ground := Ground.phase }, { on := 5, ground := Ground.textOnly Departure.lateStores }, { on := 6, ground := Ground.textOnly Departure.lateStores }, { on := 7, ground := Ground.textOnly Departure.lateStoresUnsure }], guard := none }) rfl (fun K hK => ?_) AllReadyH.nil
    go_simp
    refine hK.out _ _ (⟨at_far hn1 dt, at_far hn2 d0, at_far hn2 d1, at_far hn2 d2, at_far hn2 d3⟩) (fun hH2 => ?_)
    clear hK K
    try simp only [Act.put, List.setIfInBounds_toArray, List.set_cons_zero, List.set_cons_succ]
    refine wpAnyH_take (i := 9) (oi := { dst := some 11, op := Op.assign (Operand.tmp 32), type := 3, pos := _, after := #[{ on := 7, ground := Ground.data }, { on := 8, ground := Ground.chain }, { on := 0, ground := Ground.phase }, { on := 1, ground := Ground.phase }, { on := 2, ground := Ground.phase }, { on := 3, ground := Ground.phase }, { on := 4, ground := Ground.phase }, { on := 5, ground := Ground.phase }, { on := 6, ground := Ground.phase }, { on := 7, ground := Ground.phase }, { on := 8, ground := Ground.phase }], guard := none }) (v := .int .i64 (N : Int)) rfl (by kernel_rfl) (by kernel_rfl) (by kernel_rfl) (fun _ _ _ h => h) (Or.inl ⟨rfl, fun W hW => ?_⟩) hH2 ?_
    · go_simp
    try simp only [Act.put, List.setIfInBounds_toArray, List.set_cons_zero, List.set_cons_succ]
    refine wpAnyH_done (by kernel_rfl) ?_ _
    have HD := Lib.hid (HQ.out (.slice ua un uc) (N : Int) (w4.setCell ⟨Br, 0, none⟩ (.slice ua un uc)) ⟨by rw [HR.out], by rw [HR.out]; exact HNn.out.set cr0 (.slice ua un uc), HB5.out.setCell (p := ⟨Br, 0, none⟩) hwr _⟩)
    clear hH hH2
    go_wp2_with fail
    refine bodyPost_ret (v := .tuple #[.agg #[.slice ua un uc], .int .i64 (N : Int)]) ?_ rfl HD.out
    simp [results, Try.results14, go_sem, cr0, cell_set_eq]
    -- END
end Go.Proofs.Ythkieidcjakhgaa

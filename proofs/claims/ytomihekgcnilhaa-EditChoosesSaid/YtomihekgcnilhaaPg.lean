/- package edit: insert. -/
import Derived.Test.YtomihekgcnilhaaPf
import Derived.Test.YtomihekgcnilhaaSqb
import Derived.Test.YtomihekgcnilhaaE5
import Derived.Test.YtomihekgcnilhaaE6
namespace Go.Proofs.Ytomihekgcnilhaa
open Go.RowKit
open Go.Proofs.Ytomihekgcnilhaa.Sq

theorem parts_ins {l : List Et} {e : Et} {p : Nat} (hp : p ≤ l.length) (h : Parts l e p p) : insT e l = l.take p ++ [e] ++ l.drop p := by
  rw [insT_at e l p hp (fun x hx => ?_) (fun x hx => h.2 p x (Nat.le_refl _) hx)]
  · simp
  · obtain ⟨k, hk⟩ := List.mem_iff_getElem?.1 hx
    rw [List.getElem?_take] at hk
    split at hk
    · rename_i hkp; exact h.1 k x hkp hk
    · cases hk
theorem at_alloc {W : World} {o : Obj} {p : Addr} {u : Value} (h : W.cell? p = some u) : (W.alloc o).cell? p = some u := ((below_new W o).cell (cell_lt h)).trans h
theorem laid_one (W : World) (e : Et) (t : TypeId) : ∀ j c, (encE.all [e])[j]? = some c → (W.alloc (.cells #[.int .i64 e.f, .int .i64 e.t, .string e.p] t)).cell? ⟨W.heap.size, j, none⟩ = some c := by
  intro j c hj
  rw [World.cell?_alloc_mark]
  simpa [Enc.all, encE, Et.cells] using hj
set_option maxHeartbeats 600000 in
set_option maxRecDepth 100000 in
theorem insert_any (v : Value) (l : List Et) (e : Et) (w : World) (hE : Edits w v l) (hl : l.length ≤ 200) (hR : Rises l e) :
    Calls Try.prog 33 #[v, e.val] w fun r w' => ∃ v', r = .returned v' ∧ w'.ownsRow w.heap.size 41 3 v' (insT e l).length (encE.all (insT e l)) ∧ Below w.heap.size w w' := by
  obtain ⟨a, cap, rfl⟩ := hE.shape
  have HE := Lib.hid hE
  have HL := Lib.hid hl
  have HS := Lib.hid (fun W (hW : Below w.heap.size w W) => search_any _ l e W (hE.below hW) (by omega) hR)
  have hz : Below w.heap.size w (w.alloc (.cells #[.int .i64 e.f, .int .i64 e.t, .string e.p] 41)) := below_new _ _
  have HBn := Lib.hid hz
  have HZ0 := Lib.hid (edit_new0 w e 41)
  have HZ1 := Lib.hid (edit_new1 w e 41)
  have HZ2 := Lib.hid (edit_new2 w e 41)
  obtain ⟨N, hN⟩ : ∃ N, l.length = N := ⟨_, rfl⟩
  have HN := Lib.hid hN
  rw [hN] at HS hl
  rw [hN]
  have HIns := Lib.hid (fun p hp h => parts_ins (l := l) (e := e) (p := p) hp h)
  have HOne := Lib.hid (fun W => laid_one W e 41)
  clear hE hR hz hN
  obtain ⟨f, t, p⟩ := e
  go_enter Try.func33, Try.ntmps33
  go_wp2_with fail
  refine (HS.out _ HBn.out).mono ?_
  rintro r w1 ⟨k, bb, rfl, hk, hP, hb⟩
  have c0 := cell_keep HZ0.out hb
  have c1 := cell_keep HZ1.out hb
  have c2 := cell_keep HZ2.out hb
  have hbw := HBn.out.trans (hb.mono HBn.out.size)
  obtain ⟨va, hsa, hFa⟩ := Sq.cut_hm tyE (HE.out.below hbw) hk
  obtain ⟨vb, hsb, hRb⟩ := Sq.cut_l tyE (HE.out.below hbw) hk
  have hins := HIns.out k hk hP
  have HI := Lib.hid hins
  have hkN : k ≤ N := by rw [← HN.out]; exact hk
  have l1 : (l.take k).length ≤ 200 := by rw [List.length_take, HN.out]; omega
  have l2 : (l.drop k).length ≤ 200 := by rw [List.length_drop, HN.out]; omega
  rw [HN.out] at hsa hsb
  obtain ⟨tk, htk⟩ : ∃ tk, l.take k = tk := ⟨_, rfl⟩
  obtain ⟨dr, hdr⟩ : ∃ dr, l.drop k = dr := ⟨_, rfl⟩
  rw [htk, hdr] at HI
  rw [htk] at hFa l1
  rw [hdr] at hRb l2
  have HFa := Lib.hid hFa
  have HRb := Lib.hid hRb
  have HBw := Lib.hid hbw
  clear hb hP hk HIns hins HZ0 HZ1 HZ2 HBn htk hdr hFa hRb hbw HS HE
  have d0 : (w1.alloc (.cells #[.int .i64 f, .int .i64 t, .string p] 41)).drew.cell? ⟨w.heap.size, 0, none⟩ = some (.int .i64 f) := drew_cell (at_alloc c0)
  have d1 : (w1.alloc (.cells #[.int .i64 f, .int .i64 t, .string p] 41)).drew.cell? ⟨w.heap.size, 1, none⟩ = some (.int .i64 t) := drew_cell (at_alloc c1)
  have d2 : (w1.alloc (.cells #[.int .i64 f, .int .i64 t, .string p] 41)).drew.cell? ⟨w.heap.size, 2, none⟩ = some (.string p) := drew_cell (at_alloc c2)
  have HB1 := Lib.hid (show Below w1.heap.size w1 (w1.alloc (.cells #[.int .i64 f, .int .i64 t, .string p] 41)).drew from (below_new _ _).drew)
  have hw1 : w.heap.size < w1.heap.size := cell_lt c0
  have hm1 : tk.length + 1 ≤ maxLen := by simp only [maxLen]; omega
  have hm2 : (tk.length + 1) * 32 ≤ 140737488355328 := by omega
  have hm3 : (tk ++ [(⟨f, t, p⟩ : Et)]).length + dr.length ≤ maxLen := by simp [maxLen]; omega
  have hm4 : ((tk ++ [(⟨f, t, p⟩ : Et)]).length + dr.length) * 32 ≤ 140737488355328 := by simp; omega
  have hnn : some w.heap.size ≠ (none : Option Nat) := fun h => by cases h
  have hnk : ∀ k, (none : Option Nat) = some k → w1.heap.size ≤ k := fun k h => by cases h
  have hne0 : ∀ (v : Value) (W : World), W.ownsRow w1.heap.size 41 3 v (tk ++ [(⟨f, t, p⟩ : Et)]).length (encE.all (tk ++ [⟨f, t, p⟩])) → some w.heap.size ≠ v.ownBlock := fun v W h e => by have := (h.lt _ e.symm).1; omega
  have hnr : ∀ (v : Value) (W : World), W.ownsRow w1.heap.size 41 3 v (tk ++ [(⟨f, t, p⟩ : Et)]).length (encE.all (tk ++ [⟨f, t, p⟩])) → ∀ k, v.ownBlock = some k → w1.heap.size ≤ k := fun v W h k e => (h.lt _ e).1
  have Hhm1 := Lib.hid hm1
  have Hhm2 := Lib.hid hm2
  have Hhm3 := Lib.hid hm3
  have Hhm4 := Lib.hid hm4
  have Hhnn := Lib.hid hnn
  have Hhnk := Lib.hid hnk
  have Hhne0 := Lib.hid hne0
  have Hhnr := Lib.hid hnr
  have HD0 := Lib.hid d0
  have HD1 := Lib.hid d1
  have HD2 := Lib.hid d2
  clear hm1 hm2 hm3 hm4 hnn hnk hne0 hnr d0 d1 d2
  go_wp2_with fail
  go_region_held3 (fun wx => wx.cell? ⟨w.heap.size, 0, none⟩ = some (.int .i64 f) ∧ wx.cell? ⟨w.heap.size, 1, none⟩ = some (.int .i64 t) ∧ wx.cell? ⟨w.heap.size, 2, none⟩ = some (.string p)) (((refine ⟨?_, ?_, ?_⟩); all_goals (repeat (first | (with_reducible exact c0) | (with_reducible exact c1) | (with_reducible exact c2) | (with_reducible exact q0) | (with_reducible exact q1) | (with_reducible exact q2) | (with_reducible exact r0) | (with_reducible exact r1) | (with_reducible exact r2) | (with_reducible refine drew_cell ?_) | (with_reducible refine at_alloc ?_)))))
    (((first | (refine step_append_full tyE rfl (.tmp 16) (.tmp 18) rfl va tk rfl (HFa.out.below HB1.out) w1.heap.size 1 [⟨f, t, p⟩] rfl (by decide) rfl (HOne.out w1) Hhm1.out Hhm2.out ?_; intro v1 w2 hown1 hg1; have q0 := hg1.cell HD0.out Hhnn.out; have q1 := hg1.cell HD1.out Hhnn.out; have q2 := hg1.cell HD2.out Hhnn.out; have HO1 := Lib.hid (own_base hown1 HB1.out.size); have HB2 := Lib.hid (own_grown HB1.out hg1 Hhnk.out HB1.out.size); clear hg1 hown1) | (refine step_append_all tyE rfl (.tmp 19) (.tmp 22) rfl w1.heap.size v1 (tk ++ [(⟨f, t, p⟩ : Et)]) rfl HO1.out vb dr rfl (HRb.out.below HB2.out) Hhm3.out Hhm4.out HB2.out.size ?_; intro v2 w3 hown2 hg2; have hne := Hhne0.out v1 w2 HO1.out; have r0 := hg2.cell q0 hne; have r1 := hg2.cell q1 hne; have r2 := hg2.cell q2 hne; have HO2 := Lib.hid hown2; have HB3 := Lib.hid (own_grown HB2.out hg2 (Hhnr.out v1 w2 HO1.out) HB2.out.size); clear hg2 hown2))))
  clear c0 c1 c2 q0 q1 q2 r0 r1 r2 HD0 HD1 HD2
  have HFin := Lib.hid (show w3.ownsRow w.heap.size 41 3 v2 (insT ⟨f, t, p⟩ l).length (encE.all (insT ⟨f, t, p⟩ l)) from by rw [HI.out]; exact own_base HO2.out (Nat.le_of_lt hw1))
  go_wp2
  go_ret
  exact ⟨v2, rfl, HFin.out, HBw.out.trans (HB3.out.mono HBw.out.size)⟩
end Go.Proofs.Ytomihekgcnilhaa

/- The walk of correctorlaw6.ScanOne: each of 28 texts is one token of its kind. -/
import Derived.Test.YtapkejdjbmdebaaDoorAid6
import Derived.Laws.StructEq
namespace Go.Proofs.YtapkejdjbmdebaaDoor
open Go.RowKit
open Go.Proofs.YtapkejdjbmdebaaDoor.Sg
open Go.Proofs.YtapkejdjbmdebaaDoor.Sq
set_option linter.unusedVariables false

/-- The texts and the kinds. -/
def ones : List (List UInt8 × Nat) := [([10], 1), ([13, 10], 1), ([32, 32], 2), ([9, 32], 3), ([35, 32, 97, 32, 98], 4), ([45], 5), ([58], 6), ([91], 8), ([125], 11), ([38, 97, 45, 49], 12), ([42, 98, 95, 50], 13), ([33, 33, 105, 110, 116], 14), ([112, 108, 97, 105, 110, 32, 116, 101, 120, 116], 15), ([39, 105, 116, 39, 39, 115, 39], 16), ([34, 97, 92, 34, 98, 34], 17), ([124], 18), ([62, 43], 18), ([45, 45, 45], 20), ([46, 46, 46], 21), ([45, 49], 15), ([97, 58, 98], 15), ([97, 35, 98], 15), ([39, 111, 112, 101, 110], 16), ([34, 111, 112, 101, 110], 17), ([120, 44, 32, 121], 15), ([45, 45], 15), ([33], 14), ([195, 169], 15)]
def oneOk (p : List UInt8 × Nat) : Bool := decide (p.1.length ≤ 20) && (Sc.tokens (p.1.map (·.toNat)) == [(p.2, 0, p.1.length)])
theorem all_one : ∀ k : Fin 28, ((ones[k.val]?).map oneOk) = some true := by decide +kernel
abbrev oneL : List Value := [.string ⟨#[10]⟩, .string ⟨#[13, 10]⟩, .string ⟨#[32, 32]⟩, .string ⟨#[9, 32]⟩, .string ⟨#[35, 32, 97, 32, 98]⟩, .string ⟨#[45]⟩, .string ⟨#[58]⟩, .string ⟨#[91]⟩, .string ⟨#[125]⟩, .string ⟨#[38, 97, 45, 49]⟩, .string ⟨#[42, 98, 95, 50]⟩, .string ⟨#[33, 33, 105, 110, 116]⟩, .string ⟨#[112, 108, 97, 105, 110, 32, 116, 101, 120, 116]⟩, .string ⟨#[39, 105, 116, 39, 39, 115, 39]⟩, .string ⟨#[34, 97, 92, 34, 98, 34]⟩, .string ⟨#[124]⟩, .string ⟨#[62, 43]⟩, .string ⟨#[45, 45, 45]⟩, .string ⟨#[46, 46, 46]⟩, .string ⟨#[45, 49]⟩, .string ⟨#[97, 58, 98]⟩, .string ⟨#[97, 35, 98]⟩, .string ⟨#[39, 111, 112, 101, 110]⟩, .string ⟨#[34, 111, 112, 101, 110]⟩, .string ⟨#[120, 44, 32, 121]⟩, .string ⟨#[45, 45]⟩, .string ⟨#[33]⟩, .string ⟨#[195, 169]⟩]
abbrev oneK : List Value := [.int .i64 1, .int .i64 1, .int .i64 2, .int .i64 3, .int .i64 4, .int .i64 5, .int .i64 6, .int .i64 8, .int .i64 11, .int .i64 12, .int .i64 13, .int .i64 14, .int .i64 15, .int .i64 16, .int .i64 17, .int .i64 18, .int .i64 18, .int .i64 20, .int .i64 21, .int .i64 15, .int .i64 15, .int .i64 15, .int .i64 16, .int .i64 17, .int .i64 15, .int .i64 15, .int .i64 14, .int .i64 15]
theorem oneL_eq : oneL = ones.map fun p => .string ⟨p.1.toArray⟩ := rfl
theorem oneK_eq : oneK = ones.map fun p => .int .i64 (p.2 : Nat) := rfl
theorem one_at (k : Nat) (hk : k < 28) : ∃ (X : ByteArray) (K : Nat), X.size ≤ 20 ∧ Sc.tokens (Sc.nats X) = [(K, 0, X.size)] ∧ oneL[k]? = some (.string X) ∧ oneK[k]? = some (.int .i64 K) := by
  have h := all_one ⟨k, hk⟩
  simp only at h
  cases hp : ones[k]? with
  | none => rw [hp] at h; cases h
  | some p =>
    rw [hp, Option.map_some] at h
    injection h with h
    simp only [oneOk, Bool.and_eq_true, decide_eq_true_eq, beq_iff_eq] at h
    refine ⟨⟨p.1.toArray⟩, p.2, by show p.1.toArray.size ≤ 20; simp [h.1], ?_, ?_, ?_⟩
    · show Sc.tokens (p.1.map (·.toNat)) = [(p.2, 0, p.1.toArray.size)]
      rw [h.2]; simp
    · rw [oneL_eq, List.getElem?_map, hp]; rfl
    · rw [oneK_eq, List.getElem?_map, hp]; rfl
theorem guard_tok : Tryd.prog.eqGuardType Tryd.prog.depth 32 = false := by kernel_rfl
theorem eql_tok (a b c : Int) (w : World) : (binOp .eql 32 (.agg #[.int .i64 a, .int .i64 b, .int .i64 c]) (.agg #[.int .i64 a, .int .i64 b, .int .i64 c])).run Tryd.prog w = .ok (.bool true) w := by
  have u3 := Tryd.underlying3
  have hS : Tryd.prog.underlying 32 = some (.struct (Tryd.prog.fieldsOf 32)) := by kernel_rfl
  have hp : Tryd.prog.stoodInHeld 32 = false := by kernel_rfl
  rw [run_eql_struct, show (10000 : Nat) = 9999 + 1 from rfl, run_equalIn_agg w 9999 32 _ _ hS hp]
  simp only [Program.fieldsOf, Tryd.underlying32]
  go_simp
set_option maxHeartbeats 4000000 in
set_option maxRecDepth 100000 in
theorem walk_ScanOne (a : Int) (w : World) (_ : (Lit.int .i64 a).wf = true) (hT : Tabs w) :
    Calls Tryd.prog 5 #[.int .i64 a] w fun e w' => e = .returned (.bool true) ∧ Below w.heap.size w w' := by
  obtain ⟨k, hk, hwi⟩ := within_nat a 28 (by decide) (by decide)
  obtain ⟨X, K, hz, htk, h5, h6⟩ := one_at k hk
  have hkI : (k : Int) < 28 := by omega
  have hk0 : (0 : Int) ≤ (k : Int) := by omega
  have hzI : ((X.size : Nat) : Int) ≤ 20 := by omega
  have HK := Lib.hid (known_true w hT)
  have HT := Lib.hid hT
  have HW := Lib.hid hwi
  have H5 := Lib.hid h5
  have H6 := Lib.hid h6
  have HX := Lib.hid htk
  clear hT h5 h6 hwi htk
  go_enter Tryd.func5, Tryd.ntmps5
  go_wp2_with fail
  refine HK.out.mono ?_
  rintro e w1 ⟨rfl, hb⟩
  go_wp2_with fail
  refine (HW.out _).mono ?_
  rintro e w2 ⟨rfl, rfl⟩
  obtain ⟨tc, htc⟩ : ∃ tc, tc = w1.heap.size := ⟨_, rfl⟩
  obtain ⟨td, htd⟩ : ∃ td, td = w1.heap.size + 1 := ⟨_, rfl⟩
  obtain ⟨V, hV⟩ : ∃ V, V = w1.alloc (.cells #[.string ⟨#[10]⟩, .string ⟨#[13, 10]⟩, .string ⟨#[32, 32]⟩, .string ⟨#[9, 32]⟩, .string ⟨#[35, 32, 97, 32, 98]⟩, .string ⟨#[45]⟩, .string ⟨#[58]⟩, .string ⟨#[91]⟩, .string ⟨#[125]⟩, .string ⟨#[38, 97, 45, 49]⟩, .string ⟨#[42, 98, 95, 50]⟩, .string ⟨#[33, 33, 105, 110, 116]⟩, .string ⟨#[112, 108, 97, 105, 110, 32, 116, 101, 120, 116]⟩, .string ⟨#[39, 105, 116, 39, 39, 115, 39]⟩, .string ⟨#[34, 97, 92, 34, 98, 34]⟩, .string ⟨#[124]⟩, .string ⟨#[62, 43]⟩, .string ⟨#[45, 45, 45]⟩, .string ⟨#[46, 46, 46]⟩, .string ⟨#[45, 49]⟩, .string ⟨#[97, 58, 98]⟩, .string ⟨#[97, 35, 98]⟩, .string ⟨#[39, 111, 112, 101, 110]⟩, .string ⟨#[34, 111, 112, 101, 110]⟩, .string ⟨#[120, 44, 32, 121]⟩, .string ⟨#[45, 45]⟩, .string ⟨#[33]⟩, .string ⟨#[195, 169]⟩] 9) := ⟨_, rfl⟩
  have hVs : V.heap.size = td := by rw [hV, htd]; exact Array.size_push ..
  have hbV := hV ▸ hb.alloc hb.size (.cells #[.string ⟨#[10]⟩, .string ⟨#[13, 10]⟩, .string ⟨#[32, 32]⟩, .string ⟨#[9, 32]⟩, .string ⟨#[35, 32, 97, 32, 98]⟩, .string ⟨#[45]⟩, .string ⟨#[58]⟩, .string ⟨#[91]⟩, .string ⟨#[125]⟩, .string ⟨#[38, 97, 45, 49]⟩, .string ⟨#[42, 98, 95, 50]⟩, .string ⟨#[33, 33, 105, 110, 116]⟩, .string ⟨#[112, 108, 97, 105, 110, 32, 116, 101, 120, 116]⟩, .string ⟨#[39, 105, 116, 39, 39, 115, 39]⟩, .string ⟨#[34, 97, 92, 34, 98, 34]⟩, .string ⟨#[124]⟩, .string ⟨#[62, 43]⟩, .string ⟨#[45, 45, 45]⟩, .string ⟨#[46, 46, 46]⟩, .string ⟨#[45, 49]⟩, .string ⟨#[97, 58, 98]⟩, .string ⟨#[97, 35, 98]⟩, .string ⟨#[39, 111, 112, 101, 110]⟩, .string ⟨#[34, 111, 112, 101, 110]⟩, .string ⟨#[120, 44, 32, 121]⟩, .string ⟨#[45, 45]⟩, .string ⟨#[33]⟩, .string ⟨#[195, 169]⟩] 9)
  have c0 : V.cell? ⟨tc, k, none⟩ = some (.string X) := by rw [hV, htc, World.cell?_alloc_new]; show (oneL.toArray)[k]? = _; rw [List.getElem?_toArray]; exact H5.out
  rw [← htd, ← htc, ← hV]
  obtain ⟨W, hW⟩ : ∃ W, W = V.alloc (.cells #[.int .i64 1, .int .i64 1, .int .i64 2, .int .i64 3, .int .i64 4, .int .i64 5, .int .i64 6, .int .i64 8, .int .i64 11, .int .i64 12, .int .i64 13, .int .i64 14, .int .i64 15, .int .i64 16, .int .i64 17, .int .i64 18, .int .i64 18, .int .i64 20, .int .i64 21, .int .i64 15, .int .i64 15, .int .i64 15, .int .i64 16, .int .i64 17, .int .i64 15, .int .i64 15, .int .i64 14, .int .i64 15] 3) := ⟨_, rfl⟩
  have c1 : W.cell? ⟨td, k, none⟩ = some (.int .i64 K) := by rw [hW, ← hVs, World.cell?_alloc_new]; show (oneK.toArray)[k]? = _; rw [List.getElem?_toArray]; exact H6.out
  have c0 : W.cell? ⟨tc, k, none⟩ = some (.string X) := by rw [hW]; exact at_alloc c0
  have HBW := Lib.hid (show Below w.heap.size w W from by rw [hW]; exact hbV.alloc hbV.size _)
  rw [← hW]
  obtain ⟨cap, w3, hcv, hrow, hb3⟩ := conv_str X W (by unfold maxLen; omega)
  have hTk := pTokens _ _ _ hrow.bys ((HT.out.below HBW.out).below hb3)
  have HTk := Lib.hid hTk
  have HB3 := Lib.hid (HBW.out.trans (hb3.mono HBW.out.size))
  have b0 := at_below hb3 c0
  have b1 := at_below hb3 c1
  clear hW hVs hbV hV htc htd hb hTk hrow hb3 c1
  go_wp2_with fail
  refine HTk.out.mono ?_
  intro e w4 hg
  obtain ⟨ta, tcap, rfl, hRd, hb4⟩ := hg.read
  have HB4 := Lib.hid (HB3.out.trans (hb4.mono HB3.out.size))
  rw [HX.out] at hRd ⊢
  obtain ⟨tb, off, rfl, hat⟩ := reads_all hRd (by simp)
  obtain ⟨a0, a1, a2⟩ := hat 0 _ rfl
  have a0 : w4.cell? ⟨tb, off, none⟩ = some (.int .i64 K) := a0
  have a1 : w4.cell? ⟨tb, off + 1, none⟩ = some (.int .i64 0) := a1
  have a2 : w4.cell? ⟨tb, off + 2, none⟩ = some (.int .i64 X.size) := a2
  have e0 := at_below hb4 b0
  have e1 := at_below hb4 b1
  simp only [List.length_cons, List.length_nil]
  clear hRd hg hb4 HTk hcv hat b0 b1 c0
  have hq := eql_tok K 0 X.size
  have hg := guard_tok
  go_wp2_with fail
  go_big_quiet (fail)
  have HBq := Lib.hid (below_drewN HB4.out nq)
  go_wp2_with fail
  go_ret
  exact ⟨rfl, HBq.out⟩
end Go.Proofs.YtapkejdjbmdebaaDoor

/- The scanner's readRow: a row with its break is put behind the tokens. (Region 0 by tools/gen_pqd.py.) -/
import Derived.Test.YtapkejdjbmdebaaDoorPqb
import Derived.Test.YtapkejdjbmdebaaDoorPqc
import Derived.Test.YtapkejdjbmdebaaDoorSo
import Derived.Test.YtapkejdjbmdebaaDoorQt
namespace Go.Proofs.YtapkejdjbmdebaaDoor
open Go.RowKit
open Go.Proofs.YtapkejdjbmdebaaDoor.Sg
open Go.Proofs.YtapkejdjbmdebaaDoor.Sq
set_option linter.unusedVariables false

/-- The tables stay where only higher blocks turn. -/
theorem Tabs.low {w w' : World} {b : Nat} (h : Tabs w) (hb : Below b w w') (h1 : 1 < b) (h2 : 2 < b) : Tabs w' := by
  refine ⟨fun c hc => ?_, fun i hi => ⟨?_, ?_⟩⟩
  · rw [hb.cell (p := ⟨1, c, none⟩) h1]; exact h.1 c hc
  · rw [hb.cell (p := ⟨2, 2 * i, none⟩) h2]; exact (h.2 i hi).1
  · rw [hb.cell (p := ⟨2, 2 * i + 1, none⟩) h2]; exact (h.2 i hi).2
/-- What is so behind a row. -/
def RowDone (b : Nat) (s : ByteArray) (Tot : List Tk) (p : Nat) (w w' : World) : Prop :=
  ∃ (v' : Value) (l' : List Tk) (p' row' en' op' : Nat) (base' least' : Int) (dash' : Bool), Mem w' b s v' p' row' en' op' base' least' dash' ∧ Row w' b v' l' ∧ Sc.GoodR (Sc.nats s) Tot l' op' least' p' ∧ p < p' ∧ p' ≤ s.size ∧ Below b w w'
set_option maxHeartbeats 8000000 in
set_option maxRecDepth 100000 in
theorem pReadRow (b : Nat) (s : ByteArray) (v : Value) (p row0 en0 op : Nat) (base0 least : Int) (dash0 : Bool) (l Tot : List Tk) (w : World) (hM : Mem w b s v p row0 en0 op base0 least dash0) (hO : Row w b v l) (hT : Tabs w) (hg1 : 1 < b) (hg2 : 2 < b) (hs : s.size ≤ 16384) (hp : p < s.size) (hG : Sc.GoodR (Sc.nats s) Tot l op least p) :
    Calls Tryd.prog 18 #[.pointer (some ⟨b, 0, none⟩)] w fun e w' => e = .returned (.tuple #[]) ∧ RowDone b s Tot p w w' := by
  obtain ⟨c0, c1, c2, c3, c4, c5, c6, c7, c8⟩ := hM.c
  have hln := Sc.nats_len s
  obtain ⟨tx, htx⟩ : ∃ tx, s.extract p s.size = tx := ⟨_, rfl⟩
  have hnt : Sc.nats tx = (Sc.nats s).drop p := by rw [← htx, Sc.nats_tail]
  have hrs := fun W => pRowSize tx W (by rw [← htx, ByteArray.size_extract]; omega)
  rw [hnt] at hrs
  have hrle := Sc.rowN_le ((Sc.nats s).drop p)
  rw [Sc.drop_len] at hrle
  obtain ⟨rn, hrn⟩ : ∃ rn, Sc.rowN ((Sc.nats s).drop p) = rn := ⟨_, rfl⟩
  rw [hrn] at hrs hrle
  obtain ⟨E, hE⟩ : ∃ E, p + rn = E := ⟨_, rfl⟩
  have e1 : (p : Int) + (rn : Int) = (E : Int) := by omega
  have w1 : IntKind.i64.wrap (E : Int) = (E : Int) := IntWalk.i64_in _ (by omega)
  have i1 : (p : Int) ≤ (s.size : Int) := by omega
  have i0 : (0 : Int) ≤ (p : Int) := by omega
  have hEs : E ≤ s.size := by omega
  have HRs := Lib.hid hrs
  have HM := Lib.hid hM
  have HO := Lib.hid hO
  have HT := Lib.hid hT
  have HG := Lib.hid hG
  have HRn := Lib.hid hrn
  have HE := Lib.hid hE
  have HLt := Lib.hid hM.lt
  clear hM hO hT hG hrs hrn hE hnt c1 c3 c4 c5 c6 c7 c8 hrle
  go_enter Tryd.func18, Tryd.ntmps18
  go_wp2_with fail
  refine wp_region_held_drew (S := fun wx => wx.cell? ⟨b, 0, none⟩ = some (.string s) ∧ wx.cell? ⟨b, 2, none⟩ = some (.int .i64 p)) (by kernel_rfl) (⟨c0, c2⟩) (fun hH => ?_)
  refine wpAnyH_take (i := 0) (oi := { dst := some 3, op := Op.move (Operand.tmp 0), type := 48, pos := _, after := #[], guard := none }) (v := .pointer (some ⟨b, 0, none⟩)) rfl (by kernel_rfl) (by kernel_rfl) (by kernel_rfl) (fun _ _ _ h => h) (Or.inl ⟨rfl, fun W hW => ?_⟩) hH ?_
  · go_simp
  try simp only [Act.put, List.setIfInBounds_toArray, List.set_cons_zero, List.set_cons_succ]
  refine wpAnyH_take (i := 1) (oi := { dst := some 4, op := Op.move (Operand.tmp 0), type := 48, pos := _, after := #[{ on := 23, ground := Ground.gcOnly Departure.lateStores }], guard := none }) (v := .pointer (some ⟨b, 0, none⟩)) rfl (by kernel_rfl) (by kernel_rfl) (by kernel_rfl) (fun _ _ _ h => h) (Or.inl ⟨rfl, fun W hW => ?_⟩) hH ?_
  · go_simp
  try simp only [Act.put, List.setIfInBounds_toArray, List.set_cons_zero, List.set_cons_succ]
  refine wpAnyH_take (i := 2) (oi := { dst := some 5, op := Op.move (Operand.tmp 0), type := 48, pos := _, after := #[], guard := none }) (v := .pointer (some ⟨b, 0, none⟩)) rfl (by kernel_rfl) (by kernel_rfl) (by kernel_rfl) (fun _ _ _ h => h) (Or.inl ⟨rfl, fun W hW => ?_⟩) hH ?_
  · go_simp
  try simp only [Act.put, List.setIfInBounds_toArray, List.set_cons_zero, List.set_cons_succ]
  refine wpAnyH_take (i := 3) (oi := { dst := some 6, op := Op.nilCheck (Operand.tmp 5), type := 0, pos := _, after := #[{ on := 2, ground := Ground.data }], guard := none }) (v := .pointer (some ⟨b, 0, none⟩)) rfl (by kernel_rfl) (by kernel_rfl) (by kernel_rfl) (fun _ _ _ h => h) (Or.inl ⟨rfl, fun W hW => ?_⟩) hH ?_
  · go_simp
  try simp only [Act.put, List.setIfInBounds_toArray, List.set_cons_zero, List.set_cons_succ]
  refine wpAnyH_take (i := 4) (oi := { dst := some 7, op := Op.fieldAddr 42 (Operand.tmp 6) 2, type := 0, pos := _, after := #[{ on := 3, ground := Ground.data }], guard := none }) (v := .pointer (some ⟨b, 2, none⟩)) rfl (by kernel_rfl) (by kernel_rfl) (by kernel_rfl) (fun _ _ _ h => h) (Or.inl ⟨rfl, fun W hW => ?_⟩) hH ?_
  · go_simp
  try simp only [Act.put, List.setIfInBounds_toArray, List.set_cons_zero, List.set_cons_succ]
  refine wpAnyH_take (i := 5) (oi := { dst := some 8, op := Op.load 3 (Operand.tmp 7), type := 3, pos := _, after := #[{ on := 4, ground := Ground.data }], guard := none }) (v := .int .i64 p) rfl (by kernel_rfl) (by kernel_rfl) (by kernel_rfl) (fun _ _ _ h => h) (Or.inl ⟨rfl, fun W hW => ?_⟩) hH ?_
  · obtain ⟨z0, z2⟩ := hW; go_simp
  try simp only [Act.put, List.setIfInBounds_toArray, List.set_cons_zero, List.set_cons_succ]
  refine wpAnyH_take (i := 6) (oi := { dst := some 9, op := Op.move (Operand.tmp 0), type := 48, pos := _, after := #[], guard := none }) (v := .pointer (some ⟨b, 0, none⟩)) rfl (by kernel_rfl) (by kernel_rfl) (by kernel_rfl) (fun _ _ _ h => h) (Or.inl ⟨rfl, fun W hW => ?_⟩) hH ?_
  · go_simp
  try simp only [Act.put, List.setIfInBounds_toArray, List.set_cons_zero, List.set_cons_succ]
  refine wpAnyH_take (i := 7) (oi := { dst := some 10, op := Op.nilCheck (Operand.tmp 9), type := 0, pos := _, after := #[{ on := 6, ground := Ground.data }], guard := none }) (v := .pointer (some ⟨b, 0, none⟩)) rfl (by kernel_rfl) (by kernel_rfl) (by kernel_rfl) (fun _ _ _ h => h) (Or.inl ⟨rfl, fun W hW => ?_⟩) hH ?_
  · go_simp
  try simp only [Act.put, List.setIfInBounds_toArray, List.set_cons_zero, List.set_cons_succ]
  refine wpAnyH_take (i := 8) (oi := { dst := some 11, op := Op.fieldAddr 42 (Operand.tmp 10) 2, type := 0, pos := _, after := #[{ on := 7, ground := Ground.data }], guard := none }) (v := .pointer (some ⟨b, 2, none⟩)) rfl (by kernel_rfl) (by kernel_rfl) (by kernel_rfl) (fun _ _ _ h => h) (Or.inl ⟨rfl, fun W hW => ?_⟩) hH ?_
  · go_simp
  try simp only [Act.put, List.setIfInBounds_toArray, List.set_cons_zero, List.set_cons_succ]
  refine wpAnyH_take (i := 9) (oi := { dst := some 12, op := Op.load 3 (Operand.tmp 11), type := 3, pos := _, after := #[{ on := 8, ground := Ground.data }], guard := none }) (v := .int .i64 p) rfl (by kernel_rfl) (by kernel_rfl) (by kernel_rfl) (fun _ _ _ h => h) (Or.inl ⟨rfl, fun W hW => ?_⟩) hH ?_
  · obtain ⟨z0, z2⟩ := hW; go_simp
  try simp only [Act.put, List.setIfInBounds_toArray, List.set_cons_zero, List.set_cons_succ]
  refine wpAnyH_take (i := 10) (oi := { dst := some 13, op := Op.move (Operand.tmp 0), type := 48, pos := _, after := #[], guard := none }) (v := .pointer (some ⟨b, 0, none⟩)) rfl (by kernel_rfl) (by kernel_rfl) (by kernel_rfl) (fun _ _ _ h => h) (Or.inl ⟨rfl, fun W hW => ?_⟩) hH ?_
  · go_simp
  try simp only [Act.put, List.setIfInBounds_toArray, List.set_cons_zero, List.set_cons_succ]
  refine wpAnyH_take (i := 11) (oi := { dst := some 14, op := Op.nilCheck (Operand.tmp 13), type := 0, pos := _, after := #[{ on := 10, ground := Ground.data }], guard := none }) (v := .pointer (some ⟨b, 0, none⟩)) rfl (by kernel_rfl) (by kernel_rfl) (by kernel_rfl) (fun _ _ _ h => h) (Or.inl ⟨rfl, fun W hW => ?_⟩) hH ?_
  · go_simp
  try simp only [Act.put, List.setIfInBounds_toArray, List.set_cons_zero, List.set_cons_succ]
  refine wpAnyH_take (i := 12) (oi := { dst := some 15, op := Op.fieldAddr 42 (Operand.tmp 14) 0, type := 0, pos := _, after := #[{ on := 11, ground := Ground.data }], guard := none }) (v := .pointer (some ⟨b, 0, none⟩)) rfl (by kernel_rfl) (by kernel_rfl) (by kernel_rfl) (fun _ _ _ h => h) (Or.inl ⟨rfl, fun W hW => ?_⟩) hH ?_
  · go_simp
  try simp only [Act.put, List.setIfInBounds_toArray, List.set_cons_zero, List.set_cons_succ]
  refine wpAnyH_take (i := 13) (oi := { dst := some 16, op := Op.load 9 (Operand.tmp 15), type := 9, pos := _, after := #[{ on := 12, ground := Ground.data }], guard := none }) (v := .string s) rfl (by kernel_rfl) (by kernel_rfl) (by kernel_rfl) (fun _ _ _ h => h) (Or.inl ⟨rfl, fun W hW => ?_⟩) hH ?_
  · obtain ⟨z0, z2⟩ := hW; go_simp
  try simp only [Act.put, List.setIfInBounds_toArray, List.set_cons_zero, List.set_cons_succ]
  refine wpAnyH_take (i := 14) (oi := { dst := some 17, op := Op.move (Operand.tmp 0), type := 48, pos := _, after := #[], guard := none }) (v := .pointer (some ⟨b, 0, none⟩)) rfl (by kernel_rfl) (by kernel_rfl) (by kernel_rfl) (fun _ _ _ h => h) (Or.inl ⟨rfl, fun W hW => ?_⟩) hH ?_
  · go_simp
  try simp only [Act.put, List.setIfInBounds_toArray, List.set_cons_zero, List.set_cons_succ]
  refine wpAnyH_take (i := 15) (oi := { dst := some 18, op := Op.nilCheck (Operand.tmp 17), type := 0, pos := _, after := #[{ on := 14, ground := Ground.data }], guard := none }) (v := .pointer (some ⟨b, 0, none⟩)) rfl (by kernel_rfl) (by kernel_rfl) (by kernel_rfl) (fun _ _ _ h => h) (Or.inl ⟨rfl, fun W hW => ?_⟩) hH ?_
  · go_simp
  try simp only [Act.put, List.setIfInBounds_toArray, List.set_cons_zero, List.set_cons_succ]
  refine wpAnyH_take (i := 16) (oi := { dst := some 19, op := Op.fieldAddr 42 (Operand.tmp 18) 2, type := 0, pos := _, after := #[{ on := 15, ground := Ground.data }], guard := none }) (v := .pointer (some ⟨b, 2, none⟩)) rfl (by kernel_rfl) (by kernel_rfl) (by kernel_rfl) (fun _ _ _ h => h) (Or.inl ⟨rfl, fun W hW => ?_⟩) hH ?_
  · go_simp
  try simp only [Act.put, List.setIfInBounds_toArray, List.set_cons_zero, List.set_cons_succ]
  refine wpAnyH_take (i := 17) (oi := { dst := some 20, op := Op.load 3 (Operand.tmp 19), type := 3, pos := _, after := #[{ on := 16, ground := Ground.data }], guard := none }) (v := .int .i64 p) rfl (by kernel_rfl) (by kernel_rfl) (by kernel_rfl) (fun _ _ _ h => h) (Or.inl ⟨rfl, fun W hW => ?_⟩) hH ?_
  · obtain ⟨z0, z2⟩ := hW; go_simp
  try simp only [Act.put, List.setIfInBounds_toArray, List.set_cons_zero, List.set_cons_succ]
  refine wpAnyH_take (i := 18) (oi := { dst := some 21, op := Op.slice 9 (Operand.tmp 16) (some (Operand.tmp 20)) none none, type := 9, pos := _, after := #[{ on := 13, ground := Ground.data }, { on := 17, ground := Ground.data }], guard := none }) (v := .string tx) rfl (by kernel_rfl) (by kernel_rfl) (by kernel_rfl) (fun _ _ _ h => h) (Or.inl ⟨rfl, fun W hW => ?_⟩) hH ?_
  · go_simp
  try simp only [Act.put, List.setIfInBounds_toArray, List.set_cons_zero, List.set_cons_succ]
  refine wpAnyH_ready (rs := [19]) (by kernel_rfl) (by simp) ?_
  refine AllReadyH.cons (o := { dst := some 22, op := Op.call { callee := Callee.value (Operand.func 25), args := #[Operand.tmp 21], argTypes := #[9] }, type := 3, pos := _, after := #[{ on := 18, ground := Ground.data }], guard := none }) rfl (fun K hK => ?_) AllReadyH.nil
  go_simp
  refine (HRs.out _).mono ?_
  rintro e w2 ⟨rfl, hb2⟩
  have M2 := HM.out.below ((Below.refl w.heap.size w).drew.trans (hb2.mono (Nat.le_refl _)))
  have d0 := M2.c.1
  have d2 := M2.c.2.2.1
  have d3 := M2.c.2.2.2.1
  have f3 := M2.f 3
  have HM2 := Lib.hid M2
  clear M2
  go_simp
  refine hK.out _ _ (⟨d0, d2⟩) (fun hH2 => ?_)
  clear hK K
  try simp only [Act.put, List.setIfInBounds_toArray, List.set_cons_zero, List.set_cons_succ]
  refine wpAnyH_take (i := 20) (oi := { dst := some 23, op := Op.binOp BinOp.add 3 (Operand.tmp 12) (Operand.tmp 22) 3, type := 3, pos := _, after := #[{ on := 9, ground := Ground.data }, { on := 19, ground := Ground.data }], guard := none }) (v := .int .i64 E) rfl (by kernel_rfl) (by kernel_rfl) (by kernel_rfl) (fun _ _ _ h => h) (Or.inl ⟨rfl, fun W hW => ?_⟩) hH2 ?_
  · go_simp
  try simp only [Act.put, List.setIfInBounds_toArray, List.set_cons_zero, List.set_cons_succ]
  refine wpAnyH_take (i := 21) (oi := { dst := some 24, op := Op.nilCheck (Operand.tmp 3), type := 0, pos := _, after := #[{ on := 0, ground := Ground.data }, { on := 0, ground := Ground.phase }, { on := 1, ground := Ground.textOnly Departure.lateStores }, { on := 2, ground := Ground.phase }, { on := 3, ground := Ground.phase }, { on := 4, ground := Ground.phase }, { on := 5, ground := Ground.phase }, { on := 6, ground := Ground.textOnly Departure.lateStores }, { on := 7, ground := Ground.textOnly Departure.lateStoresUnsure }, { on := 8, ground := Ground.textOnly Departure.lateStoresUnsure }, { on := 9, ground := Ground.phase }, { on := 10, ground := Ground.textOnly Departure.lateStores }, { on := 11, ground := Ground.textOnly Departure.lateStoresUnsure }, { on := 12, ground := Ground.textOnly Departure.lateStoresUnsure }, { on := 13, ground := Ground.phase }, { on := 14, ground := Ground.textOnly Departure.lateStores }, { on := 15, ground := Ground.textOnly Departure.lateStoresUnsure }, { on := 16, ground := Ground.textOnly Departure.lateStoresUnsure }, { on := 17, ground := Ground.phase }, { on := 18, ground := Ground.textOnly Departure.lateStoresUnsure }, { on := 19, ground := Ground.phase }, { on := 20, ground := Ground.textOnly Departure.lateStoresUnsure }], guard := none }) (v := .pointer (some ⟨b, 0, none⟩)) rfl (by kernel_rfl) (by kernel_rfl) (by kernel_rfl) (fun _ _ _ h => h) (Or.inl ⟨rfl, fun W hW => ?_⟩) hH2 ?_
  · go_simp
  try simp only [Act.put, List.setIfInBounds_toArray, List.set_cons_zero, List.set_cons_succ]
  refine wpAnyH_take (i := 22) (oi := { dst := some 25, op := Op.fieldAddr 42 (Operand.tmp 24) 3, type := 0, pos := _, after := #[{ on := 21, ground := Ground.data }, { on := 0, ground := Ground.phase }, { on := 1, ground := Ground.textOnly Departure.lateStores }, { on := 2, ground := Ground.phase }, { on := 3, ground := Ground.phase }, { on := 4, ground := Ground.phase }, { on := 5, ground := Ground.phase }, { on := 6, ground := Ground.textOnly Departure.lateStores }, { on := 7, ground := Ground.textOnly Departure.lateStoresUnsure }, { on := 8, ground := Ground.textOnly Departure.lateStoresUnsure }, { on := 9, ground := Ground.phase }, { on := 10, ground := Ground.textOnly Departure.lateStores }, { on := 11, ground := Ground.textOnly Departure.lateStoresUnsure }, { on := 12, ground := Ground.textOnly Departure.lateStoresUnsure }, { on := 13, ground := Ground.phase }, { on := 14, ground := Ground.textOnly Departure.lateStores }, { on := 15, ground := Ground.textOnly Departure.lateStoresUnsure }, { on := 16, ground := Ground.textOnly Departure.lateStoresUnsure }, { on := 17, ground := Ground.phase }, { on := 18, ground := Ground.textOnly Departure.lateStoresUnsure }, { on := 19, ground := Ground.phase }, { on := 20, ground := Ground.textOnly Departure.lateStoresUnsure }], guard := none }) (v := .pointer (some ⟨b, 3, none⟩)) rfl (by kernel_rfl) (by kernel_rfl) (by kernel_rfl) (fun _ _ _ h => h) (Or.inl ⟨rfl, fun W hW => ?_⟩) hH2 ?_
  · go_simp
  try simp only [Act.put, List.setIfInBounds_toArray, List.set_cons_zero, List.set_cons_succ]
  refine wpAnyH_ready (rs := [23]) (by kernel_rfl) (by simp) ?_
  refine AllReadyH.cons (o := { dst := none, op := Op.store 3 (Operand.tmp 25) (Operand.tmp 8), type := 0, pos := _, after := #[{ on := 22, ground := Ground.data }, { on := 5, ground := Ground.data }, { on := 19, ground := Ground.chain }, { on := 0, ground := Ground.phase }, { on := 1, ground := Ground.textOnly Departure.lateStores }, { on := 2, ground := Ground.phase }, { on := 3, ground := Ground.phase }, { on := 4, ground := Ground.phase }, { on := 5, ground := Ground.phase }, { on := 6, ground := Ground.textOnly Departure.lateStores }, { on := 7, ground := Ground.textOnly Departure.lateStoresUnsure }, { on := 8, ground := Ground.textOnly Departure.lateStoresUnsure }, { on := 9, ground := Ground.phase }, { on := 10, ground := Ground.textOnly Departure.lateStores }, { on := 11, ground := Ground.textOnly Departure.lateStoresUnsure }, { on := 12, ground := Ground.textOnly Departure.lateStoresUnsure }, { on := 13, ground := Ground.phase }, { on := 14, ground := Ground.textOnly Departure.lateStores }, { on := 15, ground := Ground.textOnly Departure.lateStoresUnsure }, { on := 16, ground := Ground.textOnly Departure.lateStoresUnsure }, { on := 17, ground := Ground.phase }, { on := 18, ground := Ground.textOnly Departure.lateStoresUnsure }, { on := 19, ground := Ground.phase }, { on := 20, ground := Ground.textOnly Departure.lateStoresUnsure }], guard := none }) rfl (fun K hK => ?_) AllReadyH.nil
  go_simp
  refine hK.out _ _ (⟨at_off (o := 3) (by decide) d0, at_off (o := 3) (by decide) d2⟩) (fun hH2 => ?_)
  clear hK K
  try simp only [Act.put, List.setIfInBounds_toArray, List.set_cons_zero, List.set_cons_succ]
  have M3 := HM2.out.set3 p
  have g4 := M3.f 4
  have g44 := M3.c.2.2.2.2.1
  have HM3 := Lib.hid M3
  clear M3 d0 d2 d3 f3
  refine wpAnyH_take (i := 24) (oi := { dst := some 26, op := Op.nilCheck (Operand.tmp 4), type := 0, pos := _, after := #[{ on := 1, ground := Ground.data }, { on := 0, ground := Ground.phase }, { on := 1, ground := Ground.phase }, { on := 2, ground := Ground.phase }, { on := 3, ground := Ground.phase }, { on := 4, ground := Ground.phase }, { on := 5, ground := Ground.phase }, { on := 6, ground := Ground.phase }, { on := 7, ground := Ground.phase }, { on := 8, ground := Ground.phase }, { on := 9, ground := Ground.phase }, { on := 10, ground := Ground.phase }, { on := 11, ground := Ground.phase }, { on := 12, ground := Ground.phase }, { on := 13, ground := Ground.phase }, { on := 14, ground := Ground.phase }, { on := 15, ground := Ground.phase }, { on := 16, ground := Ground.phase }, { on := 17, ground := Ground.phase }, { on := 18, ground := Ground.phase }, { on := 19, ground := Ground.phase }, { on := 20, ground := Ground.phase }, { on := 21, ground := Ground.phase }, { on := 22, ground := Ground.phase }, { on := 23, ground := Ground.phase }], guard := none }) (v := .pointer (some ⟨b, 0, none⟩)) rfl (by kernel_rfl) (by kernel_rfl) (by kernel_rfl) (fun _ _ _ h => h) (Or.inl ⟨rfl, fun W hW => ?_⟩) hH2 ?_
  · go_simp
  try simp only [Act.put, List.setIfInBounds_toArray, List.set_cons_zero, List.set_cons_succ]
  refine wpAnyH_take (i := 25) (oi := { dst := some 27, op := Op.fieldAddr 42 (Operand.tmp 26) 4, type := 0, pos := _, after := #[{ on := 24, ground := Ground.data }, { on := 0, ground := Ground.phase }, { on := 1, ground := Ground.phase }, { on := 2, ground := Ground.phase }, { on := 3, ground := Ground.phase }, { on := 4, ground := Ground.phase }, { on := 5, ground := Ground.phase }, { on := 6, ground := Ground.phase }, { on := 7, ground := Ground.phase }, { on := 8, ground := Ground.phase }, { on := 9, ground := Ground.phase }, { on := 10, ground := Ground.phase }, { on := 11, ground := Ground.phase }, { on := 12, ground := Ground.phase }, { on := 13, ground := Ground.phase }, { on := 14, ground := Ground.phase }, { on := 15, ground := Ground.phase }, { on := 16, ground := Ground.phase }, { on := 17, ground := Ground.phase }, { on := 18, ground := Ground.phase }, { on := 19, ground := Ground.phase }, { on := 20, ground := Ground.phase }, { on := 21, ground := Ground.phase }, { on := 22, ground := Ground.phase }, { on := 23, ground := Ground.phase }], guard := none }) (v := .pointer (some ⟨b, 4, none⟩)) rfl (by kernel_rfl) (by kernel_rfl) (by kernel_rfl) (fun _ _ _ h => h) (Or.inl ⟨rfl, fun W hW => ?_⟩) hH2 ?_
  · go_simp
  try simp only [Act.put, List.setIfInBounds_toArray, List.set_cons_zero, List.set_cons_succ]
  refine wpAnyH_ready (rs := [26]) (by kernel_rfl) (by simp) ?_
  refine AllReadyH.cons (o := { dst := none, op := Op.store 3 (Operand.tmp 27) (Operand.tmp 23), type := 0, pos := _, after := #[{ on := 25, ground := Ground.data }, { on := 20, ground := Ground.data }, { on := 23, ground := Ground.chain }, { on := 0, ground := Ground.phase }, { on := 1, ground := Ground.phase }, { on := 2, ground := Ground.phase }, { on := 3, ground := Ground.phase }, { on := 4, ground := Ground.phase }, { on := 5, ground := Ground.phase }, { on := 6, ground := Ground.phase }, { on := 7, ground := Ground.phase }, { on := 8, ground := Ground.phase }, { on := 9, ground := Ground.phase }, { on := 10, ground := Ground.phase }, { on := 11, ground := Ground.phase }, { on := 12, ground := Ground.phase }, { on := 13, ground := Ground.phase }, { on := 14, ground := Ground.phase }, { on := 15, ground := Ground.phase }, { on := 16, ground := Ground.phase }, { on := 17, ground := Ground.phase }, { on := 18, ground := Ground.phase }, { on := 19, ground := Ground.phase }, { on := 20, ground := Ground.phase }, { on := 21, ground := Ground.phase }, { on := 22, ground := Ground.phase }, { on := 23, ground := Ground.phase }], guard := none }) rfl (fun K hK => ?_) AllReadyH.nil
  go_simp
  refine hK.out _ _ (⟨at_off (o := 4) (by decide) HM3.out.c.1, at_off (o := 4) (by decide) HM3.out.c.2.2.1⟩) (fun hH2 => ?_)
  clear hK K
  try simp only [Act.put, List.setIfInBounds_toArray, List.set_cons_zero, List.set_cons_succ]
  refine wpAnyH_done (by kernel_rfl) ?_ _
  have hlow : Below b w w2 := ((Below.refl w.heap.size w).drew.trans (hb2.mono (Nat.le_refl _))).mono (Nat.le_of_lt HLt.out)
  have HM4 := Lib.hid (HM3.out.set4 E)
  have HO4 := Lib.hid (row_set (row_set (show Row w2 b v l from own_below HO.out ((Below.refl w.heap.size w).drew.trans (hb2.mono (Nat.le_refl _)))) 3 (.int .i64 p)) 4 (.int .i64 E))
  have HB4 := Lib.hid (bel_set (bel_set hlow (Nat.le_refl b) 3 (.int .i64 p)) (Nat.le_refl b) 4 (.int .i64 E))
  clear hlow hb2 HM2 HM3 HO HM hH hH2 c0 c2 g4 g44
  generalize (w2.setCell ⟨b, 3, none⟩ (.int .i64 p)).setCell ⟨b, 4, none⟩ (.int .i64 E) = W4 at *
  obtain ⟨c0, c1, c2, c3, c4, c5, c6, c7, c8⟩ := HM4.out.c
  have f6 := HM4.out.f 6
  have f8 := HM4.out.f 8
  clear c0 c1 c2 c3 c4 c5 c7
  go_wp2_with fail
  have HM5 := Lib.hid ((HM4.out.set6 (-1)).set8 true)
  have HO5 := Lib.hid (row_set (row_set HO4.out 6 (.int .i64 (-1))) 8 (.bool true))
  have HB5 := Lib.hid (bel_set (bel_set HB4.out (Nat.le_refl b) 6 (.int .i64 (-1))) (Nat.le_refl b) 8 (.bool true))
  clear HM4 HO4 HB4 c6 c8 f6 f8
  generalize (W4.setCell ⟨b, 6, none⟩ (.int .i64 (-1))).setCell ⟨b, 8, none⟩ (.bool true) = W5 at *
  obtain ⟨tb, htb⟩ : ∃ tb, s.extract E s.size = tb := ⟨_, rfl⟩
  have hnb : Sc.nats tb = (Sc.nats s).drop E := by rw [← htb, Sc.nats_tail]
  obtain ⟨B, hB⟩ : ∃ B, Sc.brkS ((Sc.nats s).drop E) = B := ⟨_, rfl⟩
  have hBle := Sc.brkS_le ((Sc.nats s).drop E)
  rw [Sc.drop_len, hB] at hBle
  have HBk := Lib.hid (fun W => by have := pBreakSize tb W; rw [hnb, hB] at this; exact this)
  have HBv := Lib.hid hB
  have j1 : (E : Int) ≤ (s.size : Int) := by omega
  have j0 : (0 : Int) ≤ (E : Int) := by omega
  obtain ⟨c0, c1, c2, c3, c4, c5, c6, c7, c8⟩ := HM5.out.c
  clear c1 c2 c3 c5 c6 c7 c8 hnb hB htx
  go_big_quiet (exact (HBk.out _).mono fun _ _ h => ⟨h.1, _, h.2⟩)
  have hbq := below_drewN (Below.refl W5.heap.size W5) nq
  have HM6 := Lib.hid (HM5.out.below hbq)
  have HO6 := Lib.hid (show Row (W5.drewN nq) b v l from own_below HO5.out hbq)
  have HB6 := Lib.hid (HB5.out.trans_lo (Nat.le_refl b) (hbq.mono (Nat.le_of_lt HM5.out.lt)))
  clear hbq HM5 HO5 HB5 c0 c4
  generalize W5.drewN nq = W6 at *
  have hrow : Sc.nats (s.extract p E) = Sc.rowL ((Sc.nats s).drop p) := by
    rw [Sc.nats_ext, Sc.rowL, HRn.out, ← HE.out, Nat.add_sub_cancel_left]
  have hIs := pIsText b s v p p E op (-1) least true W6 HM6.out (by omega) (by have := HE.out; omega) hEs HG.out.least
  rw [hrow] at hIs
  have HIs := Lib.hid hIs
  clear hIs htb
  cases hit : Sc.isText least (Sc.rowL ((Sc.nats s).drop p)) with
  | true =>
    rw [hit] at HIs
    obtain ⟨n, hn⟩ : ∃ n, rn + B = n := ⟨_, rfl⟩
    have e2 : (E : Int) - (p : Int) = (rn : Int) := by omega
    have e3 : (rn : Int) + (B : Int) = (n : Int) := by omega
    have w2' : IntKind.i64.wrap (n : Int) = (n : Int) := IntWalk.i64_in _ (by omega)
    have w3 : IntKind.i64.wrap (rn : Int) = (rn : Int) := IntWalk.i64_in _ (by omega)
    have HGt := Lib.hid (HG.out.text (n := n) (by rw [hln]; exact hp) hit (by rw [HRn.out, List.drop_drop, HE.out, HBv.out, hn]))
    have hgl := HGt.out.2.2
    rw [hln] at hgl
    go_wp2_with fail
    refine HIs.out.mono ?_
    rintro e w7 ⟨rfl, hc⟩
    have HM7 := Lib.hid (HM6.out.below hc)
    have HO7 := Lib.hid (show Row w7 b v l from own_below HO6.out hc)
    have HB7 := Lib.hid (HB6.out.trans_lo (Nat.le_refl b) (hc.mono (Nat.le_of_lt HM6.out.lt)))
    clear hc HM6 HO6 HB6 HIs
    obtain ⟨c0, c1, c2, c3, c4, c5, c6, c7, c8⟩ := HM7.out.c
    clear c0 c1 c3 c5 c6 c7 c8 e1 w1
    go_wp2_with fail
    refine wp_region_quiet_tail 12 (by kernel_rfl) (by kernel_rfl) ?_
    simp only [List.take_succ_cons, List.take_zero, List.drop_succ_cons, List.drop_zero]
    repeat (go_big_quiet_step (fail))
    refine wpQuiet_nil ?_
    have hMd : Mem w7.drew b s v p p E op (-1) least true := HM7.out
    have hOd : Row w7.drew b v l := HO7.out
    have hTk := pTake 19 n (p + n) 0 p p op E (-1) least true b s v l w7.drew hMd hOd rfl (Nat.add_zero p) (by omega) (by have := HG.out.len; omega) (by have := HG.out.op; omega) (Int.le_refl _) (by omega)
    have HTk := Lib.hid hTk
    clear hTk hMd hOd
    go_wp2_with fail
    refine HTk.out.mono ?_
    rintro e w8 ⟨rfl, v2, op2, base2, least2, dash2, hM8, hO8, hB8, ho, hle, -, -⟩
    rw [show Sc.opens op 19 = op from rfl] at ho
    rw [if_neg (by decide)] at hle
    subst ho hle
    have HD := Lib.hid (show RowDone b s Tot p w w8 from ⟨v2, _, p + n, p, E, op, base2, _, dash2, hM8, hO8, HGt.out.1, by have := HGt.out.2.1; omega, by omega, HB7.out.trans ((Below.refl b w7).drew.trans hB8)⟩)
    clear hM8 hO8 hB8 HGt HM7 HO7 HB7 HTk
    go_wp2_with fail
    refine bodyPost_ret (results_none rfl _ _ _) rfl ?_
    exact ⟨rfl, HD.out⟩
  | false =>
    rw [hit] at HIs
    have HGd := Lib.hid (HG.out.row hit)
    go_wp2_with fail
    refine HIs.out.mono ?_
    rintro e w7 ⟨rfl, hc⟩
    have HM7 := Lib.hid (HM6.out.below hc)
    have HO7 := Lib.hid (show Row w7 b v l from own_below HO6.out hc)
    have HB7 := Lib.hid (HB6.out.trans_lo (Nat.le_refl b) (hc.mono (Nat.le_of_lt HM6.out.lt)))
    clear hc HM6 HO6 HB6 HIs
    obtain ⟨c0, c1, c2, c3, c4, c5, c6, c7, c8⟩ := HM7.out.c
    have f7 := HM7.out.f 7
    clear c0 c1 c2 c3 c4 c5 c6 c8 e1 w1
    go_wp2_with fail
    have HM8 := Lib.hid (HM7.out.set7 (-1))
    have HO8 := Lib.hid (row_set HO7.out 7 (.int .i64 (-1)))
    have HB8 := Lib.hid (bel_set HB7.out (Nat.le_refl b) 7 (.int .i64 (-1)))
    clear HM7 HO7 HB7 c7 f7
    generalize w7.setCell ⟨b, 7, none⟩ (.int .i64 (-1)) = W8 at *
    go_loopg [] E (fun gf wr => ∃ (v1 : Value) (l1 : List Tk) (st : Sc.St) (at1 : Nat), Hid (Mem wr b s v1 at1 p E st.op st.base st.least st.dash) ∧ Hid (Row wr b v1 l1) ∧ Hid (Sc.Good (Sc.nats s) Tot l1 st at1) ∧ Hid (Below b w wr) ∧ p + st.col = at1 ∧ at1 ≤ E ∧ E ≤ at1 + gf)
    case atStart => exact ⟨v, l, Sc.fresh op (-1), p, HM8, HO8, HGd, HB8, rfl, by have := HE.out; omega, by omega⟩
    case round =>
      obtain ⟨v1, l1, st, at1, HMr, HOr, HGr, HBr, hcol, hae, hgf⟩ := hrel
      have hrN : Sc.rowN ((Sc.nats s).drop at1) = E - at1 := by
        have h := Sc.rowN_drop ((Sc.nats s).drop p) (at1 - p) (by rw [HRn.out]; have := HE.out; omega)
        rw [List.drop_drop, show p + (at1 - p) = at1 from by omega, HRn.out] at h
        rw [h]; have := HE.out; omega
      have HrN := Lib.hid hrN
      clear hrN HM8 HO8 HB8 HGd
      obtain ⟨c0, c1, c2, c3, c4, c5, c6, c7, c8⟩ := HMr.out.c
      clear c0 c1 c3 c5 c6 c7 c8
      by_cases hlt : at1 < E
      · obtain ⟨g', rfl⟩ : ∃ g', gk = g' + 1 := ⟨gk - 1, by omega⟩
        have hI : (at1 : Int) < (E : Int) := by omega
        have hdI : decide ((at1 : Int) < (E : Int)) = true := decide_eq_true hI
        go_wp2_with fail
        go_big_quiet (fail)
        have hbq := below_drewN (Below.refl wr.heap.size wr) nq
        have HMs := Lib.hid (HMr.out.below hbq)
        have HOs := Lib.hid (show Row (wr.drewN nq) b v1 l1 from own_below HOr.out hbq)
        have HBs := Lib.hid (HBr.out.trans_lo (Nat.le_refl b) (hbq.mono (Nat.le_of_lt HMr.out.lt)))
        clear hbq HMr HOr HBr c2 c4
        generalize wr.drewN nq = W9 at *
        have hrw : Sc.nats (s.extract at1 E) = Sc.rowL ((Sc.nats s).drop at1) := by
          rw [Sc.nats_ext, Sc.rowL, HrN.out]
        have hfc : decide (at1 = p) = (st.col == 0) := by rw [Bool.eq_iff_iff]; simp; omega
        have hNx := pNext b s v1 at1 p E st.op st.base st.least st.dash st.blank (decide (at1 = p)) l1 W9 HMs.out HOs.out (HT.out.low HBs.out hg1 hg2) (by omega) (by have := HGr.out.len; omega) (by omega) hlt hEs rfl (fun hq => HGr.out.last (by have := of_decide_eq_false hq; omega))
        rw [hrw, hfc] at hNx
        obtain ⟨k, n, hkn⟩ : ∃ k n, Sc.next st.op st.dash st.blank (st.col == 0) (Sc.rowL ((Sc.nats s).drop at1)) = (k, n) := ⟨_, _, rfl⟩
        rw [hkn, show pr (k, n) = .tuple #[.int .i64 k, .int .i64 n] from rfl] at hNx
        have HGn := Lib.hid (HGr.out.on (by rw [HrN.out]; omega) hkn)
        have hn1 := HGn.out.2.1
        have hn2 := HGn.out.2.2
        rw [HrN.out] at hn2
        have HNx := Lib.hid hNx
        clear hNx hrw hkn hfc
        go_wp2_with fail
        refine HNx.out.mono ?_
        rintro e wa ⟨rfl, hc⟩
        have hMa := HMs.out.below hc
        have hOa : Row wa b v1 l1 := own_below HOs.out hc
        have HBa := Lib.hid (HBs.out.trans_lo (Nat.le_refl b) (hc.mono (Nat.le_of_lt HMs.out.lt)))
        have hTk := pTake k n (at1 + n) st.col at1 p st.op E st.base st.least st.dash b s v1 l1 wa hMa hOa rfl hcol (by omega) (by have := HGr.out.len; omega) (by have := HGr.out.op; omega) HGr.out.base.1 (by have := HGr.out.base.2; omega)
        have HTk := Lib.hid hTk
        clear hTk hMa hOa hc HMs HOs HBs HNx
        go_wp2_with fail
        refine HTk.out.mono ?_
        rintro e wb ⟨rfl, v2, op2, base2, least2, dash2, hMb, hOb, hBb, rfl, rfl, rfl, rfl⟩
        have HMc := Lib.hid hMb
        have HOc := Lib.hid hOb
        have HBc := Lib.hid (HBa.out.trans hBb)
        clear hMb hOb hBb HTk HBa HGr
        go_wp2_with fail
        go_roundg g'
        case measure => omega
        case rel => exact ⟨v2, _, Sc.take st k n, at1 + n, HMc, HOc, Lib.hid HGn.out.1, HBc, by show p + (st.col + n) = at1 + n; omega, by omega, by omega⟩
      · obtain rfl : at1 = E := by omega
        have hdI : decide ((at1 : Int) < (at1 : Int)) = false := decide_eq_false (by omega)
        rw [Nat.sub_self] at HrN
        clear hlt hgf hae
        go_wp2_with fail
        go_big_quiet (fail)
        have hbq := below_drewN (Below.refl wr.heap.size wr) nq
        have HMs := Lib.hid (HMr.out.below hbq)
        have HOs := Lib.hid (show Row (wr.drewN nq) b v1 l1 from own_below HOr.out hbq)
        have HBs := Lib.hid (HBr.out.trans_lo (Nat.le_refl b) (hbq.mono (Nat.le_of_lt HMr.out.lt)))
        clear hbq HMr HOr HBr c2 c4
        generalize wr.drewN nq = W9 at *
        by_cases hB0 : 0 < B
        · have hBI : (0 : Int) < (B : Int) := by omega
          have hbr := HGr.out.brk HrN.out (by rw [HBv.out]; exact hB0)
          rw [HBv.out, hln] at hbr
          have hTk := pTake 1 B (at1 + B) st.col at1 p st.op at1 st.base st.least st.dash b s v1 l1 W9 HMs.out HOs.out rfl hcol (by omega) (by have := HGr.out.len; omega) (by have := HGr.out.op; omega) HGr.out.base.1 (by have := HGr.out.base.2; omega)
          have HTk := Lib.hid hTk
          have HBR := Lib.hid hbr
          have HNe := Lib.hid (show p < at1 + B by omega)
          clear hTk hbr HMs HOs
          go_wp2_with fail
          refine HTk.out.mono ?_
          rintro e wb ⟨rfl, v2, op2, base2, least2, dash2, hMb, hOb, hBb, ho, hle, -, -⟩
          rw [show Sc.opens st.op 1 = st.op from rfl] at ho
          rw [if_neg (by decide)] at hle
          subst ho hle
          have HD := Lib.hid (show RowDone b s Tot p w wb from ⟨v2, _, at1 + B, p, at1, st.op, base2, _, dash2, hMb, hOb, HBR.out.1, HNe.out, HBR.out.2, HBs.out.trans hBb⟩)
          clear hMb hOb hBb HTk HBR
          go_wp2_with fail
          go_end0
          exact ⟨rfl, HD.out⟩
        · obtain rfl : B = 0 := by omega
          have hst := HGr.out.stop HrN.out (by rw [HBv.out]; decide)
          have hat : s.size ≤ at1 := by
            have := congrArg List.length hst.1
            rw [Sc.drop_len] at this
            simp at this
            omega
          have HD := Lib.hid (show RowDone b s Tot p w W9 from ⟨v1, l1, at1, p, at1, st.op, st.base, st.least, st.dash, HMs.out, HOs.out, hst.2, by omega, by omega, HBs.out⟩)
          clear hst hat HMs HOs HBs
          go_wp2_with fail
          go_end0
          exact ⟨rfl, HD.out⟩
end Go.Proofs.YtapkejdjbmdebaaDoor

/- The region 'x, y, z := good(a), good(b), good(c)' of correctorlaw3.SpanJoins: in whatever order its blocks are made, behind it three blocks hold the three spans. State by state, from the last to the first. -/
import Derived.Test.YtfikgocaidaheaaSp1
import Derived.Test.YtfikgocaidaheaaBox
import Derived.Deep.RegionHeld3
import Derived.KernelRfl
namespace Go.Proofs.Ytfikgocaidaheaa
open Go.RowKit

theorem here_far {W : World} {x y o k : Nat} {v u : Value} (hne : x ≠ y) (h : Here W y k u) : Here (W.setCell ⟨x, o, none⟩ v) y k u :=
  ⟨at_far hne h.1, by rw [World.frozen?_setCell]; exact h.2⟩
theorem here_off {W : World} {x o k : Nat} {v u : Value} (hne : o ≠ k) (h : Here W x k u) : Here (W.setCell ⟨x, o, none⟩ v) x k u :=
  ⟨at_off hne h.1, by rw [World.frozen?_setCell]; exact h.2⟩
theorem here_set {W : World} {x o : Nat} {v u : Value} (h : Here W x o u) : Here (W.setCell ⟨x, o, none⟩ v) x o v :=
  ⟨at_set (by rw [h.1]; rfl), by rw [World.frozen?_setCell]; exact h.2⟩
/-- A block of a span's size is there, and may be written. -/
def Blk (w1 W : World) (x : Nat) (a b : Int) : Prop := w1.heap.size ≤ x ∧ Here W x 0 (.int .i64 a) ∧ Here W x 1 (.int .i64 b)
theorem Blk.lt {w1 W : World} {x : Nat} {a b : Int} (h : Blk w1 W x a b) : x < W.heap.size := lt_of_cell h.2.1.1
theorem Blk.below {w1 W W' : World} {x : Nat} {a b : Int} (h : Blk w1 W x a b) (hb : Below W.heap.size W W') : Blk w1 W' x a b := ⟨h.1, here_below hb h.2.1, here_below hb h.2.2⟩
theorem Blk.alloc {w1 W : World} {x : Nat} {a b : Int} (h : Blk w1 W x a b) (o : Obj) : Blk w1 (W.alloc o) x a b := h.below (below_alloc W o)
theorem Blk.new {w1 W : World} (h : Below w1.heap.size w1 W) : Blk w1 (W.alloc (.cells #[.int .i64 0, .int .i64 0] 23)) W.heap.size 0 0 := ⟨h.size, here_new0 rfl, here_new1 rfl⟩
theorem Blk.put {w1 W : World} {x : Nat} {a b c d : Int} (h : Blk w1 W x a b) : Blk w1 ((W.setCell ⟨x, 0, none⟩ (.int .i64 c)).setCell ⟨x, 1, none⟩ (.int .i64 d)) x c d :=
  ⟨h.1, here_off (by decide) (here_set h.2.1), here_set (here_off (by decide) h.2.2)⟩
theorem Blk.far {w1 W : World} {x y : Nat} {a b : Int} {c d : Value} (h : Blk w1 W y a b) (hne : x ≠ y) : Blk w1 ((W.setCell ⟨x, 0, none⟩ c).setCell ⟨x, 1, none⟩ d) y a b :=
  ⟨h.1, here_far hne (here_far hne h.2.1), here_far hne (here_far hne h.2.2)⟩
theorem below_put {w1 W : World} {x : Nat} {c d : Value} (h : Below w1.heap.size w1 W) (hx : w1.heap.size ≤ x) : Below w1.heap.size w1 ((W.setCell ⟨x, 0, none⟩ c).setCell ⟨x, 1, none⟩ d) := (h.setCell hx _).setCell hx _

/-- Four spans in four blocks. -/
def Four (w : World) (x y z j : Nat) (p q r s t u v k : Int) : Prop :=
  (w.cell? ⟨x, 0, none⟩ = some (.int .i64 p) ∧ w.cell? ⟨x, 1, none⟩ = some (.int .i64 q)) ∧ (w.cell? ⟨y, 0, none⟩ = some (.int .i64 r) ∧ w.cell? ⟨y, 1, none⟩ = some (.int .i64 s)) ∧
  (w.cell? ⟨z, 0, none⟩ = some (.int .i64 t) ∧ w.cell? ⟨z, 1, none⟩ = some (.int .i64 u)) ∧ (w.cell? ⟨j, 0, none⟩ = some (.int .i64 v) ∧ w.cell? ⟨j, 1, none⟩ = some (.int .i64 k))
theorem eight_keep {w1 W W' : World} {x y z j : Nat} {p q r s t u v k : Int} (h : Four w1 x y z j p q r s t u v k) (hn : Below w1.heap.size w1 W) (hb : Below W.heap.size W W') :
    Below w1.heap.size w1 W' ∧ W'.cell? ⟨x, 0, none⟩ = some (.int .i64 p) ∧ W'.cell? ⟨x, 1, none⟩ = some (.int .i64 q) ∧ W'.cell? ⟨y, 0, none⟩ = some (.int .i64 r) ∧ W'.cell? ⟨y, 1, none⟩ = some (.int .i64 s) ∧
    W'.cell? ⟨z, 0, none⟩ = some (.int .i64 t) ∧ W'.cell? ⟨z, 1, none⟩ = some (.int .i64 u) ∧ W'.cell? ⟨j, 0, none⟩ = some (.int .i64 v) ∧ W'.cell? ⟨j, 1, none⟩ = some (.int .i64 k) :=
  ⟨below_call hn hb, (two_keep h.1 hn hb).1, (two_keep h.1 hn hb).2, (two_keep h.2.1 hn hb).1, (two_keep h.2.1 hn hb).2, (two_keep h.2.2.1 hn hb).1, (two_keep h.2.2.1 hn hb).2, (two_keep h.2.2.2 hn hb).1, (two_keep h.2.2.2 hn hb).2⟩
/-- The region's operations. -/
def joinOps (pp : String) : Array Oper := #[{ dst := some 13, op := Op.load 23 (Operand.tmp 3), type := 23, pos := pp, after := #[], guard := none },
  { dst := some 14, op := Op.call { callee := Callee.value (Operand.func 9), args := #[Operand.tmp 13], argTypes := #[23] }, type := 23, pos := pp, after := #[{ on := 0, ground := Ground.data }], guard := none },
  { dst := some 15, op := Op.load 23 (Operand.tmp 4), type := 23, pos := pp, after := #[], guard := none },
  { dst := some 16, op := Op.call { callee := Callee.value (Operand.func 9), args := #[Operand.tmp 15], argTypes := #[23] }, type := 23, pos := pp, after := #[{ on := 2, ground := Ground.data }, { on := 1, ground := Ground.chain }], guard := none },
  { dst := some 17, op := Op.load 23 (Operand.tmp 5), type := 23, pos := pp, after := #[], guard := none },
  { dst := some 18, op := Op.call { callee := Callee.value (Operand.func 9), args := #[Operand.tmp 17], argTypes := #[23] }, type := 23, pos := pp, after := #[{ on := 4, ground := Ground.data }, { on := 3, ground := Ground.chain }], guard := none },
  { dst := some 7, op := Op.alloc 23, type := 0, pos := pp, after := #[], guard := none },
  { dst := some 8, op := Op.alloc 23, type := 0, pos := pp, after := #[], guard := none },
  { dst := some 9, op := Op.alloc 23, type := 0, pos := pp, after := #[], guard := none },
  { dst := none, op := Op.store 23 (Operand.tmp 7) (Operand.tmp 14), type := 0, pos := pp, after := #[{ on := 6, ground := Ground.data }, { on := 1, ground := Ground.data }, { on := 5, ground := Ground.chain }, { on := 0, ground := Ground.phase }, { on := 1, ground := Ground.phase }, { on := 2, ground := Ground.textOnly Departure.lateStores }, { on := 3, ground := Ground.textOnly Departure.lateStoresUnsure }, { on := 4, ground := Ground.textOnly Departure.lateStores }, { on := 5, ground := Ground.textOnly Departure.lateStoresUnsure }, { on := 6, ground := Ground.phase }, { on := 7, ground := Ground.phase }, { on := 8, ground := Ground.phase }], guard := none },
  { dst := none, op := Op.store 23 (Operand.tmp 8) (Operand.tmp 16), type := 0, pos := pp, after := #[{ on := 7, ground := Ground.data }, { on := 3, ground := Ground.data }, { on := 9, ground := Ground.chain }, { on := 0, ground := Ground.phase }, { on := 1, ground := Ground.phase }, { on := 2, ground := Ground.phase }, { on := 3, ground := Ground.phase }, { on := 4, ground := Ground.textOnly Departure.lateStores }, { on := 5, ground := Ground.textOnly Departure.lateStoresUnsure }, { on := 6, ground := Ground.phase }, { on := 7, ground := Ground.phase }, { on := 8, ground := Ground.phase }, { on := 9, ground := Ground.phase }], guard := none },
  { dst := none, op := Op.store 23 (Operand.tmp 9) (Operand.tmp 18), type := 0, pos := pp, after := #[{ on := 8, ground := Ground.data }, { on := 5, ground := Ground.data }, { on := 10, ground := Ground.chain }, { on := 0, ground := Ground.phase }, { on := 1, ground := Ground.phase }, { on := 2, ground := Ground.phase }, { on := 3, ground := Ground.phase }, { on := 4, ground := Ground.phase }, { on := 5, ground := Ground.phase }, { on := 6, ground := Ground.phase }, { on := 7, ground := Ground.phase }, { on := 8, ground := Ground.phase }, { on := 9, ground := Ground.phase }, { on := 10, ground := Ground.phase }], guard := none }]
abbrev sp (a b : Int) : Value := .agg #[.int .i64 a, .int .i64 b]
abbrev pt (x : Nat) : Value := .pointer (some ⟨x, 0, none⟩)
/-- The frame, by what its slots hold. -/
abbrev fr (n : Nat) (a b c d e f : Int) (v7 v8 v9 v14 v16 v18 : Value) : Act :=
  { tmps := #[sp a b, sp c d, sp e f, pt n, pt (n + 1), pt (n + 1 + 1), .bool false, v7, v8, v9, undef, .bool true, .bool false, sp a b, v14, sp c d, v16, sp e f, v18, undef, undef, undef, undef, undef, undef, undef, undef, undef, undef, undef, undef, undef, undef, undef, undef, undef, undef, undef, undef, undef, undef, undef, undef, undef, undef, undef, undef, undef, undef, undef, undef, undef, undef, undef, undef, undef], defers := [] }
/-- What the region is for. -/
def Fin (Q : Exit → Act → World → Prop) (w1 : World) (n : Nat) (a b c d e f : Int) : Prop :=
  ∀ (x y z : Nat) (W : World), Blk w1 W x (g1 a) (g2 a b) → Blk w1 W y (g1 c) (g2 c d) → Blk w1 W z (g1 e) (g2 e f) → Below w1.heap.size w1 W → Q .normal (fr n a b c d e f (pt x) (pt y) (pt z) (sp (g1 a) (g2 a b)) (sp (g1 c) (g2 c d)) (sp (g1 e) (g2 e f))) W
section
variable {pp : String} {Q : Exit → Act → World → Prop} {w1 : World} {n : Nat} {a b c d e f : Int}

theorem fin_3 (hF : Fin Q w1 n a b c d e f) (x y z : Nat) (W : World) (h0 : Blk w1 W x (g1 a) (g2 a b)) (h1 : Blk w1 W y (g1 c) (g2 c d)) (h2 : Blk w1 W z (g1 e) (g2 e f)) (hb : Below w1.heap.size w1 W) :
    wpAnyH Try.prog .any (joinOps pp) Q (fun W => Below w1.heap.size w1 W) 0 #[true, true, true, true, true, true, true, true, true, true, true, true] (fr n a b c d e f (pt x) (pt y) (pt z) (sp (g1 a) (g2 a b)) (sp (g1 c) (g2 c d)) (sp (g1 e) (g2 e f))) W := wpAnyH_done (by kernel_rfl) (hF x y z W h0 h1 h2 hb) 0
set_option maxHeartbeats 1000000 in
theorem fin_2 (hF : Fin Q w1 n a b c d e f) (x y z : Nat) (W : World) (h0 : Blk w1 W x (g1 a) (g2 a b)) (h1 : Blk w1 W y (g1 c) (g2 c d)) (h2 : Blk w1 W z 0 0) (hb : Below w1.heap.size w1 W) (n02 : x ≠ z) (n12 : y ≠ z) :
    wpAnyH Try.prog .any (joinOps pp) Q (fun W => Below w1.heap.size w1 W) 1 #[true, true, true, true, true, true, true, true, true, true, true, false] (fr n a b c d e f (pt x) (pt y) (pt z) (sp (g1 a) (g2 a b)) (sp (g1 c) (g2 c d)) (sp (g1 e) (g2 e f))) W := by
  obtain ⟨k0, ⟨k1, k2⟩, ⟨k3, k4⟩⟩ := id h2
  refine wpAnyH_ready (rs := [11]) (by kernel_rfl) (by simp) ?_
  refine AllReadyH.cons (o := { dst := none, op := Op.store 23 (Operand.tmp 9) (Operand.tmp 18), type := 0, pos := pp, after := #[{ on := 8, ground := Ground.data }, { on := 5, ground := Ground.data }, { on := 10, ground := Ground.chain }, { on := 0, ground := Ground.phase }, { on := 1, ground := Ground.phase }, { on := 2, ground := Ground.phase }, { on := 3, ground := Ground.phase }, { on := 4, ground := Ground.phase }, { on := 5, ground := Ground.phase }, { on := 6, ground := Ground.phase }, { on := 7, ground := Ground.phase }, { on := 8, ground := Ground.phase }, { on := 9, ground := Ground.phase }, { on := 10, ground := Ground.phase }], guard := none }) rfl (fun K hK => ?_) AllReadyH.nil
  go_simp
  refine hK.out _ _ (below_put hb k0) (fun hb' => ?_)
  exact fin_3 hF x y z _ (h0.far n02.symm) (h1.far n12.symm) h2.put hb'
set_option maxHeartbeats 1000000 in
theorem fin_1 (hF : Fin Q w1 n a b c d e f) (x y z : Nat) (W : World) (h0 : Blk w1 W x (g1 a) (g2 a b)) (h1 : Blk w1 W y 0 0) (h2 : Blk w1 W z 0 0) (hb : Below w1.heap.size w1 W) (n01 : x ≠ y) (n02 : x ≠ z) (n12 : y ≠ z) :
    wpAnyH Try.prog .any (joinOps pp) Q (fun W => Below w1.heap.size w1 W) 2 #[true, true, true, true, true, true, true, true, true, true, false, false] (fr n a b c d e f (pt x) (pt y) (pt z) (sp (g1 a) (g2 a b)) (sp (g1 c) (g2 c d)) (sp (g1 e) (g2 e f))) W := by
  obtain ⟨k0, ⟨k1, k2⟩, ⟨k3, k4⟩⟩ := id h1
  refine wpAnyH_ready (rs := [10]) (by kernel_rfl) (by simp) ?_
  refine AllReadyH.cons (o := { dst := none, op := Op.store 23 (Operand.tmp 8) (Operand.tmp 16), type := 0, pos := pp, after := #[{ on := 7, ground := Ground.data }, { on := 3, ground := Ground.data }, { on := 9, ground := Ground.chain }, { on := 0, ground := Ground.phase }, { on := 1, ground := Ground.phase }, { on := 2, ground := Ground.phase }, { on := 3, ground := Ground.phase }, { on := 4, ground := Ground.textOnly Departure.lateStores }, { on := 5, ground := Ground.textOnly Departure.lateStoresUnsure }, { on := 6, ground := Ground.phase }, { on := 7, ground := Ground.phase }, { on := 8, ground := Ground.phase }, { on := 9, ground := Ground.phase }], guard := none }) rfl (fun K hK => ?_) AllReadyH.nil
  go_simp
  refine hK.out _ _ (below_put hb k0) (fun hb' => ?_)
  exact fin_2 hF x y z _ (h0.far n01.symm) h1.put (h2.far n12) hb' n02 n12
set_option maxHeartbeats 1000000 in
theorem fin_0 (hF : Fin Q w1 n a b c d e f) (x y z : Nat) (W : World) (h0 : Blk w1 W x 0 0) (h1 : Blk w1 W y 0 0) (h2 : Blk w1 W z 0 0) (hb : Below w1.heap.size w1 W) (n01 : x ≠ y) (n02 : x ≠ z) (n12 : y ≠ z) :
    wpAnyH Try.prog .any (joinOps pp) Q (fun W => Below w1.heap.size w1 W) 3 #[true, true, true, true, true, true, true, true, true, false, false, false] (fr n a b c d e f (pt x) (pt y) (pt z) (sp (g1 a) (g2 a b)) (sp (g1 c) (g2 c d)) (sp (g1 e) (g2 e f))) W := by
  obtain ⟨k0, ⟨k1, k2⟩, ⟨k3, k4⟩⟩ := id h0
  refine wpAnyH_ready (rs := [9]) (by kernel_rfl) (by simp) ?_
  refine AllReadyH.cons (o := { dst := none, op := Op.store 23 (Operand.tmp 7) (Operand.tmp 14), type := 0, pos := pp, after := #[{ on := 6, ground := Ground.data }, { on := 1, ground := Ground.data }, { on := 5, ground := Ground.chain }, { on := 0, ground := Ground.phase }, { on := 1, ground := Ground.phase }, { on := 2, ground := Ground.textOnly Departure.lateStores }, { on := 3, ground := Ground.textOnly Departure.lateStoresUnsure }, { on := 4, ground := Ground.textOnly Departure.lateStores }, { on := 5, ground := Ground.textOnly Departure.lateStoresUnsure }, { on := 6, ground := Ground.phase }, { on := 7, ground := Ground.phase }, { on := 8, ground := Ground.phase }], guard := none }) rfl (fun K hK => ?_) AllReadyH.nil
  go_simp
  refine hK.out _ _ (below_put hb k0) (fun hb' => ?_)
  exact fin_1 hF x y z _ h0.put (h1.far n01) (h2.far n02) hb' n01 n02 n12
theorem st_3_012 (hF : Fin Q w1 n a b c d e f) (x : Nat) (y : Nat) (z : Nat) (W : World) (h0 : Blk w1 W x 0 0) (h1 : Blk w1 W y 0 0) (h2 : Blk w1 W z 0 0) (hb : Below w1.heap.size w1 W) (n01 : x ≠ y) (n02 : x ≠ z) (n12 : y ≠ z) : wpAnyH Try.prog .any (joinOps pp) Q (fun W => Below w1.heap.size w1 W) 3 #[true, true, true, true, true, true, true, true, true, false, false, false] (fr n a b c d e f (pt x) (pt y) (pt z) (sp (g1 a) (g2 a b)) (sp (g1 c) (g2 c d)) (sp (g1 e) (g2 e f))) W := fin_0 hF x y z W h0 h1 h2 hb n01 n02 n12
set_option maxHeartbeats 1000000 in
theorem st_3_01 (hF : Fin Q w1 n a b c d e f) (x : Nat) (y : Nat) (W : World) (h0 : Blk w1 W x 0 0) (h1 : Blk w1 W y 0 0) (hb : Below w1.heap.size w1 W) (n01 : x ≠ y) :
    wpAnyH Try.prog .any (joinOps pp) Q (fun W => Below w1.heap.size w1 W) 4 #[true, true, true, true, true, true, true, true, false, false, false, false] (fr n a b c d e f (pt x) (pt y) undef (sp (g1 a) (g2 a b)) (sp (g1 c) (g2 c d)) (sp (g1 e) (g2 e f))) W := by
  refine wpAnyH_ready (rs := [8]) (by kernel_rfl) (by simp) ?_
  refine AllReadyH.cons (o := { dst := some 9, op := Op.alloc 23, type := 0, pos := pp, after := #[], guard := none }) rfl (fun K hK => ?_) ?_
  · go_simp
    refine hK.out _ _ (below_allocS hb _) (fun hb' => ?_)
    exact st_3_012 hF x y W.heap.size _ (h0.alloc _) (h1.alloc _) (Blk.new hb) hb' n01 (Nat.ne_of_lt h0.lt) (Nat.ne_of_lt h1.lt)
  exact AllReadyH.nil
set_option maxHeartbeats 1000000 in
theorem st_3_02 (hF : Fin Q w1 n a b c d e f) (x : Nat) (z : Nat) (W : World) (h0 : Blk w1 W x 0 0) (h2 : Blk w1 W z 0 0) (hb : Below w1.heap.size w1 W) (n02 : x ≠ z) :
    wpAnyH Try.prog .any (joinOps pp) Q (fun W => Below w1.heap.size w1 W) 4 #[true, true, true, true, true, true, true, false, true, false, false, false] (fr n a b c d e f (pt x) undef (pt z) (sp (g1 a) (g2 a b)) (sp (g1 c) (g2 c d)) (sp (g1 e) (g2 e f))) W := by
  refine wpAnyH_ready (rs := [7]) (by kernel_rfl) (by simp) ?_
  refine AllReadyH.cons (o := { dst := some 8, op := Op.alloc 23, type := 0, pos := pp, after := #[], guard := none }) rfl (fun K hK => ?_) ?_
  · go_simp
    refine hK.out _ _ (below_allocS hb _) (fun hb' => ?_)
    exact st_3_012 hF x W.heap.size z _ (h0.alloc _) (Blk.new hb) (h2.alloc _) hb' (Nat.ne_of_lt h0.lt) n02 (Nat.ne_of_gt h2.lt)
  exact AllReadyH.nil
set_option maxHeartbeats 1000000 in
theorem st_3_12 (hF : Fin Q w1 n a b c d e f) (y : Nat) (z : Nat) (W : World) (h1 : Blk w1 W y 0 0) (h2 : Blk w1 W z 0 0) (hb : Below w1.heap.size w1 W) (n12 : y ≠ z) :
    wpAnyH Try.prog .any (joinOps pp) Q (fun W => Below w1.heap.size w1 W) 4 #[true, true, true, true, true, true, false, true, true, false, false, false] (fr n a b c d e f undef (pt y) (pt z) (sp (g1 a) (g2 a b)) (sp (g1 c) (g2 c d)) (sp (g1 e) (g2 e f))) W := by
  refine wpAnyH_ready (rs := [6]) (by kernel_rfl) (by simp) ?_
  refine AllReadyH.cons (o := { dst := some 7, op := Op.alloc 23, type := 0, pos := pp, after := #[], guard := none }) rfl (fun K hK => ?_) ?_
  · go_simp
    refine hK.out _ _ (below_allocS hb _) (fun hb' => ?_)
    exact st_3_012 hF W.heap.size y z _ (Blk.new hb) (h1.alloc _) (h2.alloc _) hb' (Nat.ne_of_gt h1.lt) (Nat.ne_of_gt h2.lt) n12
  exact AllReadyH.nil
set_option maxHeartbeats 1000000 in
theorem st_3_0 (hF : Fin Q w1 n a b c d e f) (x : Nat) (W : World) (h0 : Blk w1 W x 0 0) (hb : Below w1.heap.size w1 W) :
    wpAnyH Try.prog .any (joinOps pp) Q (fun W => Below w1.heap.size w1 W) 5 #[true, true, true, true, true, true, true, false, false, false, false, false] (fr n a b c d e f (pt x) undef undef (sp (g1 a) (g2 a b)) (sp (g1 c) (g2 c d)) (sp (g1 e) (g2 e f))) W := by
  refine wpAnyH_ready (rs := [7, 8]) (by kernel_rfl) (by simp) ?_
  refine AllReadyH.cons (o := { dst := some 8, op := Op.alloc 23, type := 0, pos := pp, after := #[], guard := none }) rfl (fun K hK => ?_) ?_
  · go_simp
    refine hK.out _ _ (below_allocS hb _) (fun hb' => ?_)
    exact st_3_01 hF x W.heap.size _ (h0.alloc _) (Blk.new hb) hb' (Nat.ne_of_lt h0.lt)
  refine AllReadyH.cons (o := { dst := some 9, op := Op.alloc 23, type := 0, pos := pp, after := #[], guard := none }) rfl (fun K hK => ?_) ?_
  · go_simp
    refine hK.out _ _ (below_allocS hb _) (fun hb' => ?_)
    exact st_3_02 hF x W.heap.size _ (h0.alloc _) (Blk.new hb) hb' (Nat.ne_of_lt h0.lt)
  exact AllReadyH.nil
set_option maxHeartbeats 1000000 in
theorem st_3_1 (hF : Fin Q w1 n a b c d e f) (y : Nat) (W : World) (h1 : Blk w1 W y 0 0) (hb : Below w1.heap.size w1 W) :
    wpAnyH Try.prog .any (joinOps pp) Q (fun W => Below w1.heap.size w1 W) 5 #[true, true, true, true, true, true, false, true, false, false, false, false] (fr n a b c d e f undef (pt y) undef (sp (g1 a) (g2 a b)) (sp (g1 c) (g2 c d)) (sp (g1 e) (g2 e f))) W := by
  refine wpAnyH_ready (rs := [6, 8]) (by kernel_rfl) (by simp) ?_
  refine AllReadyH.cons (o := { dst := some 7, op := Op.alloc 23, type := 0, pos := pp, after := #[], guard := none }) rfl (fun K hK => ?_) ?_
  · go_simp
    refine hK.out _ _ (below_allocS hb _) (fun hb' => ?_)
    exact st_3_01 hF W.heap.size y _ (Blk.new hb) (h1.alloc _) hb' (Nat.ne_of_gt h1.lt)
  refine AllReadyH.cons (o := { dst := some 9, op := Op.alloc 23, type := 0, pos := pp, after := #[], guard := none }) rfl (fun K hK => ?_) ?_
  · go_simp
    refine hK.out _ _ (below_allocS hb _) (fun hb' => ?_)
    exact st_3_12 hF y W.heap.size _ (h1.alloc _) (Blk.new hb) hb' (Nat.ne_of_lt h1.lt)
  exact AllReadyH.nil
set_option maxHeartbeats 1000000 in
theorem st_3_2 (hF : Fin Q w1 n a b c d e f) (z : Nat) (W : World) (h2 : Blk w1 W z 0 0) (hb : Below w1.heap.size w1 W) :
    wpAnyH Try.prog .any (joinOps pp) Q (fun W => Below w1.heap.size w1 W) 5 #[true, true, true, true, true, true, false, false, true, false, false, false] (fr n a b c d e f undef undef (pt z) (sp (g1 a) (g2 a b)) (sp (g1 c) (g2 c d)) (sp (g1 e) (g2 e f))) W := by
  refine wpAnyH_ready (rs := [6, 7]) (by kernel_rfl) (by simp) ?_
  refine AllReadyH.cons (o := { dst := some 7, op := Op.alloc 23, type := 0, pos := pp, after := #[], guard := none }) rfl (fun K hK => ?_) ?_
  · go_simp
    refine hK.out _ _ (below_allocS hb _) (fun hb' => ?_)
    exact st_3_02 hF W.heap.size z _ (Blk.new hb) (h2.alloc _) hb' (Nat.ne_of_gt h2.lt)
  refine AllReadyH.cons (o := { dst := some 8, op := Op.alloc 23, type := 0, pos := pp, after := #[], guard := none }) rfl (fun K hK => ?_) ?_
  · go_simp
    refine hK.out _ _ (below_allocS hb _) (fun hb' => ?_)
    exact st_3_12 hF W.heap.size z _ (Blk.new hb) (h2.alloc _) hb' (Nat.ne_of_gt h2.lt)
  exact AllReadyH.nil
set_option maxHeartbeats 1000000 in
theorem st_3_n (hF : Fin Q w1 n a b c d e f)  (W : World)  (hb : Below w1.heap.size w1 W) :
    wpAnyH Try.prog .any (joinOps pp) Q (fun W => Below w1.heap.size w1 W) 6 #[true, true, true, true, true, true, false, false, false, false, false, false] (fr n a b c d e f undef undef undef (sp (g1 a) (g2 a b)) (sp (g1 c) (g2 c d)) (sp (g1 e) (g2 e f))) W := by
  refine wpAnyH_ready (rs := [6, 7, 8]) (by kernel_rfl) (by simp) ?_
  refine AllReadyH.cons (o := { dst := some 7, op := Op.alloc 23, type := 0, pos := pp, after := #[], guard := none }) rfl (fun K hK => ?_) ?_
  · go_simp
    refine hK.out _ _ (below_allocS hb _) (fun hb' => ?_)
    exact st_3_0 hF W.heap.size _ (Blk.new hb) hb' 
  refine AllReadyH.cons (o := { dst := some 8, op := Op.alloc 23, type := 0, pos := pp, after := #[], guard := none }) rfl (fun K hK => ?_) ?_
  · go_simp
    refine hK.out _ _ (below_allocS hb _) (fun hb' => ?_)
    exact st_3_1 hF W.heap.size _ (Blk.new hb) hb' 
  refine AllReadyH.cons (o := { dst := some 9, op := Op.alloc 23, type := 0, pos := pp, after := #[], guard := none }) rfl (fun K hK => ?_) ?_
  · go_simp
    refine hK.out _ _ (below_allocS hb _) (fun hb' => ?_)
    exact st_3_2 hF W.heap.size _ (Blk.new hb) hb' 
  exact AllReadyH.nil
set_option maxHeartbeats 1000000 in
theorem st_2_012 (hF : Fin Q w1 n a b c d e f) (x : Nat) (y : Nat) (z : Nat) (W : World) (h0 : Blk w1 W x 0 0) (h1 : Blk w1 W y 0 0) (h2 : Blk w1 W z 0 0) (hb : Below w1.heap.size w1 W) (n01 : x ≠ y) (n02 : x ≠ z) (n12 : y ≠ z) :
    wpAnyH Try.prog .any (joinOps pp) Q (fun W => Below w1.heap.size w1 W) 4 #[true, true, true, true, true, false, true, true, true, false, false, false] (fr n a b c d e f (pt x) (pt y) (pt z) (sp (g1 a) (g2 a b)) (sp (g1 c) (g2 c d)) undef) W := by
  refine wpAnyH_ready (rs := [5]) (by kernel_rfl) (by simp) ?_
  refine AllReadyH.cons (o := { dst := some 18, op := Op.call { callee := Callee.value (Operand.func 9), args := #[Operand.tmp 17], argTypes := #[23] }, type := 23, pos := pp, after := #[{ on := 4, ground := Ground.data }, { on := 3, ground := Ground.chain }], guard := none }) rfl (fun K hK => ?_) ?_
  · go_simp
    refine (good_any e f _).mono ?_
    rintro e' W2 ⟨rfl, hb2⟩
    go_simp
    refine hK.out _ _ (below_call hb hb2) (fun hb' => ?_)
    exact st_3_012 hF x y z W2 (h0.below hb2) (h1.below hb2) (h2.below hb2) hb' n01 n02 n12
  exact AllReadyH.nil
set_option maxHeartbeats 1000000 in
theorem st_2_01 (hF : Fin Q w1 n a b c d e f) (x : Nat) (y : Nat) (W : World) (h0 : Blk w1 W x 0 0) (h1 : Blk w1 W y 0 0) (hb : Below w1.heap.size w1 W) (n01 : x ≠ y) :
    wpAnyH Try.prog .any (joinOps pp) Q (fun W => Below w1.heap.size w1 W) 5 #[true, true, true, true, true, false, true, true, false, false, false, false] (fr n a b c d e f (pt x) (pt y) undef (sp (g1 a) (g2 a b)) (sp (g1 c) (g2 c d)) undef) W := by
  refine wpAnyH_ready (rs := [5, 8]) (by kernel_rfl) (by simp) ?_
  refine AllReadyH.cons (o := { dst := some 18, op := Op.call { callee := Callee.value (Operand.func 9), args := #[Operand.tmp 17], argTypes := #[23] }, type := 23, pos := pp, after := #[{ on := 4, ground := Ground.data }, { on := 3, ground := Ground.chain }], guard := none }) rfl (fun K hK => ?_) ?_
  · go_simp
    refine (good_any e f _).mono ?_
    rintro e' W2 ⟨rfl, hb2⟩
    go_simp
    refine hK.out _ _ (below_call hb hb2) (fun hb' => ?_)
    exact st_3_01 hF x y W2 (h0.below hb2) (h1.below hb2) hb' n01
  refine AllReadyH.cons (o := { dst := some 9, op := Op.alloc 23, type := 0, pos := pp, after := #[], guard := none }) rfl (fun K hK => ?_) ?_
  · go_simp
    refine hK.out _ _ (below_allocS hb _) (fun hb' => ?_)
    exact st_2_012 hF x y W.heap.size _ (h0.alloc _) (h1.alloc _) (Blk.new hb) hb' n01 (Nat.ne_of_lt h0.lt) (Nat.ne_of_lt h1.lt)
  exact AllReadyH.nil
set_option maxHeartbeats 1000000 in
theorem st_2_02 (hF : Fin Q w1 n a b c d e f) (x : Nat) (z : Nat) (W : World) (h0 : Blk w1 W x 0 0) (h2 : Blk w1 W z 0 0) (hb : Below w1.heap.size w1 W) (n02 : x ≠ z) :
    wpAnyH Try.prog .any (joinOps pp) Q (fun W => Below w1.heap.size w1 W) 5 #[true, true, true, true, true, false, true, false, true, false, false, false] (fr n a b c d e f (pt x) undef (pt z) (sp (g1 a) (g2 a b)) (sp (g1 c) (g2 c d)) undef) W := by
  refine wpAnyH_ready (rs := [5, 7]) (by kernel_rfl) (by simp) ?_
  refine AllReadyH.cons (o := { dst := some 18, op := Op.call { callee := Callee.value (Operand.func 9), args := #[Operand.tmp 17], argTypes := #[23] }, type := 23, pos := pp, after := #[{ on := 4, ground := Ground.data }, { on := 3, ground := Ground.chain }], guard := none }) rfl (fun K hK => ?_) ?_
  · go_simp
    refine (good_any e f _).mono ?_
    rintro e' W2 ⟨rfl, hb2⟩
    go_simp
    refine hK.out _ _ (below_call hb hb2) (fun hb' => ?_)
    exact st_3_02 hF x z W2 (h0.below hb2) (h2.below hb2) hb' n02
  refine AllReadyH.cons (o := { dst := some 8, op := Op.alloc 23, type := 0, pos := pp, after := #[], guard := none }) rfl (fun K hK => ?_) ?_
  · go_simp
    refine hK.out _ _ (below_allocS hb _) (fun hb' => ?_)
    exact st_2_012 hF x W.heap.size z _ (h0.alloc _) (Blk.new hb) (h2.alloc _) hb' (Nat.ne_of_lt h0.lt) n02 (Nat.ne_of_gt h2.lt)
  exact AllReadyH.nil
set_option maxHeartbeats 1000000 in
theorem st_2_12 (hF : Fin Q w1 n a b c d e f) (y : Nat) (z : Nat) (W : World) (h1 : Blk w1 W y 0 0) (h2 : Blk w1 W z 0 0) (hb : Below w1.heap.size w1 W) (n12 : y ≠ z) :
    wpAnyH Try.prog .any (joinOps pp) Q (fun W => Below w1.heap.size w1 W) 5 #[true, true, true, true, true, false, false, true, true, false, false, false] (fr n a b c d e f undef (pt y) (pt z) (sp (g1 a) (g2 a b)) (sp (g1 c) (g2 c d)) undef) W := by
  refine wpAnyH_ready (rs := [5, 6]) (by kernel_rfl) (by simp) ?_
  refine AllReadyH.cons (o := { dst := some 18, op := Op.call { callee := Callee.value (Operand.func 9), args := #[Operand.tmp 17], argTypes := #[23] }, type := 23, pos := pp, after := #[{ on := 4, ground := Ground.data }, { on := 3, ground := Ground.chain }], guard := none }) rfl (fun K hK => ?_) ?_
  · go_simp
    refine (good_any e f _).mono ?_
    rintro e' W2 ⟨rfl, hb2⟩
    go_simp
    refine hK.out _ _ (below_call hb hb2) (fun hb' => ?_)
    exact st_3_12 hF y z W2 (h1.below hb2) (h2.below hb2) hb' n12
  refine AllReadyH.cons (o := { dst := some 7, op := Op.alloc 23, type := 0, pos := pp, after := #[], guard := none }) rfl (fun K hK => ?_) ?_
  · go_simp
    refine hK.out _ _ (below_allocS hb _) (fun hb' => ?_)
    exact st_2_012 hF W.heap.size y z _ (Blk.new hb) (h1.alloc _) (h2.alloc _) hb' (Nat.ne_of_gt h1.lt) (Nat.ne_of_gt h2.lt) n12
  exact AllReadyH.nil
set_option maxHeartbeats 1000000 in
theorem st_2_0 (hF : Fin Q w1 n a b c d e f) (x : Nat) (W : World) (h0 : Blk w1 W x 0 0) (hb : Below w1.heap.size w1 W) :
    wpAnyH Try.prog .any (joinOps pp) Q (fun W => Below w1.heap.size w1 W) 6 #[true, true, true, true, true, false, true, false, false, false, false, false] (fr n a b c d e f (pt x) undef undef (sp (g1 a) (g2 a b)) (sp (g1 c) (g2 c d)) undef) W := by
  refine wpAnyH_ready (rs := [5, 7, 8]) (by kernel_rfl) (by simp) ?_
  refine AllReadyH.cons (o := { dst := some 18, op := Op.call { callee := Callee.value (Operand.func 9), args := #[Operand.tmp 17], argTypes := #[23] }, type := 23, pos := pp, after := #[{ on := 4, ground := Ground.data }, { on := 3, ground := Ground.chain }], guard := none }) rfl (fun K hK => ?_) ?_
  · go_simp
    refine (good_any e f _).mono ?_
    rintro e' W2 ⟨rfl, hb2⟩
    go_simp
    refine hK.out _ _ (below_call hb hb2) (fun hb' => ?_)
    exact st_3_0 hF x W2 (h0.below hb2) hb' 
  refine AllReadyH.cons (o := { dst := some 8, op := Op.alloc 23, type := 0, pos := pp, after := #[], guard := none }) rfl (fun K hK => ?_) ?_
  · go_simp
    refine hK.out _ _ (below_allocS hb _) (fun hb' => ?_)
    exact st_2_01 hF x W.heap.size _ (h0.alloc _) (Blk.new hb) hb' (Nat.ne_of_lt h0.lt)
  refine AllReadyH.cons (o := { dst := some 9, op := Op.alloc 23, type := 0, pos := pp, after := #[], guard := none }) rfl (fun K hK => ?_) ?_
  · go_simp
    refine hK.out _ _ (below_allocS hb _) (fun hb' => ?_)
    exact st_2_02 hF x W.heap.size _ (h0.alloc _) (Blk.new hb) hb' (Nat.ne_of_lt h0.lt)
  exact AllReadyH.nil
set_option maxHeartbeats 1000000 in
theorem st_2_1 (hF : Fin Q w1 n a b c d e f) (y : Nat) (W : World) (h1 : Blk w1 W y 0 0) (hb : Below w1.heap.size w1 W) :
    wpAnyH Try.prog .any (joinOps pp) Q (fun W => Below w1.heap.size w1 W) 6 #[true, true, true, true, true, false, false, true, false, false, false, false] (fr n a b c d e f undef (pt y) undef (sp (g1 a) (g2 a b)) (sp (g1 c) (g2 c d)) undef) W := by
  refine wpAnyH_ready (rs := [5, 6, 8]) (by kernel_rfl) (by simp) ?_
  refine AllReadyH.cons (o := { dst := some 18, op := Op.call { callee := Callee.value (Operand.func 9), args := #[Operand.tmp 17], argTypes := #[23] }, type := 23, pos := pp, after := #[{ on := 4, ground := Ground.data }, { on := 3, ground := Ground.chain }], guard := none }) rfl (fun K hK => ?_) ?_
  · go_simp
    refine (good_any e f _).mono ?_
    rintro e' W2 ⟨rfl, hb2⟩
    go_simp
    refine hK.out _ _ (below_call hb hb2) (fun hb' => ?_)
    exact st_3_1 hF y W2 (h1.below hb2) hb' 
  refine AllReadyH.cons (o := { dst := some 7, op := Op.alloc 23, type := 0, pos := pp, after := #[], guard := none }) rfl (fun K hK => ?_) ?_
  · go_simp
    refine hK.out _ _ (below_allocS hb _) (fun hb' => ?_)
    exact st_2_01 hF W.heap.size y _ (Blk.new hb) (h1.alloc _) hb' (Nat.ne_of_gt h1.lt)
  refine AllReadyH.cons (o := { dst := some 9, op := Op.alloc 23, type := 0, pos := pp, after := #[], guard := none }) rfl (fun K hK => ?_) ?_
  · go_simp
    refine hK.out _ _ (below_allocS hb _) (fun hb' => ?_)
    exact st_2_12 hF y W.heap.size _ (h1.alloc _) (Blk.new hb) hb' (Nat.ne_of_lt h1.lt)
  exact AllReadyH.nil
set_option maxHeartbeats 1000000 in
theorem st_2_2 (hF : Fin Q w1 n a b c d e f) (z : Nat) (W : World) (h2 : Blk w1 W z 0 0) (hb : Below w1.heap.size w1 W) :
    wpAnyH Try.prog .any (joinOps pp) Q (fun W => Below w1.heap.size w1 W) 6 #[true, true, true, true, true, false, false, false, true, false, false, false] (fr n a b c d e f undef undef (pt z) (sp (g1 a) (g2 a b)) (sp (g1 c) (g2 c d)) undef) W := by
  refine wpAnyH_ready (rs := [5, 6, 7]) (by kernel_rfl) (by simp) ?_
  refine AllReadyH.cons (o := { dst := some 18, op := Op.call { callee := Callee.value (Operand.func 9), args := #[Operand.tmp 17], argTypes := #[23] }, type := 23, pos := pp, after := #[{ on := 4, ground := Ground.data }, { on := 3, ground := Ground.chain }], guard := none }) rfl (fun K hK => ?_) ?_
  · go_simp
    refine (good_any e f _).mono ?_
    rintro e' W2 ⟨rfl, hb2⟩
    go_simp
    refine hK.out _ _ (below_call hb hb2) (fun hb' => ?_)
    exact st_3_2 hF z W2 (h2.below hb2) hb' 
  refine AllReadyH.cons (o := { dst := some 7, op := Op.alloc 23, type := 0, pos := pp, after := #[], guard := none }) rfl (fun K hK => ?_) ?_
  · go_simp
    refine hK.out _ _ (below_allocS hb _) (fun hb' => ?_)
    exact st_2_02 hF W.heap.size z _ (Blk.new hb) (h2.alloc _) hb' (Nat.ne_of_gt h2.lt)
  refine AllReadyH.cons (o := { dst := some 8, op := Op.alloc 23, type := 0, pos := pp, after := #[], guard := none }) rfl (fun K hK => ?_) ?_
  · go_simp
    refine hK.out _ _ (below_allocS hb _) (fun hb' => ?_)
    exact st_2_12 hF W.heap.size z _ (Blk.new hb) (h2.alloc _) hb' (Nat.ne_of_gt h2.lt)
  exact AllReadyH.nil
set_option maxHeartbeats 1000000 in
theorem st_2_n (hF : Fin Q w1 n a b c d e f)  (W : World)  (hb : Below w1.heap.size w1 W) :
    wpAnyH Try.prog .any (joinOps pp) Q (fun W => Below w1.heap.size w1 W) 7 #[true, true, true, true, true, false, false, false, false, false, false, false] (fr n a b c d e f undef undef undef (sp (g1 a) (g2 a b)) (sp (g1 c) (g2 c d)) undef) W := by
  refine wpAnyH_ready (rs := [5, 6, 7, 8]) (by kernel_rfl) (by simp) ?_
  refine AllReadyH.cons (o := { dst := some 18, op := Op.call { callee := Callee.value (Operand.func 9), args := #[Operand.tmp 17], argTypes := #[23] }, type := 23, pos := pp, after := #[{ on := 4, ground := Ground.data }, { on := 3, ground := Ground.chain }], guard := none }) rfl (fun K hK => ?_) ?_
  · go_simp
    refine (good_any e f _).mono ?_
    rintro e' W2 ⟨rfl, hb2⟩
    go_simp
    refine hK.out _ _ (below_call hb hb2) (fun hb' => ?_)
    exact st_3_n hF  W2  hb' 
  refine AllReadyH.cons (o := { dst := some 7, op := Op.alloc 23, type := 0, pos := pp, after := #[], guard := none }) rfl (fun K hK => ?_) ?_
  · go_simp
    refine hK.out _ _ (below_allocS hb _) (fun hb' => ?_)
    exact st_2_0 hF W.heap.size _ (Blk.new hb) hb' 
  refine AllReadyH.cons (o := { dst := some 8, op := Op.alloc 23, type := 0, pos := pp, after := #[], guard := none }) rfl (fun K hK => ?_) ?_
  · go_simp
    refine hK.out _ _ (below_allocS hb _) (fun hb' => ?_)
    exact st_2_1 hF W.heap.size _ (Blk.new hb) hb' 
  refine AllReadyH.cons (o := { dst := some 9, op := Op.alloc 23, type := 0, pos := pp, after := #[], guard := none }) rfl (fun K hK => ?_) ?_
  · go_simp
    refine hK.out _ _ (below_allocS hb _) (fun hb' => ?_)
    exact st_2_2 hF W.heap.size _ (Blk.new hb) hb' 
  exact AllReadyH.nil
set_option maxHeartbeats 1000000 in
theorem st_1_012 (hF : Fin Q w1 n a b c d e f) (x : Nat) (y : Nat) (z : Nat) (W : World) (h0 : Blk w1 W x 0 0) (h1 : Blk w1 W y 0 0) (h2 : Blk w1 W z 0 0) (hb : Below w1.heap.size w1 W) (n01 : x ≠ y) (n02 : x ≠ z) (n12 : y ≠ z) :
    wpAnyH Try.prog .any (joinOps pp) Q (fun W => Below w1.heap.size w1 W) 5 #[true, true, true, false, true, false, true, true, true, false, false, false] (fr n a b c d e f (pt x) (pt y) (pt z) (sp (g1 a) (g2 a b)) undef undef) W := by
  refine wpAnyH_ready (rs := [3]) (by kernel_rfl) (by simp) ?_
  refine AllReadyH.cons (o := { dst := some 16, op := Op.call { callee := Callee.value (Operand.func 9), args := #[Operand.tmp 15], argTypes := #[23] }, type := 23, pos := pp, after := #[{ on := 2, ground := Ground.data }, { on := 1, ground := Ground.chain }], guard := none }) rfl (fun K hK => ?_) ?_
  · go_simp
    refine (good_any c d _).mono ?_
    rintro e' W2 ⟨rfl, hb2⟩
    go_simp
    refine hK.out _ _ (below_call hb hb2) (fun hb' => ?_)
    exact st_2_012 hF x y z W2 (h0.below hb2) (h1.below hb2) (h2.below hb2) hb' n01 n02 n12
  exact AllReadyH.nil
set_option maxHeartbeats 1000000 in
theorem st_1_01 (hF : Fin Q w1 n a b c d e f) (x : Nat) (y : Nat) (W : World) (h0 : Blk w1 W x 0 0) (h1 : Blk w1 W y 0 0) (hb : Below w1.heap.size w1 W) (n01 : x ≠ y) :
    wpAnyH Try.prog .any (joinOps pp) Q (fun W => Below w1.heap.size w1 W) 6 #[true, true, true, false, true, false, true, true, false, false, false, false] (fr n a b c d e f (pt x) (pt y) undef (sp (g1 a) (g2 a b)) undef undef) W := by
  refine wpAnyH_ready (rs := [3, 8]) (by kernel_rfl) (by simp) ?_
  refine AllReadyH.cons (o := { dst := some 16, op := Op.call { callee := Callee.value (Operand.func 9), args := #[Operand.tmp 15], argTypes := #[23] }, type := 23, pos := pp, after := #[{ on := 2, ground := Ground.data }, { on := 1, ground := Ground.chain }], guard := none }) rfl (fun K hK => ?_) ?_
  · go_simp
    refine (good_any c d _).mono ?_
    rintro e' W2 ⟨rfl, hb2⟩
    go_simp
    refine hK.out _ _ (below_call hb hb2) (fun hb' => ?_)
    exact st_2_01 hF x y W2 (h0.below hb2) (h1.below hb2) hb' n01
  refine AllReadyH.cons (o := { dst := some 9, op := Op.alloc 23, type := 0, pos := pp, after := #[], guard := none }) rfl (fun K hK => ?_) ?_
  · go_simp
    refine hK.out _ _ (below_allocS hb _) (fun hb' => ?_)
    exact st_1_012 hF x y W.heap.size _ (h0.alloc _) (h1.alloc _) (Blk.new hb) hb' n01 (Nat.ne_of_lt h0.lt) (Nat.ne_of_lt h1.lt)
  exact AllReadyH.nil
set_option maxHeartbeats 1000000 in
theorem st_1_02 (hF : Fin Q w1 n a b c d e f) (x : Nat) (z : Nat) (W : World) (h0 : Blk w1 W x 0 0) (h2 : Blk w1 W z 0 0) (hb : Below w1.heap.size w1 W) (n02 : x ≠ z) :
    wpAnyH Try.prog .any (joinOps pp) Q (fun W => Below w1.heap.size w1 W) 6 #[true, true, true, false, true, false, true, false, true, false, false, false] (fr n a b c d e f (pt x) undef (pt z) (sp (g1 a) (g2 a b)) undef undef) W := by
  refine wpAnyH_ready (rs := [3, 7]) (by kernel_rfl) (by simp) ?_
  refine AllReadyH.cons (o := { dst := some 16, op := Op.call { callee := Callee.value (Operand.func 9), args := #[Operand.tmp 15], argTypes := #[23] }, type := 23, pos := pp, after := #[{ on := 2, ground := Ground.data }, { on := 1, ground := Ground.chain }], guard := none }) rfl (fun K hK => ?_) ?_
  · go_simp
    refine (good_any c d _).mono ?_
    rintro e' W2 ⟨rfl, hb2⟩
    go_simp
    refine hK.out _ _ (below_call hb hb2) (fun hb' => ?_)
    exact st_2_02 hF x z W2 (h0.below hb2) (h2.below hb2) hb' n02
  refine AllReadyH.cons (o := { dst := some 8, op := Op.alloc 23, type := 0, pos := pp, after := #[], guard := none }) rfl (fun K hK => ?_) ?_
  · go_simp
    refine hK.out _ _ (below_allocS hb _) (fun hb' => ?_)
    exact st_1_012 hF x W.heap.size z _ (h0.alloc _) (Blk.new hb) (h2.alloc _) hb' (Nat.ne_of_lt h0.lt) n02 (Nat.ne_of_gt h2.lt)
  exact AllReadyH.nil
set_option maxHeartbeats 1000000 in
theorem st_1_12 (hF : Fin Q w1 n a b c d e f) (y : Nat) (z : Nat) (W : World) (h1 : Blk w1 W y 0 0) (h2 : Blk w1 W z 0 0) (hb : Below w1.heap.size w1 W) (n12 : y ≠ z) :
    wpAnyH Try.prog .any (joinOps pp) Q (fun W => Below w1.heap.size w1 W) 6 #[true, true, true, false, true, false, false, true, true, false, false, false] (fr n a b c d e f undef (pt y) (pt z) (sp (g1 a) (g2 a b)) undef undef) W := by
  refine wpAnyH_ready (rs := [3, 6]) (by kernel_rfl) (by simp) ?_
  refine AllReadyH.cons (o := { dst := some 16, op := Op.call { callee := Callee.value (Operand.func 9), args := #[Operand.tmp 15], argTypes := #[23] }, type := 23, pos := pp, after := #[{ on := 2, ground := Ground.data }, { on := 1, ground := Ground.chain }], guard := none }) rfl (fun K hK => ?_) ?_
  · go_simp
    refine (good_any c d _).mono ?_
    rintro e' W2 ⟨rfl, hb2⟩
    go_simp
    refine hK.out _ _ (below_call hb hb2) (fun hb' => ?_)
    exact st_2_12 hF y z W2 (h1.below hb2) (h2.below hb2) hb' n12
  refine AllReadyH.cons (o := { dst := some 7, op := Op.alloc 23, type := 0, pos := pp, after := #[], guard := none }) rfl (fun K hK => ?_) ?_
  · go_simp
    refine hK.out _ _ (below_allocS hb _) (fun hb' => ?_)
    exact st_1_012 hF W.heap.size y z _ (Blk.new hb) (h1.alloc _) (h2.alloc _) hb' (Nat.ne_of_gt h1.lt) (Nat.ne_of_gt h2.lt) n12
  exact AllReadyH.nil
set_option maxHeartbeats 1000000 in
theorem st_1_0 (hF : Fin Q w1 n a b c d e f) (x : Nat) (W : World) (h0 : Blk w1 W x 0 0) (hb : Below w1.heap.size w1 W) :
    wpAnyH Try.prog .any (joinOps pp) Q (fun W => Below w1.heap.size w1 W) 7 #[true, true, true, false, true, false, true, false, false, false, false, false] (fr n a b c d e f (pt x) undef undef (sp (g1 a) (g2 a b)) undef undef) W := by
  refine wpAnyH_ready (rs := [3, 7, 8]) (by kernel_rfl) (by simp) ?_
  refine AllReadyH.cons (o := { dst := some 16, op := Op.call { callee := Callee.value (Operand.func 9), args := #[Operand.tmp 15], argTypes := #[23] }, type := 23, pos := pp, after := #[{ on := 2, ground := Ground.data }, { on := 1, ground := Ground.chain }], guard := none }) rfl (fun K hK => ?_) ?_
  · go_simp
    refine (good_any c d _).mono ?_
    rintro e' W2 ⟨rfl, hb2⟩
    go_simp
    refine hK.out _ _ (below_call hb hb2) (fun hb' => ?_)
    exact st_2_0 hF x W2 (h0.below hb2) hb' 
  refine AllReadyH.cons (o := { dst := some 8, op := Op.alloc 23, type := 0, pos := pp, after := #[], guard := none }) rfl (fun K hK => ?_) ?_
  · go_simp
    refine hK.out _ _ (below_allocS hb _) (fun hb' => ?_)
    exact st_1_01 hF x W.heap.size _ (h0.alloc _) (Blk.new hb) hb' (Nat.ne_of_lt h0.lt)
  refine AllReadyH.cons (o := { dst := some 9, op := Op.alloc 23, type := 0, pos := pp, after := #[], guard := none }) rfl (fun K hK => ?_) ?_
  · go_simp
    refine hK.out _ _ (below_allocS hb _) (fun hb' => ?_)
    exact st_1_02 hF x W.heap.size _ (h0.alloc _) (Blk.new hb) hb' (Nat.ne_of_lt h0.lt)
  exact AllReadyH.nil
set_option maxHeartbeats 1000000 in
theorem st_1_1 (hF : Fin Q w1 n a b c d e f) (y : Nat) (W : World) (h1 : Blk w1 W y 0 0) (hb : Below w1.heap.size w1 W) :
    wpAnyH Try.prog .any (joinOps pp) Q (fun W => Below w1.heap.size w1 W) 7 #[true, true, true, false, true, false, false, true, false, false, false, false] (fr n a b c d e f undef (pt y) undef (sp (g1 a) (g2 a b)) undef undef) W := by
  refine wpAnyH_ready (rs := [3, 6, 8]) (by kernel_rfl) (by simp) ?_
  refine AllReadyH.cons (o := { dst := some 16, op := Op.call { callee := Callee.value (Operand.func 9), args := #[Operand.tmp 15], argTypes := #[23] }, type := 23, pos := pp, after := #[{ on := 2, ground := Ground.data }, { on := 1, ground := Ground.chain }], guard := none }) rfl (fun K hK => ?_) ?_
  · go_simp
    refine (good_any c d _).mono ?_
    rintro e' W2 ⟨rfl, hb2⟩
    go_simp
    refine hK.out _ _ (below_call hb hb2) (fun hb' => ?_)
    exact st_2_1 hF y W2 (h1.below hb2) hb' 
  refine AllReadyH.cons (o := { dst := some 7, op := Op.alloc 23, type := 0, pos := pp, after := #[], guard := none }) rfl (fun K hK => ?_) ?_
  · go_simp
    refine hK.out _ _ (below_allocS hb _) (fun hb' => ?_)
    exact st_1_01 hF W.heap.size y _ (Blk.new hb) (h1.alloc _) hb' (Nat.ne_of_gt h1.lt)
  refine AllReadyH.cons (o := { dst := some 9, op := Op.alloc 23, type := 0, pos := pp, after := #[], guard := none }) rfl (fun K hK => ?_) ?_
  · go_simp
    refine hK.out _ _ (below_allocS hb _) (fun hb' => ?_)
    exact st_1_12 hF y W.heap.size _ (h1.alloc _) (Blk.new hb) hb' (Nat.ne_of_lt h1.lt)
  exact AllReadyH.nil
set_option maxHeartbeats 1000000 in
theorem st_1_2 (hF : Fin Q w1 n a b c d e f) (z : Nat) (W : World) (h2 : Blk w1 W z 0 0) (hb : Below w1.heap.size w1 W) :
    wpAnyH Try.prog .any (joinOps pp) Q (fun W => Below w1.heap.size w1 W) 7 #[true, true, true, false, true, false, false, false, true, false, false, false] (fr n a b c d e f undef undef (pt z) (sp (g1 a) (g2 a b)) undef undef) W := by
  refine wpAnyH_ready (rs := [3, 6, 7]) (by kernel_rfl) (by simp) ?_
  refine AllReadyH.cons (o := { dst := some 16, op := Op.call { callee := Callee.value (Operand.func 9), args := #[Operand.tmp 15], argTypes := #[23] }, type := 23, pos := pp, after := #[{ on := 2, ground := Ground.data }, { on := 1, ground := Ground.chain }], guard := none }) rfl (fun K hK => ?_) ?_
  · go_simp
    refine (good_any c d _).mono ?_
    rintro e' W2 ⟨rfl, hb2⟩
    go_simp
    refine hK.out _ _ (below_call hb hb2) (fun hb' => ?_)
    exact st_2_2 hF z W2 (h2.below hb2) hb' 
  refine AllReadyH.cons (o := { dst := some 7, op := Op.alloc 23, type := 0, pos := pp, after := #[], guard := none }) rfl (fun K hK => ?_) ?_
  · go_simp
    refine hK.out _ _ (below_allocS hb _) (fun hb' => ?_)
    exact st_1_02 hF W.heap.size z _ (Blk.new hb) (h2.alloc _) hb' (Nat.ne_of_gt h2.lt)
  refine AllReadyH.cons (o := { dst := some 8, op := Op.alloc 23, type := 0, pos := pp, after := #[], guard := none }) rfl (fun K hK => ?_) ?_
  · go_simp
    refine hK.out _ _ (below_allocS hb _) (fun hb' => ?_)
    exact st_1_12 hF W.heap.size z _ (Blk.new hb) (h2.alloc _) hb' (Nat.ne_of_gt h2.lt)
  exact AllReadyH.nil
set_option maxHeartbeats 1000000 in
theorem st_1_n (hF : Fin Q w1 n a b c d e f)  (W : World)  (hb : Below w1.heap.size w1 W) :
    wpAnyH Try.prog .any (joinOps pp) Q (fun W => Below w1.heap.size w1 W) 8 #[true, true, true, false, true, false, false, false, false, false, false, false] (fr n a b c d e f undef undef undef (sp (g1 a) (g2 a b)) undef undef) W := by
  refine wpAnyH_ready (rs := [3, 6, 7, 8]) (by kernel_rfl) (by simp) ?_
  refine AllReadyH.cons (o := { dst := some 16, op := Op.call { callee := Callee.value (Operand.func 9), args := #[Operand.tmp 15], argTypes := #[23] }, type := 23, pos := pp, after := #[{ on := 2, ground := Ground.data }, { on := 1, ground := Ground.chain }], guard := none }) rfl (fun K hK => ?_) ?_
  · go_simp
    refine (good_any c d _).mono ?_
    rintro e' W2 ⟨rfl, hb2⟩
    go_simp
    refine hK.out _ _ (below_call hb hb2) (fun hb' => ?_)
    exact st_2_n hF  W2  hb' 
  refine AllReadyH.cons (o := { dst := some 7, op := Op.alloc 23, type := 0, pos := pp, after := #[], guard := none }) rfl (fun K hK => ?_) ?_
  · go_simp
    refine hK.out _ _ (below_allocS hb _) (fun hb' => ?_)
    exact st_1_0 hF W.heap.size _ (Blk.new hb) hb' 
  refine AllReadyH.cons (o := { dst := some 8, op := Op.alloc 23, type := 0, pos := pp, after := #[], guard := none }) rfl (fun K hK => ?_) ?_
  · go_simp
    refine hK.out _ _ (below_allocS hb _) (fun hb' => ?_)
    exact st_1_1 hF W.heap.size _ (Blk.new hb) hb' 
  refine AllReadyH.cons (o := { dst := some 9, op := Op.alloc 23, type := 0, pos := pp, after := #[], guard := none }) rfl (fun K hK => ?_) ?_
  · go_simp
    refine hK.out _ _ (below_allocS hb _) (fun hb' => ?_)
    exact st_1_2 hF W.heap.size _ (Blk.new hb) hb' 
  exact AllReadyH.nil
set_option maxHeartbeats 1000000 in
theorem st_0_012 (hF : Fin Q w1 n a b c d e f) (x : Nat) (y : Nat) (z : Nat) (W : World) (h0 : Blk w1 W x 0 0) (h1 : Blk w1 W y 0 0) (h2 : Blk w1 W z 0 0) (hb : Below w1.heap.size w1 W) (n01 : x ≠ y) (n02 : x ≠ z) (n12 : y ≠ z) :
    wpAnyH Try.prog .any (joinOps pp) Q (fun W => Below w1.heap.size w1 W) 6 #[true, false, true, false, true, false, true, true, true, false, false, false] (fr n a b c d e f (pt x) (pt y) (pt z) undef undef undef) W := by
  refine wpAnyH_ready (rs := [1]) (by kernel_rfl) (by simp) ?_
  refine AllReadyH.cons (o := { dst := some 14, op := Op.call { callee := Callee.value (Operand.func 9), args := #[Operand.tmp 13], argTypes := #[23] }, type := 23, pos := pp, after := #[{ on := 0, ground := Ground.data }], guard := none }) rfl (fun K hK => ?_) ?_
  · go_simp
    refine (good_any a b _).mono ?_
    rintro e' W2 ⟨rfl, hb2⟩
    go_simp
    refine hK.out _ _ (below_call hb hb2) (fun hb' => ?_)
    exact st_1_012 hF x y z W2 (h0.below hb2) (h1.below hb2) (h2.below hb2) hb' n01 n02 n12
  exact AllReadyH.nil
set_option maxHeartbeats 1000000 in
theorem st_0_01 (hF : Fin Q w1 n a b c d e f) (x : Nat) (y : Nat) (W : World) (h0 : Blk w1 W x 0 0) (h1 : Blk w1 W y 0 0) (hb : Below w1.heap.size w1 W) (n01 : x ≠ y) :
    wpAnyH Try.prog .any (joinOps pp) Q (fun W => Below w1.heap.size w1 W) 7 #[true, false, true, false, true, false, true, true, false, false, false, false] (fr n a b c d e f (pt x) (pt y) undef undef undef undef) W := by
  refine wpAnyH_ready (rs := [1, 8]) (by kernel_rfl) (by simp) ?_
  refine AllReadyH.cons (o := { dst := some 14, op := Op.call { callee := Callee.value (Operand.func 9), args := #[Operand.tmp 13], argTypes := #[23] }, type := 23, pos := pp, after := #[{ on := 0, ground := Ground.data }], guard := none }) rfl (fun K hK => ?_) ?_
  · go_simp
    refine (good_any a b _).mono ?_
    rintro e' W2 ⟨rfl, hb2⟩
    go_simp
    refine hK.out _ _ (below_call hb hb2) (fun hb' => ?_)
    exact st_1_01 hF x y W2 (h0.below hb2) (h1.below hb2) hb' n01
  refine AllReadyH.cons (o := { dst := some 9, op := Op.alloc 23, type := 0, pos := pp, after := #[], guard := none }) rfl (fun K hK => ?_) ?_
  · go_simp
    refine hK.out _ _ (below_allocS hb _) (fun hb' => ?_)
    exact st_0_012 hF x y W.heap.size _ (h0.alloc _) (h1.alloc _) (Blk.new hb) hb' n01 (Nat.ne_of_lt h0.lt) (Nat.ne_of_lt h1.lt)
  exact AllReadyH.nil
set_option maxHeartbeats 1000000 in
theorem st_0_02 (hF : Fin Q w1 n a b c d e f) (x : Nat) (z : Nat) (W : World) (h0 : Blk w1 W x 0 0) (h2 : Blk w1 W z 0 0) (hb : Below w1.heap.size w1 W) (n02 : x ≠ z) :
    wpAnyH Try.prog .any (joinOps pp) Q (fun W => Below w1.heap.size w1 W) 7 #[true, false, true, false, true, false, true, false, true, false, false, false] (fr n a b c d e f (pt x) undef (pt z) undef undef undef) W := by
  refine wpAnyH_ready (rs := [1, 7]) (by kernel_rfl) (by simp) ?_
  refine AllReadyH.cons (o := { dst := some 14, op := Op.call { callee := Callee.value (Operand.func 9), args := #[Operand.tmp 13], argTypes := #[23] }, type := 23, pos := pp, after := #[{ on := 0, ground := Ground.data }], guard := none }) rfl (fun K hK => ?_) ?_
  · go_simp
    refine (good_any a b _).mono ?_
    rintro e' W2 ⟨rfl, hb2⟩
    go_simp
    refine hK.out _ _ (below_call hb hb2) (fun hb' => ?_)
    exact st_1_02 hF x z W2 (h0.below hb2) (h2.below hb2) hb' n02
  refine AllReadyH.cons (o := { dst := some 8, op := Op.alloc 23, type := 0, pos := pp, after := #[], guard := none }) rfl (fun K hK => ?_) ?_
  · go_simp
    refine hK.out _ _ (below_allocS hb _) (fun hb' => ?_)
    exact st_0_012 hF x W.heap.size z _ (h0.alloc _) (Blk.new hb) (h2.alloc _) hb' (Nat.ne_of_lt h0.lt) n02 (Nat.ne_of_gt h2.lt)
  exact AllReadyH.nil
set_option maxHeartbeats 1000000 in
theorem st_0_12 (hF : Fin Q w1 n a b c d e f) (y : Nat) (z : Nat) (W : World) (h1 : Blk w1 W y 0 0) (h2 : Blk w1 W z 0 0) (hb : Below w1.heap.size w1 W) (n12 : y ≠ z) :
    wpAnyH Try.prog .any (joinOps pp) Q (fun W => Below w1.heap.size w1 W) 7 #[true, false, true, false, true, false, false, true, true, false, false, false] (fr n a b c d e f undef (pt y) (pt z) undef undef undef) W := by
  refine wpAnyH_ready (rs := [1, 6]) (by kernel_rfl) (by simp) ?_
  refine AllReadyH.cons (o := { dst := some 14, op := Op.call { callee := Callee.value (Operand.func 9), args := #[Operand.tmp 13], argTypes := #[23] }, type := 23, pos := pp, after := #[{ on := 0, ground := Ground.data }], guard := none }) rfl (fun K hK => ?_) ?_
  · go_simp
    refine (good_any a b _).mono ?_
    rintro e' W2 ⟨rfl, hb2⟩
    go_simp
    refine hK.out _ _ (below_call hb hb2) (fun hb' => ?_)
    exact st_1_12 hF y z W2 (h1.below hb2) (h2.below hb2) hb' n12
  refine AllReadyH.cons (o := { dst := some 7, op := Op.alloc 23, type := 0, pos := pp, after := #[], guard := none }) rfl (fun K hK => ?_) ?_
  · go_simp
    refine hK.out _ _ (below_allocS hb _) (fun hb' => ?_)
    exact st_0_012 hF W.heap.size y z _ (Blk.new hb) (h1.alloc _) (h2.alloc _) hb' (Nat.ne_of_gt h1.lt) (Nat.ne_of_gt h2.lt) n12
  exact AllReadyH.nil
set_option maxHeartbeats 1000000 in
theorem st_0_0 (hF : Fin Q w1 n a b c d e f) (x : Nat) (W : World) (h0 : Blk w1 W x 0 0) (hb : Below w1.heap.size w1 W) :
    wpAnyH Try.prog .any (joinOps pp) Q (fun W => Below w1.heap.size w1 W) 8 #[true, false, true, false, true, false, true, false, false, false, false, false] (fr n a b c d e f (pt x) undef undef undef undef undef) W := by
  refine wpAnyH_ready (rs := [1, 7, 8]) (by kernel_rfl) (by simp) ?_
  refine AllReadyH.cons (o := { dst := some 14, op := Op.call { callee := Callee.value (Operand.func 9), args := #[Operand.tmp 13], argTypes := #[23] }, type := 23, pos := pp, after := #[{ on := 0, ground := Ground.data }], guard := none }) rfl (fun K hK => ?_) ?_
  · go_simp
    refine (good_any a b _).mono ?_
    rintro e' W2 ⟨rfl, hb2⟩
    go_simp
    refine hK.out _ _ (below_call hb hb2) (fun hb' => ?_)
    exact st_1_0 hF x W2 (h0.below hb2) hb' 
  refine AllReadyH.cons (o := { dst := some 8, op := Op.alloc 23, type := 0, pos := pp, after := #[], guard := none }) rfl (fun K hK => ?_) ?_
  · go_simp
    refine hK.out _ _ (below_allocS hb _) (fun hb' => ?_)
    exact st_0_01 hF x W.heap.size _ (h0.alloc _) (Blk.new hb) hb' (Nat.ne_of_lt h0.lt)
  refine AllReadyH.cons (o := { dst := some 9, op := Op.alloc 23, type := 0, pos := pp, after := #[], guard := none }) rfl (fun K hK => ?_) ?_
  · go_simp
    refine hK.out _ _ (below_allocS hb _) (fun hb' => ?_)
    exact st_0_02 hF x W.heap.size _ (h0.alloc _) (Blk.new hb) hb' (Nat.ne_of_lt h0.lt)
  exact AllReadyH.nil
set_option maxHeartbeats 1000000 in
theorem st_0_1 (hF : Fin Q w1 n a b c d e f) (y : Nat) (W : World) (h1 : Blk w1 W y 0 0) (hb : Below w1.heap.size w1 W) :
    wpAnyH Try.prog .any (joinOps pp) Q (fun W => Below w1.heap.size w1 W) 8 #[true, false, true, false, true, false, false, true, false, false, false, false] (fr n a b c d e f undef (pt y) undef undef undef undef) W := by
  refine wpAnyH_ready (rs := [1, 6, 8]) (by kernel_rfl) (by simp) ?_
  refine AllReadyH.cons (o := { dst := some 14, op := Op.call { callee := Callee.value (Operand.func 9), args := #[Operand.tmp 13], argTypes := #[23] }, type := 23, pos := pp, after := #[{ on := 0, ground := Ground.data }], guard := none }) rfl (fun K hK => ?_) ?_
  · go_simp
    refine (good_any a b _).mono ?_
    rintro e' W2 ⟨rfl, hb2⟩
    go_simp
    refine hK.out _ _ (below_call hb hb2) (fun hb' => ?_)
    exact st_1_1 hF y W2 (h1.below hb2) hb' 
  refine AllReadyH.cons (o := { dst := some 7, op := Op.alloc 23, type := 0, pos := pp, after := #[], guard := none }) rfl (fun K hK => ?_) ?_
  · go_simp
    refine hK.out _ _ (below_allocS hb _) (fun hb' => ?_)
    exact st_0_01 hF W.heap.size y _ (Blk.new hb) (h1.alloc _) hb' (Nat.ne_of_gt h1.lt)
  refine AllReadyH.cons (o := { dst := some 9, op := Op.alloc 23, type := 0, pos := pp, after := #[], guard := none }) rfl (fun K hK => ?_) ?_
  · go_simp
    refine hK.out _ _ (below_allocS hb _) (fun hb' => ?_)
    exact st_0_12 hF y W.heap.size _ (h1.alloc _) (Blk.new hb) hb' (Nat.ne_of_lt h1.lt)
  exact AllReadyH.nil
set_option maxHeartbeats 1000000 in
theorem st_0_2 (hF : Fin Q w1 n a b c d e f) (z : Nat) (W : World) (h2 : Blk w1 W z 0 0) (hb : Below w1.heap.size w1 W) :
    wpAnyH Try.prog .any (joinOps pp) Q (fun W => Below w1.heap.size w1 W) 8 #[true, false, true, false, true, false, false, false, true, false, false, false] (fr n a b c d e f undef undef (pt z) undef undef undef) W := by
  refine wpAnyH_ready (rs := [1, 6, 7]) (by kernel_rfl) (by simp) ?_
  refine AllReadyH.cons (o := { dst := some 14, op := Op.call { callee := Callee.value (Operand.func 9), args := #[Operand.tmp 13], argTypes := #[23] }, type := 23, pos := pp, after := #[{ on := 0, ground := Ground.data }], guard := none }) rfl (fun K hK => ?_) ?_
  · go_simp
    refine (good_any a b _).mono ?_
    rintro e' W2 ⟨rfl, hb2⟩
    go_simp
    refine hK.out _ _ (below_call hb hb2) (fun hb' => ?_)
    exact st_1_2 hF z W2 (h2.below hb2) hb' 
  refine AllReadyH.cons (o := { dst := some 7, op := Op.alloc 23, type := 0, pos := pp, after := #[], guard := none }) rfl (fun K hK => ?_) ?_
  · go_simp
    refine hK.out _ _ (below_allocS hb _) (fun hb' => ?_)
    exact st_0_02 hF W.heap.size z _ (Blk.new hb) (h2.alloc _) hb' (Nat.ne_of_gt h2.lt)
  refine AllReadyH.cons (o := { dst := some 8, op := Op.alloc 23, type := 0, pos := pp, after := #[], guard := none }) rfl (fun K hK => ?_) ?_
  · go_simp
    refine hK.out _ _ (below_allocS hb _) (fun hb' => ?_)
    exact st_0_12 hF W.heap.size z _ (Blk.new hb) (h2.alloc _) hb' (Nat.ne_of_gt h2.lt)
  exact AllReadyH.nil
set_option maxHeartbeats 1000000 in
theorem st_0_n (hF : Fin Q w1 n a b c d e f)  (W : World)  (hb : Below w1.heap.size w1 W) :
    wpAnyH Try.prog .any (joinOps pp) Q (fun W => Below w1.heap.size w1 W) 9 #[true, false, true, false, true, false, false, false, false, false, false, false] (fr n a b c d e f undef undef undef undef undef undef) W := by
  refine wpAnyH_ready (rs := [1, 6, 7, 8]) (by kernel_rfl) (by simp) ?_
  refine AllReadyH.cons (o := { dst := some 14, op := Op.call { callee := Callee.value (Operand.func 9), args := #[Operand.tmp 13], argTypes := #[23] }, type := 23, pos := pp, after := #[{ on := 0, ground := Ground.data }], guard := none }) rfl (fun K hK => ?_) ?_
  · go_simp
    refine (good_any a b _).mono ?_
    rintro e' W2 ⟨rfl, hb2⟩
    go_simp
    refine hK.out _ _ (below_call hb hb2) (fun hb' => ?_)
    exact st_1_n hF  W2  hb' 
  refine AllReadyH.cons (o := { dst := some 7, op := Op.alloc 23, type := 0, pos := pp, after := #[], guard := none }) rfl (fun K hK => ?_) ?_
  · go_simp
    refine hK.out _ _ (below_allocS hb _) (fun hb' => ?_)
    exact st_0_0 hF W.heap.size _ (Blk.new hb) hb' 
  refine AllReadyH.cons (o := { dst := some 8, op := Op.alloc 23, type := 0, pos := pp, after := #[], guard := none }) rfl (fun K hK => ?_) ?_
  · go_simp
    refine hK.out _ _ (below_allocS hb _) (fun hb' => ?_)
    exact st_0_1 hF W.heap.size _ (Blk.new hb) hb' 
  refine AllReadyH.cons (o := { dst := some 9, op := Op.alloc 23, type := 0, pos := pp, after := #[], guard := none }) rfl (fun K hK => ?_) ?_
  · go_simp
    refine hK.out _ _ (below_allocS hb _) (fun hb' => ?_)
    exact st_0_2 hF W.heap.size _ (Blk.new hb) hb' 
  exact AllReadyH.nil
end
end Go.Proofs.Ytfikgocaidaheaa

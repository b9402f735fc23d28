/- How arguments that are slices of acts, of nodes read when they come in. -/
import Derived.Test.YthkieidcjakhgaaRowArn
import Derived.Test.YthkieidcjakhgaaArw
import Derived.Lib.SmallJoins
import Derived.Deep.Slices
import Derived.Deep.SlicePairs
import Derived.Deep.Fields
import Derived.ChangeSame
namespace Go.Proofs.Ythkieidcjakhgaa
open Go.ChangeShapes Go.WideShapes Go.ChangeAt Go.RowKit Go.Joins Go.Deep
open Go.Proofs.Ythkieidcjakhgaa.Sq
open Go.Proofs.Ythkieidcjakhgaa.Ar
set_option linter.unusedVariables false

/-- An act: five numbers. -/
structure Ac where
  k : Int
  a : Int
  b : Int
  c : Int
  d : Int
def Ac.cells (p : Ac) : List Value := [.int .i64 p.k, .int .i64 p.a, .int .i64 p.b, .int .i64 p.c, .int .i64 p.d]
def encC : Enc Ac := ⟨Ac.cells, 5, by decide, fun _ => rfl, fun x u hu => by
  cases hu with
  | head => rfl
  | tail _ hu => cases hu with
    | head => rfl
    | tail _ hu => cases hu with
      | head => rfl
      | tail _ hu => cases hu with
        | head => rfl
        | tail _ hu => cases hu with
          | head => rfl
          | tail _ hu => cases hu⟩
abbrev Acts (w : World) (v : Value) (l : List Ac) : Prop := Reads encC w v l
theorem acts_at {w : World} {a : Option Addr} {cap : Nat} {l : List Ac} (h : Acts w (.slice a l.length cap) l) (j : Nat) (x : Ac) (hj : l[j]? = some x) :
    ∃ b off, a = some ⟨b, off, none⟩ ∧ w.cell? ⟨b, off + j * 5, none⟩ = some (.int .i64 x.k) ∧ w.cell? ⟨b, off + j * 5 + 1, none⟩ = some (.int .i64 x.a) ∧ w.cell? ⟨b, off + j * 5 + 2, none⟩ = some (.int .i64 x.b) ∧ w.cell? ⟨b, off + j * 5 + 3, none⟩ = some (.int .i64 x.c) ∧ w.cell? ⟨b, off + j * 5 + 4, none⟩ = some (.int .i64 x.d) := by
  obtain ⟨b, off, h1, h2⟩ := h.at_ j x hj
  exact ⟨b, off, h1, h2 0 _ rfl, h2 1 _ rfl, h2 2 _ rfl, h2 3 _ rfl, h2 4 _ rfl⟩
instance : Inhabited Ac := ⟨⟨0, 0, 0, 0, 0⟩⟩
instance : Inhabited Ln := ⟨⟨⟨0, 0, 0, 0, [], false⟩, none, 0, 0⟩⟩
section
variable {H : Type} {enc : TypeId × Value → H} {P : Program} {w : World} {base : Nat} {spare : Nat → Bool} {held : Bool}
theorem open_slice_fields {t e : TypeId} {fs : Array Field} {fuel : Nat} {cs : List Value} {x : DataW H × List MemPlace} (ht : P.underlying t = some (.slice e)) (he : P.underlying e = some (.struct fs))
    (hone : oneCellFields P fs = true) (hC : P.cellsOf e = fs.size) (h : DataW.trod enc P w base spare held fuel t cs = some x) :
    (cs = [.slice none 0 0] ∧ x = (.nil, [])) ∨
    ∃ (a : Addr) (len cap m : Nat) (D : Nat → DataW H) (Pl : Nat → List MemPlace), cs = [.slice (some a) len cap] ∧ base ≤ a.block ∧ len ≤ cap ∧ cap ≤ maxLen ∧ m = (if spare a.block then cap else len) ∧
      x = (.slice ((List.range len).map D) ((List.range (m - len)).map fun j => D (len + j)), MemPlace.row a (m * fs.size) ++ (List.range m).flatMap Pl) ∧
      ∀ i, i < m → ∃ (ys : List (DataW H × List MemPlace)) (n : Nat), D i = .agg (ys.map (·.1)) ∧ Pl i = ys.flatMap (·.2) ∧ ys.length = fs.size ∧
        ∀ (j : Nat) (f : Field), fs[j]? = some f → ∃ (v : Value) (y : DataW H × List MemPlace), w.cell? (a.add (i * fs.size + j)) = some v ∧ ys[j]? = some y ∧ DataW.trod enc P w base spare held n f.type [v] = some y := by
  rcases open_slice ht h with h0 | ⟨a, len, cap, m, n, D, Pl, hcs, hb, hl, hm, hmm, hx, hi⟩
  · exact .inl h0
  · refine .inr ⟨a, len, cap, m, D, Pl, hcs, hb, hl, hm, hmm, by rw [hC] at hx; exact hx, fun i him => ?_⟩
    obtain ⟨cs', hc, ht'⟩ := hi i him
    rw [hC] at hc
    obtain ⟨ys, n', hn', hy, hlen, hyl, hf⟩ := DataW.trod_struct he ht'
    obtain ⟨_, hcl, hat⟩ := World.cells?_some hc
    simp only [Prod.mk.injEq] at hy
    refine ⟨ys, n', hy.1, hy.2, hyl, fun j f hj => ?_⟩
    obtain ⟨ho, hk⟩ := hone_of hone j f hj
    have hjl : j < fs.size := (Array.getElem?_eq_some_iff.1 hj).1
    have hcell := hat j hjl
    have hv : cs'[j]? = some (cs'[j]'(by omega)) := List.getElem?_eq_getElem (by omega)
    have h1 := hf j f hj
    rw [ho, hk] at h1
    have hone' : (cs'.drop j).take 1 = [cs'[j]'(by omega)] := by
      rw [List.drop_eq_getElem_cons (by omega)]
      rfl
    rw [hone'] at h1
    have hys : ys[j]? = some (ys[j]'(by omega)) := List.getElem?_eq_getElem (by omega)
    refine ⟨_, _, ?_, hys, h1.trans hys⟩
    rw [← Go.Deep.add_add, hcell, hv]
end
theorem acts_of_arg {H : Type} {enc : TypeId × Value → H} {w : World} {base : Nat} {v : Value} {d : DataW H} {p : List MemPlace}
    (hv : Value.okWide Try.prog w .any base 22 v) (h : DataW.Trod enc Try.prog w 0 (fun _ => true) true 22 v d p) :
    ∃ l : List Ac, Acts w v l := by
  obtain ⟨a, len, cap, rfl⟩ := okWide_slice Try.underlying22 hv
  obtain ⟨fuel, hf⟩ := h
  rcases open_slice_fields Try.underlying22 Try.underlying32 (by kernel_rfl) (by kernel_rfl) hf with ⟨hcs, _⟩ | ⟨x, n, c, m, D, Pl, hcs, _, hl, hm, hmm, hx, hi⟩
  · simp [Value.cells] at hcs
    obtain ⟨rfl, rfl, rfl⟩ := hcs
    exact ⟨[], .inl ⟨rfl, rfl⟩⟩
  · simp [Value.cells] at hcs
    obtain ⟨rfl, rfl, rfl⟩ := hcs
    have hsp := spot_of_ok Try.underlying22 hv
    obtain ⟨b, off, spot⟩ := x
    simp only at hsp
    subst hsp
    have hmc : m = cap := by simpa using hmm
    subst hmc
    obtain ⟨f, hf2⟩ := choose_lt (α := Ac) (n := len) (p := fun i e => w.cell? ⟨b, off + i * 5, none⟩ = some (.int .i64 e.k) ∧ w.cell? ⟨b, off + i * 5 + 1, none⟩ = some (.int .i64 e.a) ∧ w.cell? ⟨b, off + i * 5 + 2, none⟩ = some (.int .i64 e.b) ∧ w.cell? ⟨b, off + i * 5 + 3, none⟩ = some (.int .i64 e.c) ∧ w.cell? ⟨b, off + i * 5 + 4, none⟩ = some (.int .i64 e.d)) (fun i hil => by
      obtain ⟨ys, n', hD, _, hyl, hF⟩ := hi i (by omega)
      obtain ⟨v0, y0, q0, z0, t0⟩ := hF 0 _ rfl
      obtain ⟨u0, e0, _, _⟩ := DataW.trod_int Try.underlying3 t0
      rw [add_addr, (List.cons.inj e0).1] at q0
      obtain ⟨v1, y1, q1, z1, t1⟩ := hF 1 _ rfl
      obtain ⟨u1, e1, _, _⟩ := DataW.trod_int Try.underlying3 t1
      rw [add_addr, (List.cons.inj e1).1] at q1
      obtain ⟨v2, y2, q2, z2, t2⟩ := hF 2 _ rfl
      obtain ⟨u2, e2, _, _⟩ := DataW.trod_int Try.underlying3 t2
      rw [add_addr, (List.cons.inj e2).1] at q2
      obtain ⟨v3, y3, q3, z3, t3⟩ := hF 3 _ rfl
      obtain ⟨u3, e3, _, _⟩ := DataW.trod_int Try.underlying3 t3
      rw [add_addr, (List.cons.inj e3).1] at q3
      obtain ⟨v4, y4, q4, z4, t4⟩ := hF 4 _ rfl
      obtain ⟨u4, e4, _, _⟩ := DataW.trod_int Try.underlying3 t4
      rw [add_addr, (List.cons.inj e4).1] at q4
      refine ⟨⟨u0, u1, u2, u3, u4⟩, q0, ?_, ?_, ?_, ?_⟩
      · rw [Nat.add_assoc]; exact q1
      · rw [Nat.add_assoc]; exact q2
      · rw [Nat.add_assoc]; exact q3
      · rw [Nat.add_assoc]; exact q4)
    refine ⟨(List.range len).map f, .inr ⟨b, off, m, by simp, by simpa using hl, hm, fun j z hj i u hu => ?_⟩⟩
    have hj' : j < len := by have := (List.getElem?_eq_some_iff.1 hj).1; simpa using this
    have e : z = f j := by rw [List.getElem?_map, List.getElem?_range hj'] at hj; exact (Option.some.inj hj).symm
    subst e
    obtain ⟨g0, g1, g2, g3, g4⟩ := hf2 j hj'
    match i, hu with
    | 0, hu => rw [← Option.some.inj hu]; exact g0
    | 1, hu => rw [← Option.some.inj hu]; exact g1
    | 2, hu => rw [← Option.some.inj hu]; exact g2
    | 3, hu => rw [← Option.some.inj hu]; exact g3
    | 4, hu => rw [← Option.some.inj hu]; exact g4
theorem nodes_of_arg {H : Type} {enc : TypeId × Value → H} {w : World} {base : Nat} {v : Value} {d : DataW H} {p : List MemPlace}
    (hv : Value.okWide Try.prog w .any base 25 v) (h : DataW.Trod enc Try.prog w 0 (fun _ => true) true 25 v d p) :
    ∃ l : List Nd, NodesW w v l := by
  obtain ⟨a, len, cap, rfl⟩ := okWide_slice Try.underlying25 hv
  obtain ⟨fuel, hf⟩ := h
  rcases open_slice_fields Try.underlying25 Try.underlying48 (by kernel_rfl) (by kernel_rfl) hf with ⟨hcs, _⟩ | ⟨x, n, c, m, D, Pl, hcs, _, hl, hm, hmm, hx, hi⟩
  · simp [Value.cells] at hcs
    obtain ⟨rfl, rfl, rfl⟩ := hcs
    exact ⟨[], [], rfl, .inl ⟨rfl, rfl⟩, fun p hp => by cases hp⟩
  · simp [Value.cells] at hcs
    obtain ⟨rfl, rfl, rfl⟩ := hcs
    have hsp := spot_of_ok Try.underlying25 hv
    obtain ⟨b, off, spot⟩ := x
    simp only at hsp
    subst hsp
    have hmc : m = cap := by simpa using hmm
    subst hmc
    obtain ⟨f, hf2⟩ := choose_lt (α := Ln) (n := len) (p := fun i e => (∀ k u, (encN.cells e)[k]? = some u → w.cell? ⟨b, off + i * 6 + k, none⟩ = some u) ∧ e.n = e.nd.ks.length ∧ e.n ≤ maxLen ∧ KidsAt w e.a e.nd.ks) (fun i hil => by
      obtain ⟨ys, n', hD, _, hyl, hF⟩ := hi i (by omega)
      obtain ⟨v0, y0, q0, z0, t0⟩ := hF 0 _ rfl
      obtain ⟨v1, y1, q1, z1, t1⟩ := hF 1 _ rfl
      obtain ⟨v2, y2, q2, z2, t2⟩ := hF 2 _ rfl
      obtain ⟨v3, y3, q3, z3, t3⟩ := hF 3 _ rfl
      obtain ⟨v4, y4, q4, z4, t4⟩ := hF 4 _ rfl
      obtain ⟨v5, y5, q5, z5, t5⟩ := hF 5 _ rfl
      obtain ⟨u0, e0, _, _⟩ := DataW.trod_int Try.underlying3 t0
      rw [add_addr, (List.cons.inj e0).1] at q0
      obtain ⟨u1, e1, _, _⟩ := DataW.trod_int Try.underlying3 t1
      rw [add_addr, (List.cons.inj e1).1] at q1
      obtain ⟨u2, e2, _, _⟩ := DataW.trod_int Try.underlying3 t2
      rw [add_addr, (List.cons.inj e2).1] at q2
      obtain ⟨u3, e3, _, _⟩ := DataW.trod_int Try.underlying3 t3
      rw [add_addr, (List.cons.inj e3).1] at q3
      obtain ⟨u5, e5, _⟩ := DataW.trod_bool Try.underlying4 t5
      rw [add_addr, (List.cons.inj e5).1] at q5
      rw [add_addr] at q4
      have hall : ∀ (ka : Option Addr) (kl kc : Nat) (ks : List Int), v4 = .slice ka kl kc → kl = ks.length → kl ≤ maxLen → KidsAt w ka ks → ∃ e : Ln, (∀ k u, (encN.cells e)[k]? = some u → w.cell? ⟨b, off + i * 6 + k, none⟩ = some u) ∧ e.n = e.nd.ks.length ∧ e.n ≤ maxLen ∧ KidsAt w e.a e.nd.ks := by
        intro ka kl kc ks h1 h2 h3 h4
        subst h1
        refine ⟨⟨⟨u0, u1, u2, u3, ks, u5⟩, ka, kl, kc⟩, fun k u hu => ?_, h2, h3, h4⟩
        match k, hu with
        | 0, hu => rw [← Option.some.inj hu]; exact q0
        | 1, hu => rw [← Option.some.inj hu, Nat.add_assoc]; exact q1
        | 2, hu => rw [← Option.some.inj hu, Nat.add_assoc]; exact q2
        | 3, hu => rw [← Option.some.inj hu, Nat.add_assoc]; exact q3
        | 4, hu => rw [← Option.some.inj hu, Nat.add_assoc]; exact q4
        | 5, hu => rw [← Option.some.inj hu, Nat.add_assoc]; exact q5
      rcases open_ints Try.underlying46 Try.underlying3 (by kernel_rfl) t4 with ⟨hc4, _⟩ | ⟨xa, xl, xc, zs, hc4, _, hl4, hm4, hz4, _, hcell, hwz⟩
      · exact hall none 0 0 [] (List.cons.inj hc4).1 rfl (Nat.zero_le _) (fun j z hz => by simp at hz)
      · have hzl : zs.length = xc := by simpa using hz4
        refine hall (some xa) xl xc (zs.take xl) (List.cons.inj hc4).1 (by rw [List.length_take]; omega) (by omega) (fun j z hz => ?_)
        have hjl : j < xl := by have := (List.getElem?_eq_some_iff.1 hz).1; rw [List.length_take] at this; omega
        have hcj := hcell j (by omega)
        have hsp := World.cell?_spot (hcell 0 (by omega))
        obtain ⟨kb, ko, ksp⟩ := xa
        have hk : ksp = none := by
          cases ksp with
          | none => rfl
          | some s => simp [Addr.add] at hsp
        subst hk
        refine ⟨kb, ko, rfl, ?_⟩
        rw [add_addr] at hcj
        rw [hcj]
        rw [List.getElem?_take, if_pos hjl] at hz
        simp [List.getD, hz])
    refine ⟨((List.range len).map f).map Ln.nd, (List.range len).map f, rfl, .inr ⟨b, off, m, by simp, by simpa using hl, hm, fun j z hj i u hu => ?_⟩, fun p hp => ?_⟩
    · have hj' : j < len := by have := (List.getElem?_eq_some_iff.1 hj).1; simpa using this
      have e : z = f j := by rw [List.getElem?_map, List.getElem?_range hj'] at hj; exact (Option.some.inj hj).symm
      subst e
      exact (hf2 j hj').1 i u hu
    · obtain ⟨j, hj, rfl⟩ := List.mem_map.1 hp
      exact (hf2 j (List.mem_range.1 hj)).2
end Go.Proofs.Ythkieidcjakhgaa

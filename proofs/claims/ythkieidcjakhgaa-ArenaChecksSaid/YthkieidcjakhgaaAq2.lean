/- Package arena: alike, slices.EqualFunc over it, Same. -/
import Derived.Test.YthkieidcjakhgaaAq1
namespace Go.Proofs.Ythkieidcjakhgaa
open Go.RowKit
open Go.Proofs.Ythkieidcjakhgaa.Sq
open Go.Proofs.Ythkieidcjakhgaa.Ar
set_option linter.unusedVariables false

/-- A node as a value, its kids' row named. -/
abbrev ndV (x : Nd) (ka : Option Addr) (kc : Nat) : Value := .agg #[.int .i64 x.k, .int .i64 x.f, .int .i64 x.t, .int .i64 x.u, .slice ka x.ks.length kc, .bool x.y]
set_option maxHeartbeats 4000000 in
set_option maxRecDepth 100000 in
theorem alike_any (x y : Nd) (ka ka2 : Option Addr) (kc kc2 : Nat) (w : World) (h : Reads encI w (.slice ka x.ks.length kc) x.ks) (h2 : Reads encI w (.slice ka2 y.ks.length kc2) y.ks) (hs : x.ks.length ≤ 1000) (hs2 : y.ks.length ≤ 1000) :
    Calls Try.prog 33 #[ndV x ka kc, ndV y ka2 kc2] w (fun e w' => e = .returned (.bool (sameNd x y)) ∧ Below w.heap.size w w') := by
  have HE := Lib.hid (fun W (hb : Below w.heap.size w W) => eqInts _ _ x.ks y.ks W (h.below hb) (h2.below hb) hs hs2)
  obtain ⟨n, hn⟩ : ∃ n, x.ks.length = n := ⟨_, rfl⟩
  obtain ⟨m, hm⟩ : ∃ m, y.ks.length = m := ⟨_, rfl⟩
  obtain ⟨ek, hek⟩ : ∃ ek, decide (x.ks = y.ks) = ek := ⟨_, rfl⟩
  rw [hn, hm, hek] at HE
  obtain ⟨R, hR⟩ : ∃ R, sameNd x y = R := ⟨_, rfl⟩
  unfold ndV
  rw [hR, hn, hm]
  unfold sameNd at hR
  rw [hek] at hR
  obtain ⟨xk, xf, xt, xu, xks, xy⟩ := x
  obtain ⟨yk, yf, yt, yu, yks, yy⟩ := y
  dsimp only at hR ⊢
  have HB := Lib.hid (fun o o' => below_allocS (below_alloc w o) o')
  have HR := Lib.hid hR
  clear h h2 hs hs2 hn hm hek hR
  by_cases qk : xk = yk
  case neg =>
    obtain rfl : R = false := by rw [← HR.out]; simp [qk]
    have nk : (xk == yk) = false := by simp [qk]
    clear HR qk
    go_enter Try.func33, Try.ntmps33
    go_wp2_with fail
    go_ret
    exact ⟨rfl, HB.out _ _⟩
  have nk : (xk == yk) = true := by simp [qk]
  by_cases qf : xf = yf
  case neg =>
    obtain rfl : R = false := by rw [← HR.out]; simp [qf]
    have nf : (xf == yf) = false := by simp [qf]
    clear HR qf qk
    go_enter Try.func33, Try.ntmps33
    go_wp2_with fail
    go_ret
    exact ⟨rfl, HB.out _ _⟩
  have nf : (xf == yf) = true := by simp [qf]
  by_cases qt : xt = yt
  case neg =>
    obtain rfl : R = false := by rw [← HR.out]; simp [qt]
    have nt : (xt == yt) = false := by simp [qt]
    clear HR qt qf qk
    go_enter Try.func33, Try.ntmps33
    go_wp2_with fail
    go_ret
    exact ⟨rfl, HB.out _ _⟩
  have nt : (xt == yt) = true := by simp [qt]
  by_cases qu : xu = yu
  case neg =>
    obtain rfl : R = false := by rw [← HR.out]; simp [qu]
    have nu : (xu == yu) = false := by simp [qu]
    clear HR qu qt qf qk
    go_enter Try.func33, Try.ntmps33
    go_wp2_with fail
    go_ret
    exact ⟨rfl, HB.out _ _⟩
  have nu : (xu == yu) = true := by simp [qu]
  cases hy : (xy == yy) with
  | false =>
    obtain rfl : R = false := by rw [← HR.out, hy]; simp
    clear HR qu qt qf qk
    go_enter Try.func33, Try.ntmps33
    go_wp2_with fail
    go_ret
    exact ⟨rfl, HB.out _ _⟩
  | true =>
    obtain rfl : R = ek := by rw [← HR.out, hy]; simp [qk, qf, qt, qu]
    clear HR qu qt qf qk
    go_enter Try.func33, Try.ntmps33
    go_wp2_with fail
    refine (HE.out _ (HB.out _ _)).mono ?_
    rintro e w' ⟨rfl, hb⟩
    have HD := Lib.hid (below_from (HB.out (.cells #[.int .i64 xk, .int .i64 xf, .int .i64 xt, .int .i64 xu, .slice ka n kc, .bool xy] 48) (.cells #[.int .i64 yk, .int .i64 yf, .int .i64 yt, .int .i64 yu, .slice ka2 m kc2, .bool yy] 48)) hb)
    clear hb
    go_wp2_with fail
    go_ret
    exact ⟨rfl, HD.out⟩
set_option maxHeartbeats 4000000 in
set_option maxRecDepth 100000 in
theorem eqNodes (v1 v2 : Value) (l q : List Nd) (w : World) (h : Nodes w v1 l) (h2 : Nodes w v2 q) (hs : l.length ≤ 1000) (hs2 : q.length ≤ 1000) (hk : ∀ x ∈ l, x.ks.length ≤ 1000) (hk2 : ∀ x ∈ q, x.ks.length ≤ 1000) :
    Calls Try.prog 32 #[v1, v2, .func (.func 33) #[] #[]] w (fun e w' => e = .returned (.bool (sameN l q)) ∧ Below w.heap.size w w') := by
  obtain ⟨a, cap, rfl⟩ := h.shape
  obtain ⟨a2, cap2, rfl⟩ := h2.shape
  obtain ⟨R, hR⟩ : ∃ R, sameN l q = R := ⟨_, rfl⟩
  have hln := same_len l q
  have hno := same_no l q
  have hall := same_all l q
  rw [hR] at hln hno hall ⊢
  have HX := Lib.hid (fun W (hb : Below w.heap.size w W) j x (hj : l[j]? = some x) => (h.below hb).at_ j x hj)
  have HX2 := Lib.hid (fun W (hb : Below w.heap.size w W) j x (hj : q[j]? = some x) => (h2.below hb).at_ j x hj)
  have HKs := Lib.hid hk
  have HKs2 := Lib.hid hk2
  have HQ := Lib.hid (fun b w' => show (b = R ∧ Below w.heap.size w w') → (fun e (w' : World) => e = Ending.returned (.bool R) ∧ Below w.heap.size w w') (.returned (.bool b)) w' from fun h => ⟨by rw [h.1], h.2⟩)
  obtain ⟨Q, hQ⟩ : ∃ Q, (fun e (w' : World) => e = Ending.returned (.bool R) ∧ Below w.heap.size w w') = Q := ⟨_, rfl⟩
  rw [hQ] at HQ ⊢
  obtain ⟨N, hN⟩ : ∃ N, l.length = N := ⟨_, rfl⟩
  obtain ⟨M, hM⟩ : ∃ M, q.length = M := ⟨_, rfl⟩
  rw [hN] at hs hln hall ⊢
  rw [hM] at hs2 hln hall ⊢
  have HN := Lib.hid hN
  have HM := Lib.hid hM
  have HLn := Lib.hid hln
  have HNo := Lib.hid hno
  have HAll := Lib.hid hall
  clear h h2 hk hk2 hQ hN hM hR hln hno hall
  go_enter Try.func32, Try.ntmps32
  by_cases hne : N = M
  · subst hne
    go_wp2_with fail
    go_loopw [17] (fun iv wr => ∃ (i : Nat), iv = .int .i64 i ∧ i ≤ N ∧ Hid (∀ (j : Nat) x y, j < i → l[j]? = some x → q[j]? = some y → sameNd x y = true) ∧ Hid (Below w.heap.size w wr)) (fun iv _ => N - (intOf iv).toNat)
    case atStart => exact ⟨0, rfl, Nat.zero_le _, Lib.hid (fun j x y hj => absurd hj (Nat.not_lt_zero j)), Lib.hid (Below.refl _ _)⟩
    case round =>
      obtain ⟨i, rfl, hi, HA, HB⟩ := hrel
      by_cases hlt : i < N
      · obtain ⟨x, hx⟩ : ∃ x, l[i]? = some x := ⟨_, List.getElem?_eq_getElem (by rw [HN.out]; exact hlt)⟩
        obtain ⟨y, hy⟩ : ∃ y, q[i]? = some y := ⟨_, List.getElem?_eq_getElem (by rw [HM.out]; exact hlt)⟩
        obtain ⟨b, off, ka, kc, rfl, x0, x1, x2, x3, x4, x5, hkr⟩ := HX.out wr HB.out i x hx
        obtain ⟨b2, off2, ka2, kc2, rfl, y0, y1, y2, y3, y4, y5, hkr2⟩ := HX2.out wr HB.out i y hy
        have hii : (i : Int) < (N : Int) := by omega
        have HAk := Lib.hid (fun W (hb : Below wr.heap.size wr W) => alike_any x y ka ka2 kc kc2 W (hkr.below hb) (hkr2.below hb) (HKs.out x (List.mem_of_getElem? hx)) (HKs2.out y (List.mem_of_getElem? hy)))
        have HA2 := Lib.hid (fun (e : sameNd x y = true) => show ∀ (j : Nat) x y, j < i + 1 → l[j]? = some x → q[j]? = some y → sameNd x y = true from fun j x' y' hj h1 h2 => by
          by_cases ej : j = i
          · subst ej
            rw [hx] at h1; rw [hy] at h2
            rw [← Option.some.inj h1, ← Option.some.inj h2]; exact e
          · exact HA.out j x' y' (by omega) h1 h2)
        have HNn := Lib.hid (HNo.out i x y hx hy)
        obtain ⟨n, hn⟩ : ∃ n, x.ks.length = n := ⟨_, rfl⟩
        obtain ⟨m, hm⟩ : ∃ m, y.ks.length = m := ⟨_, rfl⟩
        unfold ndV at HAk
        rw [hn] at x4 HAk
        rw [hm] at y4 HAk
        obtain ⟨sx, hsx⟩ : ∃ sx, sameNd x y = sx := ⟨_, rfl⟩
        rw [hsx] at HAk HA2 HNn
        clear hx hy hkr hkr2 hn hm hsx
        have y0 := fun o => at_alloc (o := o) y0
        have y1 := fun o => at_alloc (o := o) y1
        have y2 := fun o => at_alloc (o := o) y2
        have y3 := fun o => at_alloc (o := o) y3
        have y4 := fun o => at_alloc (o := o) y4
        have y5 := fun o => at_alloc (o := o) y5
        have HBa := Lib.hid (fun o o' => below_allocS (below_alloc wr o) o')
        go_wp2_with fail
        refine (HAk.out _ (HBa.out _ _)).mono ?_
        rintro e w3 ⟨rfl, hb3⟩
        have HB3 := Lib.hid (HB.out.trans ((below_from (HBa.out _ _) hb3).mono HB.out.size))
        clear hb3
        cases sx with
        | true =>
          have HA3 := Lib.hid (HA2.out rfl)
          go_wp2_with fail
          go_roundw
          case rel => exact ⟨i + 1, by go_num, by omega, HA3, HB3⟩
          case measure => simp [intOf]; omega
        | false =>
          have HD := Lib.hid (HQ.out false _ ⟨(HNn.out rfl).symm, HB3.out⟩)
          go_wp2_with fail
          exact HD.out
      · obtain rfl : i = N := by omega
        have hii : ¬ ((i : Int) < (i : Int)) := by omega
        have HD := Lib.hid (HQ.out true wr ⟨(HAll.out (by first | rfl | trivial) (fun j x y h1 h2 => HA.out j x y (by rw [← HN.out]; exact (List.getElem?_eq_some_iff.1 h1).1) h1 h2)).symm, HB.out⟩)
        clear hlt
        go_wp2_with fail
        exact HD.out
  · have n1 : decide (N = M) = false := decide_eq_false hne
    have n2 : (N == M) = false := by simp [hne]
    have n3 : ((N : Int) == (M : Int)) = false := by simp; omega
    have n4 : ((N : Int) != (M : Int)) = true := by simp; omega
    have HD := Lib.hid (HQ.out false w ⟨(HLn.out hne).symm, Below.refl _ _⟩)
    clear hne
    go_wp2_with fail
    exact HD.out
set_option maxHeartbeats 2000000 in
set_option maxRecDepth 100000 in
theorem aSame : PSame := by
  intro v1 v2 l q w h h2 hs hs2 hk hk2
  obtain ⟨a, cap, rfl⟩ := h.shape
  obtain ⟨a2, cap2, rfl⟩ := h2.shape
  have HE := Lib.hid (fun W (hb : Below w.heap.size w W) => eqNodes _ _ l q W (h.below hb) (h2.below hb) (by omega) (by omega) (fun x hx => Nat.le_trans (hk x hx) (by omega)) (fun x hx => Nat.le_trans (hk2 x hx) (by omega)))
  obtain ⟨R, hR⟩ : ∃ R, sameN l q = R := ⟨_, rfl⟩
  obtain ⟨N, hN⟩ : ∃ N, l.length = N := ⟨_, rfl⟩
  obtain ⟨M, hM⟩ : ∃ M, q.length = M := ⟨_, rfl⟩
  rw [hN, hM, hR] at HE
  rw [hN, hM, hR]
  have HB := Lib.hid (fun o o' => below_allocS (below_alloc w o) o')
  clear h h2 hs hs2 hk hk2 hR hN hM
  go_enter Try.func22, Try.ntmps22
  go_wp2_with fail
  refine (HE.out _ (HB.out _ _)).mono ?_
  rintro e w' ⟨rfl, hb⟩
  have HD := Lib.hid (below_from (HB.out (.cells #[.slice a N cap] 27) (.cells #[.slice a2 M cap2] 27)) hb)
  clear hb
  go_wp2_with fail
  go_ret
  exact ⟨rfl, HD.out⟩
end Go.Proofs.Ythkieidcjakhgaa

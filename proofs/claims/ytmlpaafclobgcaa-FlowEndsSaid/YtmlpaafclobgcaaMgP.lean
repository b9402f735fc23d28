/- Several texts in one: Tkc Tke. -/
import Derived.Test.YtmlpaafclobgcaaMgB
import Derived.Test.YtmlpaafclobgcaaTkd
import Derived.Test.YtmlpaafclobgcaaMgO
/- Tokens within brackets, one after another, plainly; the tokens of FlowCommas' texts; no program text. -/
namespace Go.Proofs.Ytmlpaafclobgcaa.Fl

/-- Within brackets, and not at a row's beginning. -/
def In (s : Sc.St) : Prop := 0 < s.op ∧ 0 < s.col
theorem run_all (p : Nat → Bool) : ∀ l : List Nat, (∀ c ∈ l, p c = true) → Sc.run p l = l.length
  | [] => fun _ => rfl
  | c :: r => fun h => by rw [Sc.run, if_pos (h c (by simp)), run_all p r (fun d hd => h d (by simp [hd]))]; rfl
theorem row_all (l : List Nat) (h : ∀ c ∈ l, Sc.brk c = false) : Sc.rowN l = l.length ∧ Sc.rowL l = l := by
  have h1 : Sc.rowN l = l.length := run_all _ l (fun c hc => by rw [h c hc]; rfl)
  exact ⟨h1, by unfold Sc.rowL; rw [h1, List.take_length]⟩
theorem tok1 {s : Sc.St} {c : Nat} {r : List Nat} {k n : Nat} (at' : Nat) (hs : In s) (hb : ∀ d ∈ c :: r, Sc.brk d = false) (hn : Sc.next s.op s.dash s.blank false (c :: r) = (k, n)) :
    Sc.toksN s at' (c :: r) = (k, at', at' + n) :: Sc.toksN (Sc.take s k n) (at' + n) ((c :: r).drop n) := by
  have h1 := row_all _ hb
  have hst : Sc.step s (c :: r) = (k, n, Sc.take s k n) := by
    unfold Sc.step
    rw [if_neg (by have := hs.2; omega)]
    unfold Sc.mid
    rw [if_neg (by rw [h1.1]; simp), h1.2, show (s.col == 0) = false by have := hs.2; simp; omega, hn]
  rw [Sc.toksN_step s at' (c :: r) (by simp), hst]
theorem next_word {op : Nat} {dash blank : Bool} {c : Nat} {r : List Nat} (h : Sc.blk c = false) (h35 : c ≠ 35) : Sc.next op dash blank false (c :: r) = Sc.word op dash (c :: r) := by
  have hr : Sc.run Sc.blk (c :: r) = 0 := by rw [Sc.run, if_neg (by rw [h]; decide)]
  unfold Sc.next
  rw [if_neg (by simp), if_neg (by simp), hr, if_neg (by decide), if_neg (by
    rw [show Sc.hsh (c :: r) = (c == 35) from rfl]
    simp [h35])]
/-- A sign of its own. -/
theorem word_sign {op : Nat} {dash : Bool} {r : List Nat} {k : Nat} (h : Sc.sign op dash r = k) (h0 : 0 < k) : Sc.word op dash r = (k, 1) := by
  unfold Sc.word
  rw [if_pos (by omega), h]
/-- A letter behind which a plain text ends. -/
theorem word_letter {op : Nat} {dash : Bool} {c : Nat} {r : List Nat} (hop : 0 < op) (hc : 97 ≤ c ∧ c ≤ 122) (hr : Sc.stop true false r = true) : Sc.word op dash (c :: r) = (15, 1) := by
  have hs : Sc.sign op dash (c :: r) = 0 := by
    unfold Sc.sign
    dsimp only
    rw [if_neg (by omega), if_neg (by omega), if_neg (by omega), if_neg (by omega), if_neg (by omega), if_neg (by omega), if_neg (by omega)]
  have hn : Sc.named (c :: r) = (0, 0) := by
    unfold Sc.named
    dsimp only
    rw [if_neg (by omega), if_neg (by omega), if_neg (by omega)]
  have hq : Sc.quoted (c :: r) = (0, 0) := by
    unfold Sc.quoted
    dsimp only
    rw [if_neg (by omega), if_neg (by omega)]
  have hnx : Sc.nxL (c :: r) = ((c : Int), 1) := by
    unfold Sc.nxL
    rw [show (c :: r).getD 0 0 = c from rfl]
    unfold Sg.nxN
    have h1 : ∀ n b1 b2 b3, Lib.decodeN n c b1 b2 b3 = (c, 1) := fun n b1 b2 b3 => by unfold Lib.decodeN; rw [if_pos (by omega)]
    simp only [h1]
    simp
    try omega
  unfold Sc.word
  rw [hs, if_neg (by decide), hn, if_neg (by decide), hq, if_neg (by decide), if_neg (by omega), if_neg (by unfold Sc.bad; rw [hnx]; simp)]
  unfold Sc.plainN
  rw [hnx]
  have hg : Sc.goes (decide (0 < op)) (c :: r).length ((c :: r).getD (1 - 1) 0) ((c :: r).drop 1) = 0 := by
    rw [show decide (0 < op) = true from decide_eq_true hop]
    show Sc.goes true (r.length + 1) c r = 0
    rw [Sc.goes, show Sc.blk c = false by unfold Sc.blk; simp; omega, if_pos hr]
  rw [hg]
  show (15, Sc.trim [c]) = _
  have : Sc.trim [c] = 1 := by
    unfold Sc.trim
    rw [show Sc.trim [] = 0 from rfl, if_pos rfl, if_neg (by unfold Sc.blk; simp; omega)]
  rw [this]
end Go.Proofs.Ytmlpaafclobgcaa.Fl

/- The tokens of FlowCommas' and FlowPairs' texts, plainly; no program text. -/
namespace Go.Proofs.Ytmlpaafclobgcaa.Fl

/-- A text that begins with a bracket: what is known behind it. -/
theorem toks_start {c k : Nat} {rest : List Nat} (hc : (c = 91 ∧ k = 8) ∨ (c = 123 ∧ k = 9)) (hb : ∀ d ∈ c :: rest, Sc.brk d = false) (hl : (c :: rest).length ≤ 16384) :
    ∃ s, Sc.tokens (c :: rest) = (k, 0, 1) :: Sc.toksN s 1 rest ∧ In s ∧ s.op = 1 := by
  have h1 := row_all _ hb
  have hsg : Sc.sign 0 true (c :: rest) = k := by
    unfold Sc.sign
    dsimp only
    rcases hc with ⟨rfl, rfl⟩ | ⟨rfl, rfl⟩ <;> rfl
  have hw : Sc.word 0 true (c :: rest) = (k, 1) := word_sign hsg (by omega)
  have hm : Sc.mark (c :: rest) = 0 := by
    unfold Sc.mark
    rw [if_neg (fun h => by
      have := congrArg (fun x => x[0]?) h
      simp at this
      omega), if_neg (fun h => by
      have := congrArg (fun x => x[0]?) h
      simp at this
      omega)]
  have hr1 : Sc.run Sc.spc (c :: rest) = 0 := by rw [Sc.run, if_neg (by unfold Sc.spc; simp; omega)]
  have hr2 : Sc.run Sc.blk (c :: rest) = 0 := by rw [Sc.run, if_neg (by unfold Sc.blk; simp; omega)]
  have hn : Sc.next 0 true false true (c :: rest) = (k, 1) := by
    unfold Sc.next
    rw [hm, if_neg (by simp), hr1, if_neg (by simp), hr2, if_neg (by decide), if_neg (by
      rw [show Sc.hsh (c :: rest) = (c == 35) from rfl]
      simp; omega)]
    exact hw
  have hst : Sc.step (Sc.fresh 0 (-1)) (c :: rest) = (k, 1, Sc.take (Sc.fresh 0 (-1)) k 1) := by
    unfold Sc.step
    rw [if_pos (by rfl), if_neg (by
      unfold Sc.isText
      rw [h1.2]
      simp [Sc.fresh])]
    unfold Sc.mid
    rw [if_neg (by rw [h1.1]; simp), h1.2]
    show ((Sc.next 0 true false true (c :: rest)).1, _, _) = _
    rw [show Sc.next (({ Sc.fresh 0 (-1) with least := -1 } : Sc.St).op) (({ Sc.fresh 0 (-1) with least := -1 } : Sc.St).dash) (({ Sc.fresh 0 (-1) with least := -1 } : Sc.St).blank) ((({ Sc.fresh 0 (-1) with least := -1 } : Sc.St).col) == 0) (c :: rest) = (k, 1) from hn, hn]
    rfl
  refine ⟨Sc.take (Sc.fresh 0 (-1)) k 1, ?_, ⟨?_, ?_⟩, ?_⟩
  · rw [Sc.tokens_eq, if_neg (by omega), Sc.toksN_step _ _ _ (by simp), hst]
    rfl
  · rcases hc with ⟨_, rfl⟩ | ⟨_, rfl⟩ <;> decide
  · show 0 < 0 + 1; omega
  · rcases hc with ⟨_, rfl⟩ | ⟨_, rfl⟩ <;> rfl
def letsA : Nat → List Nat → List Tk
  | _, [] => []
  | a, k :: r => (k, a, a + 1) :: letsA (a + 1) r
theorem lets_at (K : List Nat) : ∀ a, letsA a K = (List.range K.length).map (fun i => (K.getD i 0, a + i, a + i + 1)) := by
  induction K with
  | nil => intro a; rfl
  | cons k r ih =>
    intro a
    rw [letsA, ih, List.length_cons, List.range_succ_eq_map, List.map_cons, List.map_map]
    congr 1
    refine List.map_congr_left (fun i _ => ?_)
    show (_, a + 1 + i, a + 1 + i + 1) = (_, a + (i + 1), a + (i + 1) + 1)
    rw [show a + 1 + i = a + (i + 1) by omega]; rfl
theorem lets_eq (K : List Nat) : lets K = letsA 0 K := by
  rw [lets_at]
  unfold lets
  refine List.map_congr_left (fun i _ => ?_)
  rw [Nat.zero_add]
def comB (k : Nat) : Nat := if k = 15 then 97 else 44
theorem take_in {s : Sc.St} {k n : Nat} (_ : In s) (h1 : s.op = 1) (hk : k ≠ 8 ∧ k ≠ 9 ∧ k ≠ 10 ∧ k ≠ 11 ∧ k ≠ 20 ∧ k ≠ 21) (hn : 0 < n) : In (Sc.take s k n) ∧ (Sc.take s k n).op = 1 := by
  have ho : (Sc.take s k n).op = 1 := by
    show Sc.opens s.op k = 1
    unfold Sc.opens
    rw [if_neg (by omega), if_neg (by omega), if_neg (by omega), h1]
  refine ⟨⟨by omega, ?_⟩, ho⟩
  show 0 < s.col + n
  omega
theorem com_toksN : ∀ (r : List Nat) (h : Bool) (s : Sc.St) (a : Nat), In s → s.op = 1 → comOk h r → Sc.toksN s a (r.map comB ++ [93]) = letsA a (r ++ [10])
  | [], _, s, a => fun hs _ _ => by
    have hn : Sc.next s.op s.dash s.blank false [93] = (10, 1) := by
      rw [next_word rfl (by decide)]
      exact word_sign rfl (by decide)
    show Sc.toksN s a [93] = [(10, a, a + 1)]
    rw [tok1 a hs (by simp [Sc.brk]) hn]
    rfl
  | k :: r, h, s, a => fun hs h1 hok => by
    have hbr : ∀ d ∈ (k :: r).map comB ++ [93], Sc.brk d = false := by
      intro d hd
      rw [List.mem_append, List.mem_map] at hd
      rcases hd with ⟨z, _, rfl⟩ | hd
      · unfold comB; split <;> rfl
      · simp at hd; subst hd; rfl
    rcases hok with ⟨rfl, rfl, hok⟩ | ⟨rfl, hok⟩
    · have hstop : Sc.stop true false (r.map comB ++ [93]) = true := by
        cases r with
        | nil => simp [Sc.stop, Sc.flo]
        | cons z q =>
          rcases hok with ⟨_, h2, _⟩ | ⟨rfl, _⟩
          · exact absurd h2 (by decide)
          · simp [Sc.stop, Sc.flo, comB]
      have hn : Sc.next s.op s.dash s.blank false (97 :: (r.map comB ++ [93])) = (15, 1) := by
        rw [next_word rfl (by decide)]
        exact word_letter hs.1 (by decide) hstop
      have ht := take_in (k := 15) (n := 1) hs h1 (by decide) (by decide)
      have e1 : (15 :: r).map comB ++ [93] = 97 :: (r.map comB ++ [93]) := rfl
      have e2 : letsA a (15 :: r ++ [10]) = (15, a, a + 1) :: letsA (a + 1) (r ++ [10]) := rfl
      rw [e1] at hbr ⊢
      rw [e2, tok1 a hs hbr hn, ← com_toksN r true _ (a + 1) ht.1 ht.2 hok]
      rfl
    · have hn : Sc.next s.op s.dash s.blank false (44 :: (r.map comB ++ [93])) = (7, 1) := by
        rw [next_word rfl (by decide), h1]
        exact word_sign (k := 7) (by unfold Sc.sign; rfl) (by decide)
      have ht := take_in (k := 7) (n := 1) hs h1 (by decide) (by decide)
      have e1 : (7 :: r).map comB ++ [93] = 44 :: (r.map comB ++ [93]) := rfl
      have e2 : letsA a (7 :: r ++ [10]) = (7, a, a + 1) :: letsA (a + 1) (r ++ [10]) := rfl
      rw [e1] at hbr ⊢
      rw [e2, tok1 a hs hbr hn, ← com_toksN r false _ (a + 1) ht.1 ht.2 hok]
      rfl
/-- The tokens of FlowCommas' text. -/
theorem com_toks (r : List Nat) (hl : r.length ≤ 1000) (hok : comOk false r) : Sc.tokens (91 :: (r.map comB ++ [93])) = lets (8 :: r ++ [10]) := by
  obtain ⟨s, h1, h2, h3⟩ := toks_start (c := 91) (k := 8) (rest := r.map comB ++ [93]) (.inl ⟨rfl, rfl⟩) (fun d hd => by
    rw [List.mem_cons, List.mem_append, List.mem_map] at hd
    rcases hd with rfl | ⟨z, _, rfl⟩ | hd
    · rfl
    · unfold comB; split <;> rfl
    · simp at hd; subst hd; rfl) (by simp; omega)
  rw [h1, com_toksN r false s 1 h2 h3 hok, lets_eq]
  rfl
end Go.Proofs.Ytmlpaafclobgcaa.Fl

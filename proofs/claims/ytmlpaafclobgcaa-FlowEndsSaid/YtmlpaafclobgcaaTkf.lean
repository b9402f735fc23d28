/- The tokens' kinds of FlowPairs' texts, plainly; no program text. -/
import Derived.Test.YtmlpaafclobgcaaMgP
namespace Go.Proofs.Ytmlpaafclobgcaa.Fl

def itB : Nat → List Nat
  | 0 => [97]
  | 1 => [98, 58, 32, 99]
  | 2 => [58, 32, 100]
  | _ => [39, 101, 39, 58, 32]
def tailB : List Nat → List Nat
  | [] => []
  | k :: r => 44 :: 32 :: (itB k ++ tailB r)
def kinds (l : List Tk) : List Nat := l.map (·.1)
def Free (l : List Nat) : Prop := ∀ d ∈ l, Sc.brk d = false
theorem Free.drop {c : Nat} {l : List Nat} (h : Free (c :: l)) : Free l := fun d hd => h d (List.mem_cons_of_mem _ hd)
/-- One token more: its kind, and the rest at what is known then. -/
theorem kind1 {s : Sc.St} {c : Nat} {r : List Nat} {k n : Nat} (a : Nat) (hs : In s) (h1 : s.op = 1) (hb : Free (c :: r)) (hn : Sc.next s.op s.dash s.blank false (c :: r) = (k, n)) (h0 : 0 < n) (hk : k ≠ 8 ∧ k ≠ 9 ∧ k ≠ 10 ∧ k ≠ 11 ∧ k ≠ 20 ∧ k ≠ 21) :
    ∃ s' a', kinds (Sc.toksN s a (c :: r)) = k :: kinds (Sc.toksN s' a' ((c :: r).drop n)) ∧ In s' ∧ s'.op = 1 := by
  have ht := take_in (k := k) (n := n) hs h1 hk h0
  exact ⟨_, _, by rw [tok1 a hs hb hn]; rfl, ht.1, ht.2⟩
theorem next_blank {op : Nat} {dash blank : Bool} {c : Nat} {r : List Nat} (h : Sc.blk c = false) : Sc.next op dash blank false (32 :: c :: r) = (3, 1) := by
  have hr : Sc.run Sc.blk (32 :: c :: r) = 1 := by rw [Sc.run, if_pos (by rfl), Sc.run, if_neg (by rw [h]; decide)]
  unfold Sc.next
  rw [if_neg (by simp), if_neg (by simp), hr, if_pos (by decide)]
theorem next_colon {op : Nat} {dash blank : Bool} {r : List Nat} : Sc.next op dash blank false (58 :: 32 :: r) = (6, 1) := by
  rw [next_word rfl (by decide)]
  refine word_sign (k := 6) ?_ (by decide)
  unfold Sc.sign
  dsimp only
  rw [if_neg (by decide), if_neg (by decide), if_neg (by decide), if_neg (by decide), if_neg (by decide), if_neg (by decide), if_pos rfl, if_pos]
  unfold Sc.key
  dsimp only
  rw [show Sc.blk 32 = true from rfl]; rfl
theorem next_letter {op : Nat} {dash blank : Bool} {c : Nat} {r : List Nat} (hop : 0 < op) (hc : 97 ≤ c ∧ c ≤ 122) (hr : Sc.stop true false r = true) : Sc.next op dash blank false (c :: r) = (15, 1) := by
  rw [next_word (by unfold Sc.blk; simp; omega) (by omega)]
  exact word_letter hop hc hr
theorem next_quoted {op : Nat} {dash blank : Bool} {r : List Nat} : Sc.next op dash blank false (39 :: 101 :: 39 :: 58 :: r) = (16, 3) := by
  rw [next_word rfl (by decide)]
  have hs : Sc.sign op dash (39 :: 101 :: 39 :: 58 :: r) = 0 := by
    unfold Sc.sign
    dsimp only
    rw [if_neg (by decide), if_neg (by decide), if_neg (by decide), if_neg (by decide), if_neg (by decide), if_neg (by decide), if_neg (by decide)]
  have hn : Sc.named (39 :: 101 :: 39 :: 58 :: r) = (0, 0) := by
    unfold Sc.named
    dsimp only
    rw [if_neg (by decide), if_neg (by decide), if_neg (by decide)]
  have hq : Sc.quoted (39 :: 101 :: 39 :: 58 :: r) = (16, 3) := by
    unfold Sc.quoted
    dsimp only
    rw [if_pos rfl]
    have : Sc.sing (101 :: 39 :: 58 :: r) = 2 := by
      rw [Sc.sing, if_neg (by decide), Sc.sing, if_pos rfl, if_neg (by decide)]
    rw [this]
  unfold Sc.word
  rw [hs, if_neg (by decide), hn, if_neg (by decide), hq, if_pos (by decide)]
theorem item_kinds {s : Sc.St} {k x : Nat} {r : List Nat} (a : Nat) (hs : In s) (h1 : s.op = 1) (hk : k < 4) (hx : x = 44 ∨ x = 93 ∨ x = 125) (hb : Free (itB k ++ x :: r)) :
    ∃ s' a', kinds (Sc.toksN s a (itB k ++ x :: r)) = itK k ++ kinds (Sc.toksN s' a' (x :: r)) ∧ In s' ∧ s'.op = 1 := by
  have hstop : Sc.stop true false (x :: r) = true := by rcases hx with rfl | rfl | rfl <;> simp [Sc.stop, Sc.flo]
  have hbx : Sc.blk x = false := by rcases hx with rfl | rfl | rfl <;> rfl
  have h4 : k = 0 ∨ k = 1 ∨ k = 2 ∨ k = 3 := by omega
  rcases h4 with rfl | rfl | rfl | rfl
  · exact kind1 a hs h1 hb (next_letter hs.1 (by decide) hstop) (by decide) (by decide)
  · obtain ⟨s1, a1, e1, p1, q1⟩ := kind1 (c := 98) (r := 58 :: 32 :: 99 :: x :: r) a hs h1 hb (next_letter hs.1 (by decide) (by simp [Sc.stop, Sc.key, Sc.blk])) (by decide) (by decide)
    obtain ⟨s2, a2, e2, p2, q2⟩ := kind1 (c := 58) (r := 32 :: 99 :: x :: r) a1 p1 q1 (Free.drop hb) next_colon (by decide) (by decide)
    obtain ⟨s3, a3, e3, p3, q3⟩ := kind1 (c := 32) (r := 99 :: x :: r) a2 p2 q2 (Free.drop (Free.drop hb)) (next_blank rfl) (by decide) (by decide)
    obtain ⟨s4, a4, e4, p4, q4⟩ := kind1 (c := 99) (r := x :: r) a3 p3 q3 (Free.drop (Free.drop (Free.drop hb))) (next_letter p3.1 (by decide) hstop) (by decide) (by decide)
    refine ⟨s4, a4, ?_, p4, q4⟩
    rw [show itB 1 ++ x :: r = 98 :: 58 :: 32 :: 99 :: x :: r from rfl, e1]
    rw [show (98 :: 58 :: 32 :: 99 :: x :: r).drop 1 = 58 :: 32 :: 99 :: x :: r from rfl, e2]
    rw [show (58 :: 32 :: 99 :: x :: r).drop 1 = 32 :: 99 :: x :: r from rfl, e3]
    rw [show (32 :: 99 :: x :: r).drop 1 = 99 :: x :: r from rfl, e4]
    rfl
  · obtain ⟨s2, a2, e2, p2, q2⟩ := kind1 (c := 58) (r := 32 :: 100 :: x :: r) a hs h1 hb next_colon (by decide) (by decide)
    obtain ⟨s3, a3, e3, p3, q3⟩ := kind1 (c := 32) (r := 100 :: x :: r) a2 p2 q2 (Free.drop hb) (next_blank rfl) (by decide) (by decide)
    obtain ⟨s4, a4, e4, p4, q4⟩ := kind1 (c := 100) (r := x :: r) a3 p3 q3 (Free.drop (Free.drop hb)) (next_letter p3.1 (by decide) hstop) (by decide) (by decide)
    refine ⟨s4, a4, ?_, p4, q4⟩
    rw [show itB 2 ++ x :: r = 58 :: 32 :: 100 :: x :: r from rfl, e2]
    rw [show (58 :: 32 :: 100 :: x :: r).drop 1 = 32 :: 100 :: x :: r from rfl, e3]
    rw [show (32 :: 100 :: x :: r).drop 1 = 100 :: x :: r from rfl, e4]
    rfl
  · obtain ⟨s1, a1, e1, p1, q1⟩ := kind1 (c := 39) (r := 101 :: 39 :: 58 :: 32 :: x :: r) a hs h1 hb next_quoted (by decide) (by decide)
    obtain ⟨s2, a2, e2, p2, q2⟩ := kind1 (c := 58) (r := 32 :: x :: r) a1 p1 q1 (Free.drop (Free.drop (Free.drop hb))) next_colon (by decide) (by decide)
    obtain ⟨s3, a3, e3, p3, q3⟩ := kind1 (c := 32) (r := x :: r) a2 p2 q2 (Free.drop (Free.drop (Free.drop (Free.drop hb)))) (next_blank hbx) (by decide) (by decide)
    refine ⟨s3, a3, ?_, p3, q3⟩
    rw [show itB 3 ++ x :: r = 39 :: 101 :: 39 :: 58 :: 32 :: x :: r from rfl, e1]
    rw [show (39 :: 101 :: 39 :: 58 :: 32 :: x :: r).drop 3 = 58 :: 32 :: x :: r from rfl, e2]
    rw [show (58 :: 32 :: x :: r).drop 1 = 32 :: x :: r from rfl, e3]
    rfl
theorem itB_head (k : Nat) (r : List Nat) : ∃ c q, itB k ++ r = c :: q ∧ Sc.blk c = false := by
  unfold itB
  split
  · exact ⟨_, _, rfl, rfl⟩
  · exact ⟨_, _, rfl, rfl⟩
  · exact ⟨_, _, rfl, rfl⟩
  · exact ⟨_, _, rfl, rfl⟩
theorem close_kinds {s : Sc.St} {x y : Nat} (a : Nat) (hs : In s) (hxy : (x = 93 ∧ y = 10) ∨ (x = 125 ∧ y = 11)) : kinds (Sc.toksN s a [x]) = [y] := by
  have hn : Sc.next s.op s.dash s.blank false [x] = (y, 1) := by
    rcases hxy with ⟨rfl, rfl⟩ | ⟨rfl, rfl⟩
    · rw [next_word rfl (by decide)]; exact word_sign rfl (by decide)
    · rw [next_word rfl (by decide)]; exact word_sign rfl (by decide)
  rw [tok1 a hs (fun d hd => by simp at hd; subst hd; rcases hxy with ⟨rfl, _⟩ | ⟨rfl, _⟩ <;> rfl) hn]
  rfl
theorem tail_kinds {x y : Nat} (hxy : (x = 93 ∧ y = 10) ∨ (x = 125 ∧ y = 11)) : ∀ (r : List Nat) (k : Nat) (s : Sc.St) (a : Nat), In s → s.op = 1 → (∀ z ∈ k :: r, z < 4) → Free (itB k ++ (tailB r ++ [x])) →
    kinds (Sc.toksN s a (itB k ++ (tailB r ++ [x]))) = itK k ++ (tailK r ++ [y])
  | [], k, s, a => fun hs h1 hz hb => by
    obtain ⟨s1, a1, e1, p1, _⟩ := item_kinds (x := x) (r := []) a hs h1 (hz k (by simp)) (by omega) hb
    show kinds (Sc.toksN s a (itB k ++ x :: [])) = itK k ++ [y]
    rw [e1, close_kinds a1 p1 hxy]
  | k' :: r, k, s, a => fun hs h1 hz hb => by
    have hcat : tailB (k' :: r) ++ [x] = 44 :: 32 :: (itB k' ++ (tailB r ++ [x])) := by
      show 44 :: 32 :: ((itB k' ++ tailB r) ++ [x]) = _
      rw [List.append_assoc]
    rw [hcat] at hb ⊢
    have hbt : Free (44 :: 32 :: (itB k' ++ (tailB r ++ [x]))) := fun d hd => hb d (List.mem_append_right _ hd)
    obtain ⟨s1, a1, e1, p1, q1⟩ := item_kinds (x := 44) (r := 32 :: (itB k' ++ (tailB r ++ [x]))) a hs h1 (hz k (by simp)) (by omega) hb
    have hn : Sc.next s1.op s1.dash s1.blank false (44 :: 32 :: (itB k' ++ (tailB r ++ [x]))) = (7, 1) := by
      rw [next_word rfl (by decide), q1]
      exact word_sign (k := 7) (by unfold Sc.sign; rfl) (by decide)
    obtain ⟨s2, a2, e2, p2, q2⟩ := kind1 a1 p1 q1 hbt hn (by decide) (by decide)
    obtain ⟨c, q, hcq, hc⟩ := itB_head k' (tailB r ++ [x])
    have hb3 := Free.drop hbt
    have ih := fun s a h1 h2 => tail_kinds hxy r k' s a h1 h2 (fun z hz' => hz z (List.mem_cons_of_mem _ hz')) (Free.drop hb3)
    rw [hcq] at ih hb3 e2
    obtain ⟨s3, a3, e3, p3, q3⟩ := kind1 a2 p2 q2 hb3 (next_blank hc) (by decide) (by decide)
    rw [e1, hcq, e2, show (44 :: 32 :: c :: q).drop 1 = 32 :: c :: q from rfl, e3, show (32 :: c :: q).drop 1 = c :: q from rfl, ih s3 a3 p3 q3]
    show _ = itK k ++ (7 :: 3 :: ((itK k' ++ tailK r) ++ [y]))
    rw [List.append_assoc]
/-- The text between the brackets, and its brackets. -/
def allB (b x : Nat) (ks : List Nat) : List Nat := b :: ((match ks with
  | [] => []
  | k :: r => itB k ++ tailB r) ++ [x])
theorem free_all (b x : Nat) (ks : List Nat) (hb : Sc.brk b = false) (hx : Sc.brk x = false) : Free (allB b x ks) := by
  have hi : ∀ k, Free (itB k) := by
    intro k
    unfold itB
    split <;> (intro d hd; simp at hd; rcases hd with rfl | rfl | rfl | rfl | rfl <;> rfl)
  have ht : ∀ r, Free (tailB r) := by
    intro r
    induction r with
    | nil => intro d hd; simp [tailB] at hd
    | cons k r ih =>
      intro d hd
      rw [tailB, List.mem_cons, List.mem_cons, List.mem_append] at hd
      rcases hd with rfl | rfl | hd | hd
      · rfl
      · rfl
      · exact hi k d hd
      · exact ih d hd
  intro d hd
  unfold allB at hd
  rw [List.mem_cons, List.mem_append, List.mem_singleton] at hd
  rcases hd with rfl | hd | rfl
  · exact hb
  · cases ks with
    | nil => simp at hd
    | cons k r =>
      rw [List.mem_append] at hd
      rcases hd with hd | hd
      · exact hi k d hd
      · exact ht r d hd
  · exact hx
/-- The kinds of the tokens of FlowPairs' texts. -/
theorem pair_toks (dict : Bool) (ks : List Nat) (hz : ∀ z ∈ ks, z < 4) (hl : (allB (if dict = true then 123 else 91) (if dict = true then 125 else 93) ks).length ≤ 16384) :
    (Sc.tokens (allB (if dict = true then 123 else 91) (if dict = true then 125 else 93) ks)).map (·.1) = allK' (if dict = true then 9 else 8) (if dict = true then 11 else 10) ks := by
  obtain ⟨b, hb⟩ : ∃ b, (if dict = true then 123 else 91) = b := ⟨_, rfl⟩
  obtain ⟨x, hx⟩ : ∃ x, (if dict = true then 125 else 93) = x := ⟨_, rfl⟩
  obtain ⟨o, ho⟩ : ∃ o, (if dict = true then 9 else 8) = o := ⟨_, rfl⟩
  obtain ⟨y, hy⟩ : ∃ y, (if dict = true then 11 else 10) = y := ⟨_, rfl⟩
  rw [hb, hx] at hl ⊢
  rw [ho, hy]
  have hbo : (b = 91 ∧ o = 8) ∨ (b = 123 ∧ o = 9) := by cases dict <;> simp at hb ho <;> omega
  have hxy : (x = 93 ∧ y = 10) ∨ (x = 125 ∧ y = 11) := by cases dict <;> simp at hx hy <;> omega
  have hf : Free (allB b x ks) := free_all b x ks (by rcases hbo with ⟨rfl, _⟩ | ⟨rfl, _⟩ <;> rfl) (by rcases hxy with ⟨rfl, _⟩ | ⟨rfl, _⟩ <;> rfl)
  cases ks with
  | nil =>
    obtain ⟨s, e1, p1, _⟩ := toks_start (c := b) (k := o) (rest := [x]) hbo hf hl
    show kinds (Sc.tokens (b :: [x])) = _
    rw [e1]
    show o :: kinds (Sc.toksN s 1 [x]) = _
    rw [close_kinds 1 p1 hxy]
    rfl
  | cons k r =>
    have hcat : allB b x (k :: r) = b :: (itB k ++ (tailB r ++ [x])) := by
      show b :: ((itB k ++ tailB r) ++ [x]) = _
      rw [List.append_assoc]
    rw [hcat] at hf hl ⊢
    obtain ⟨s, e1, p1, q1⟩ := toks_start (c := b) (k := o) (rest := itB k ++ (tailB r ++ [x])) hbo hf hl
    rw [e1]
    show o :: kinds (Sc.toksN s 1 (itB k ++ (tailB r ++ [x]))) = o :: ((itK k ++ tailK r) ++ [y])
    rw [tail_kinds hxy r k s 1 p1 q1 hz (Free.drop hf), List.append_assoc]
end Go.Proofs.Ytmlpaafclobgcaa.Fl

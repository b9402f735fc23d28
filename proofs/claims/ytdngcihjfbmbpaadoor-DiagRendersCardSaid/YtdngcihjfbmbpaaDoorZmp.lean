/- Maps by what they answer at a key (any program): looked up, written, an entry fetched and then stored. -/
import Derived.Maps.OwnSet
import Derived.WideKeyEntry
import Derived.Below
import Derived.Laws.AppendOwn
namespace Go.Proofs.YtdngcihjfbmbpaaDoor.Mp
open Go.RowKit Go.MapKept
open Go.Maps (Keyed)
open Go.ChangeMaps (setBlock modify_eq_set heap_setBlock_same heap_setBlock_other)
open Go.WideElems (findIdx_born findIdx_arr modify_last)

open Classical in
noncomputable def upd (f : Value → Option Value) (key v : Value) : Value → Option Value := fun x => if x = key then some v else f x
theorem upd_same (f : Value → Option Value) (key v : Value) : upd f key v key = some v := by unfold upd; rw [if_pos rfl]
theorem upd_other (f : Value → Option Value) {key x : Value} (v : Value) (h : x ≠ key) : upd f key v x = f x := by unfold upd; rw [if_neg h]
theorem upd_twice (f : Value → Option Value) (key u v : Value) : upd (upd f key u) key v = upd f key v := by
  funext x
  by_cases h : x = key
  · subst h; rw [upd_same, upd_same]
  · rw [upd_other _ _ h, upd_other _ _ h, upd_other _ _ h]
theorem upd_id (f : Value → Option Value) {key v : Value} (h : f key = some v) : upd f key v = f := by
  funext x
  by_cases e : x = key
  · subst e; rw [upd_same, h]
  · rw [upd_other _ _ e]
/-- The entries es answer f. -/
structure Has (P : Program) (k : TypeId) (es : Array MapEntry) (clock n : Nat) (f : Value → Option Value) : Prop where
  st : Stamped es clock
  size : es.size ≤ n
  keys : ∀ x ∈ es.toList, ∃ l, keyOf P k x.key = some l
  vals : ∀ x ∈ es.toList, f x.key = some x.val
  none : ∀ key, (∀ x ∈ es.toList, x.key ≠ key) → f key = none
/-- The block b is a map of at most n entries; at a key it answers f. -/
def MapOf (P : Program) (k : TypeId) (w : World) (b n : Nat) (f : Value → Option Value) : Prop :=
  ∃ es clock, w.heap[b]? = some (.map es clock) ∧ Has P k es clock n f
section
variable {P : Program} {k t e : TypeId} {w w' : World} {b n : Nat} {f : Value → Option Value} {es : Array MapEntry} {clock : Nat}
theorem Has.push (h : Has P k es clock n f) {key : Value} {l : Lit} (hk : keyOf P k key = some l) (hne : ∀ x ∈ es.toList, x.key ≠ key) (val : Value) : Has P k (es.push ⟨key, val, clock⟩) (clock + 1) (n + 1) (upd f key val) := by
  refine ⟨stamped_push h.st hne, by have := h.size; simp; omega, fun x hx => ?_, fun x hx => ?_, fun q hq => ?_⟩
  · simp only [Array.toList_push, List.mem_append, List.mem_singleton] at hx
    rcases hx with hx | rfl
    · exact h.keys x hx
    · exact ⟨l, hk⟩
  · simp only [Array.toList_push, List.mem_append, List.mem_singleton] at hx
    rcases hx with hx | rfl
    · rw [upd_other _ _ (hne x hx)]; exact h.vals x hx
    · exact upd_same _ _ _
  · have hqk : q ≠ key := fun e1 => hq ⟨key, val, clock⟩ (by simp) e1.symm
    rw [upd_other _ _ hqk]
    exact h.none q (fun x hx => hq x (by simp only [Array.toList_push, List.mem_append]; exact Or.inl hx))
theorem Has.set (h : Has P k es clock n f) {key : Value} {l : Lit} (hk : keyOf P k key = some l) {j : Nat} {e0 : MapEntry} (h2 : es.toList[j]? = some e0) (h3 : e0.key = key) (val : Value) : Has P k (es.modify j (fun e' => { e' with key := key, val := val })) clock n (upd f key val) := by
  have hj : es[j]? = some e0 := by simpa using h2
  have hlist : (es.modify j (fun e' => { e' with key := key, val := val })).toList = es.toList.set j { e0 with key := key, val := val } := by rw [Array.toList_modify, modify_eq_set _ _ _ _ h2]
  have hjl : j < es.toList.length := (List.getElem?_eq_some_iff.1 h2).1
  have hj0 : es.toList[j] = e0 := (List.getElem?_eq_some_iff.1 h2).2
  have who : ∀ x ∈ es.toList.set j { e0 with key := key, val := val }, x = { e0 with key := key, val := val } ∨ (x ∈ es.toList ∧ x.key ≠ key) := by
    intro x hx
    obtain ⟨i, hi, ex⟩ := List.getElem_of_mem hx
    rw [List.getElem_set] at ex
    split at ex
    · exact Or.inl ex.symm
    · rename_i hne
      have hi' : i < es.toList.length := by simpa using hi
      refine Or.inr ⟨ex ▸ List.getElem_mem hi', fun e1 => hne ?_⟩
      have hn := List.pairwise_iff_getElem.1 ((stamped_iff es clock).1 h.st).2.2
      rcases Nat.lt_trichotomy i j with hlt | rfl | hlt
      · exact absurd (by rw [ex, hj0, e1, h3]) (hn i j hi' hjl hlt)
      · rfl
      · exact absurd (by rw [ex, hj0, e1, h3]) (hn j i hjl hi' hlt)
  refine ⟨stamped_modify h.st _ _ (fun _ _ => rfl) (fun e' _ he' => by rw [hj] at he'; cases he'; exact h3.symm), by simpa using h.size, fun x hx => ?_, fun x hx => ?_, fun q hq => ?_⟩
  · rw [hlist] at hx
    rcases who x hx with rfl | ⟨hx, _⟩
    · exact ⟨l, hk⟩
    · exact h.keys x hx
  · rw [hlist] at hx
    rcases who x hx with rfl | ⟨hx, hne⟩
    · exact upd_same _ _ _
    · rw [upd_other _ _ hne]; exact h.vals x hx
  · rw [hlist] at hq
    have hqk : q ≠ key := fun e1 => hq { e0 with key := key, val := val } (List.mem_iff_getElem.2 ⟨j, by simpa using hjl, by simp⟩) e1.symm
    rw [upd_other _ _ hqk]
    refine h.none q (fun x hx e1 => ?_)
    obtain ⟨i, hi, ex⟩ := List.getElem_of_mem hx
    by_cases hij : j = i
    · subst hij
      rw [hj0] at ex
      exact hqk (by rw [← e1, ← ex, h3])
    · exact hq x (List.mem_iff_getElem.2 ⟨i, by simpa using hi, by rw [List.getElem_set_ne hij]; exact ex⟩) e1
theorem MapOf.made (w : World) (P : Program) (k : TypeId) : MapOf P k (w.alloc (.map #[] 0)) w.heap.size 0 (fun _ => none) :=
  ⟨#[], 0, (MapKept.heap_alloc w _).1, stamped_empty 0, Nat.le_refl _, by simp, by simp, fun _ _ => rfl⟩
theorem MapOf.lt (h : MapOf P k w b n f) : b < w.heap.size := by
  obtain ⟨es, clock, hb, _⟩ := h
  exact (Array.getElem?_eq_some_iff.1 hb).1
theorem MapOf.same (h : MapOf P k w b n f) (hb : w'.heap[b]? = w.heap[b]?) : MapOf P k w' b n f := by
  obtain ⟨es, clock, h1, h2⟩ := h
  exact ⟨es, clock, hb.trans h1, h2⟩
theorem MapOf.below (h : MapOf P k w b n f) (hb : Below w.heap.size w w') : MapOf P k w' b n f := h.same (hb.block b h.lt)
theorem MapOf.mono (h : MapOf P k w b n f) {m : Nat} (hm : n ≤ m) : MapOf P k w b m f := by
  obtain ⟨es, clock, h1, h2⟩ := h
  exact ⟨es, clock, h1, h2.st, Nat.le_trans h2.size hm, h2.keys, h2.vals, h2.none⟩
theorem MapOf.setCell (h : MapOf P k w b n f) {a : Addr} (ha : b ≠ a.block) (u : Value) : MapOf P k (w.setCell a u) b n f := h.same (Below.heap_setCell _ _ _ _ ha)
/-- Looked up: the world does not turn. -/
theorem MapOf.look (h : MapOf P k w b n f) (c : Bool) (K : Keyed P k) (ht : P.underlying t = some (.map k e)) {z : Value} (hz : (zeroValue e).run P w = .ok z w) {key : Value} {l : Lit} (hkey : keyOf P k key = some l) :
    (Instr.lookup t (.map (some b)) key c).run P w = .ok (if c then .tuple #[(f key).getD z, .bool (f key).isSome] else (f key).getD z) w := by
  obtain ⟨es, clock, hb, H⟩ := h
  rcases K.find w hkey es.toList H.keys with ⟨h1, h2⟩ | ⟨j, e0, h1, h2, h3⟩
  · rw [H.none key h2]
    simp [Instr.lookup, run_underlying ht, MapKept.run_getObj_map hb, K.check w _ hkey, h1, hz, Result.andThen]
  · have hv := H.vals e0 (List.mem_of_getElem? h2)
    rw [h3] at hv
    rw [hv]
    simp [Instr.lookup, run_underlying ht, MapKept.run_getObj_map hb, K.check w _ hkey, h1, Result.andThen]
theorem grown_set (hb : w.heap[b]? = some (.map es clock)) (o : Obj) : w.grownBy (setBlock w b o) (some b) :=
  ⟨rfl, rfl, rfl, by simp [setBlock], fun i _ hi => heap_setBlock_other hb _ (fun e => hi (by rw [e]))⟩
/-- Written. -/
theorem MapOf.put (h : MapOf P k w b n f) (K : Keyed P k) (ht : P.underlying t = some (.map k e)) {key : Value} {l : Lit} (hkey : keyOf P k key = some l) (val : Value) :
    ∃ w', (Instr.mapUpdate t (.map (some b)) key val).run P w = .ok () w' ∧ MapOf P k w' b (n + 1) (upd f key val) ∧ w.grownBy w' (some b) := by
  obtain ⟨es, clock, hb, H⟩ := h
  rcases K.find w hkey es.toList H.keys with ⟨h1, h2⟩ | ⟨j, e0, h1, h2, h3⟩
  · refine ⟨setBlock w b (.map (es.push ⟨key, val, clock⟩) (clock + 1)), ?_, ⟨_, _, heap_setBlock_same hb _, H.push hkey h2 val⟩, grown_set hb _⟩
    simp [Instr.mapUpdate, run_underlying ht, MapKept.run_getObj_map hb, K.check w false hkey, h1, MapKept.run_setObj_map _ hb, Result.andThen, setBlock]
  · have hj : es[j]? = some e0 := by simpa using h2
    refine ⟨setBlock w b (.map (es.modify j (fun e' => { e' with key := key, val := val })) clock), ?_, MapOf.mono ⟨_, _, heap_setBlock_same hb _, H.set hkey h2 h3 val⟩ (Nat.le_succ _), grown_set hb _⟩
    simp [Instr.mapUpdate, run_underlying ht, MapKept.run_getObj_map hb, K.check w false hkey, h1, hj, h3, K.stays w hkey, MapKept.run_setObj_map _ hb, Result.andThen, setBlock]
/-- An entry fetched; what is stored into it later, wherever the map is as it was left. -/
theorem MapOf.entry (h : MapOf P k w b n f) (K : Keyed P k) (ht : P.underlying t = some (.map k e)) {z : Value} (hz : ∀ u : World, (zeroValue e).run P u = .ok z u) {key : Value} {l : Lit} (hkey : keyOf P k key = some l) :
    ∃ (st : Nat) (w1 : World), (Instr.mapEntry t (.map (some b)) key).run P w = .ok (.tuple #[(f key).getD z, goInt st]) w1 ∧ MapOf P k w1 b (n + 1) (upd f key ((f key).getD z)) ∧ w.grownBy w1 (some b) ∧
      ∀ (w2 : World) (val : Value), w2.heap[b]? = w1.heap[b]? → ∃ w3, (Instr.entryStore t (.map (some b)) (goInt st) val).run P w2 = .ok () w3 ∧ MapOf P k w3 b (n + 1) (upd f key val) ∧ w2.grownBy w3 (some b) := by
  obtain ⟨es, clock, hb, H⟩ := h
  obtain ⟨s1, s2, _⟩ := H.st
  rcases K.find w hkey es.toList H.keys with ⟨h1, h2⟩ | ⟨j, e0, h1, h2, h3⟩
  · rw [H.none key h2]
    refine ⟨clock, setBlock w b (.map (es.push ⟨key, z, clock⟩) (clock + 1)), ?_, ⟨_, _, heap_setBlock_same hb _, H.push hkey h2 z⟩, grown_set hb _, fun w2 val hw => ?_⟩
    · simp [Instr.mapEntry, run_underlying ht, MapKept.run_getObj_map hb, K.check w false hkey, h1, hz, MapKept.run_setObj_map _ hb, Result.andThen, setBlock]
    · have hw2 : w2.heap[b]? = some (.map (es.push ⟨key, z, clock⟩) (clock + 1)) := hw.trans (heap_setBlock_same hb _)
      have hidx : (es.push ⟨key, z, clock⟩).findIdx? (fun e => ((e.born : Nat) : Int) == ((clock : Nat) : Int)) = some es.size := by
        rw [findIdx_arr]
        exact findIdx_born (l := (es.push ⟨key, z, clock⟩).toList) (j := es.size) (e0 := ⟨key, z, clock⟩) (by
          simp only [Array.toList_push, List.map_append, List.map_cons, List.map_nil]
          refine List.nodup_append.2 ⟨s2, by simp, fun a ha c hc e1 => ?_⟩
          simp only [List.mem_singleton] at hc
          obtain ⟨x, hx, rfl⟩ := List.mem_map.1 ha
          have := s1 x hx
          omega) (by simp)
      have hmod : (es.push ⟨key, z, clock⟩).modify es.size (fun e => { e with val := val }) = es.push ⟨key, val, clock⟩ := by
        apply Array.ext'
        rw [Array.toList_modify, Array.toList_push, Array.toList_push, ← Array.length_toList, modify_last]
      refine ⟨setBlock w2 b (.map (es.push ⟨key, val, clock⟩) (clock + 1)), ?_, ⟨_, _, heap_setBlock_same hw2 _, H.push hkey h2 val⟩, grown_set hw2 _⟩
      simp [Instr.entryStore, MapKept.run_getObj_map hw2, asInt, asIntOf, goInt, hidx, hmod, MapKept.run_setObj_map _ hw2, Result.andThen, setBlock]
  · have hj : es[j]? = some e0 := by simpa using h2
    have hv := H.vals e0 (List.mem_of_getElem? h2)
    rw [h3] at hv
    have hsame : es.modify j (fun e => { e with key := key }) = es := by
      apply Array.ext'
      rw [Array.toList_modify, modify_eq_set _ _ _ _ h2]
      have : ({ e0 with key := key } : MapEntry) = e0 := by rw [← h3]
      rw [this]
      exact WideElems.set_self _ _ _ h2
    rw [hv]
    refine ⟨e0.born, setBlock w b (.map es clock), ?_, ?_, grown_set hb _, fun w2 val hw => ?_⟩
    · simp [Instr.mapEntry, run_underlying ht, MapKept.run_getObj_map hb, K.check w false hkey, h1, hj, h3, K.stays w hkey, hsame, MapKept.run_setObj_map _ hb, Result.andThen, setBlock]
    · rw [Option.getD_some, upd_id f hv]
      exact MapOf.mono ⟨_, _, heap_setBlock_same hb _, H⟩ (Nat.le_succ _)
    · have hw2 : w2.heap[b]? = some (.map es clock) := hw.trans (heap_setBlock_same hb _)
      have hidx : es.findIdx? (fun e => ((e.born : Nat) : Int) == ((e0.born : Nat) : Int)) = some j := by
        rw [findIdx_arr]
        exact findIdx_born s2 h2
      have hmod : es.modify j (fun e => { e with val := val }) = es.modify j (fun e' => { e' with key := key, val := val }) := by
        apply Array.ext'
        rw [Array.toList_modify, Array.toList_modify, modify_eq_set _ _ _ _ h2, modify_eq_set _ _ _ _ h2, ← h3]
      refine ⟨setBlock w2 b (.map (es.modify j (fun e' => { e' with key := key, val := val })) clock), ?_, MapOf.mono ⟨_, _, heap_setBlock_same hw2 _, H.set hkey h2 h3 val⟩ (Nat.le_succ _), grown_set hw2 _⟩
      simp [Instr.entryStore, MapKept.run_getObj_map hw2, asInt, asIntOf, goInt, hidx, hmod, MapKept.run_setObj_map _ hw2, Result.andThen, setBlock]
/-- The two operations, where a region draws its order. -/
theorem step_entry {ops : Array Oper} {o : Oper} {a : Act} {K : Act → World → Prop} {Q : Exit → Act → World → Prop} {E : Prop} (hgd : o.guard = none) (m x : Operand) (ho : o.op = .mapEntry t m x) (mv key r : Value) (hm : a.eval m = mv) (hx : a.eval x = key)
    (hrun : (Instr.mapEntry t mv key).run P w = .ok r w') (h : K (a.put o.dst r) w') : if Region.wanted o (yielded ops a.tmps) = true then Oper.wp P o a w K Q else E := by
  rw [if_pos (by simp [Region.wanted, hgd])]
  unfold Oper.wp
  simp [execOp, ho, hm, hx, hrun, Result.andThen]
  exact h
theorem step_estore {ops : Array Oper} {o : Oper} {a : Act} {K : Act → World → Prop} {Q : Exit → Act → World → Prop} {E : Prop} (hgd : o.guard = none) (m s x : Operand) (ho : o.op = .entryStore t m s x) (mv sv xv : Value) (hm : a.eval m = mv) (hs : a.eval s = sv) (hx : a.eval x = xv)
    (hrun : (Instr.entryStore t mv sv xv).run P w = .ok () w') (h : K (a.put o.dst undef) w') : if Region.wanted o (yielded ops a.tmps) = true then Oper.wp P o a w K Q else E := by
  rw [if_pos (by simp [Region.wanted, hgd])]
  unfold Oper.wp
  simp [execOp, ho, hm, hs, hx, hrun, Result.andThen]
  exact h
end
end Go.Proofs.YtdngcihjfbmbpaaDoor.Mp

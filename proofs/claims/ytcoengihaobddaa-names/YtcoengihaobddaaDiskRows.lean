/- Rows of many cells an element, as lists of lists: an element's cells, an element written; plain lists and worlds, no function of the program. -/
import Derived.Test.YtcoengihaobddaaDiskWorld
namespace Go.Proofs.Ytcoengihaobddaa.disk
open Go.RowKit

theorem flat_len {α : Type} (c : Nat) : ∀ (l : List (List α)), (∀ b ∈ l, b.length = c) → l.flatten.length = l.length * c
  | [], _ => by simp
  | b :: l, h => by
    rw [List.flatten_cons, List.length_append, flat_len c l (fun x hx => h x (List.mem_cons_of_mem _ hx)), h b (List.mem_cons_self ..), List.length_cons, Nat.add_mul]; omega
theorem flat_drop {α : Type} (c : Nat) : ∀ (l : List (List α)), (∀ b ∈ l, b.length = c) → ∀ i, i ≤ l.length → l.flatten.drop (i * c) = (l.drop i).flatten
  | _, _, 0, _ => by simp
  | [], _, i + 1, hi => by simp at hi
  | b :: l, h, i + 1, hi => by
    have hb := h b (List.mem_cons_self ..)
    rw [List.flatten_cons, List.drop_succ_cons, Nat.add_mul, Nat.one_mul, ← hb, Nat.add_comm, ← List.drop_drop, List.drop_left, hb]
    exact flat_drop c l (fun x hx => h x (List.mem_cons_of_mem _ hx)) i (by simpa using hi)
theorem flat_take {α : Type} (c : Nat) : ∀ (l : List (List α)), (∀ b ∈ l, b.length = c) → ∀ i, i ≤ l.length → l.flatten.take (i * c) = (l.take i).flatten
  | _, _, 0, _ => by simp
  | [], _, i + 1, hi => by simp at hi
  | b :: l, h, i + 1, hi => by
    have hb := h b (List.mem_cons_self ..)
    rw [List.flatten_cons, List.take_succ_cons, List.flatten_cons, Nat.add_mul, Nat.one_mul, ← hb, Nat.add_comm, List.take_length_add_append, hb]
    rw [flat_take c l (fun x hx => h x (List.mem_cons_of_mem _ hx)) i (by simpa using hi)]
theorem flat_at {α : Type} (c : Nat) (l : List (List α)) (h : ∀ b ∈ l, b.length = c) (i : Nat) (hi : i < l.length) : (l.flatten.drop (i * c)).take c = l[i] := by
  rw [flat_drop c l h i (Nat.le_of_lt hi), List.drop_eq_getElem_cons hi, List.flatten_cons]
  have hb := h l[i] (List.getElem_mem hi)
  conv => lhs; rw [← hb]
  exact List.take_left ..
theorem flat_set {α : Type} (c : Nat) (l : List (List α)) (h : ∀ b ∈ l, b.length = c) (i : Nat) (hi : i < l.length) (v : List α) :
    l.flatten.take (i * c) ++ v ++ l.flatten.drop (i * c + c) = (l.set i v).flatten := by
  rw [flat_take c l h i (Nat.le_of_lt hi), show i * c + c = (i + 1) * c from by rw [Nat.add_mul, Nat.one_mul], flat_drop c l h (i + 1) hi, List.set_eq_take_append_cons_drop, if_pos hi]
  simp

/-- A row of cells, behind a store of many. -/
theorem heap_setCells_other (b k : Nat) (h : k ≠ b) : ∀ (vs : List Value) (o : Nat) (w : World), (w.setCells b o vs).heap[k]? = w.heap[k]?
  | [], _, _ => rfl
  | v :: r, o, w => by rw [World.setCells, heap_setCells_other b k h r (o + 1)]; exact heap_setCell_other w ⟨b, o, none⟩ k v h
theorem size_setCells (b : Nat) : ∀ (vs : List Value) (o : Nat) (w : World), (w.setCells b o vs).heap.size = w.heap.size
  | [], _, _ => rfl
  | v :: r, o, w => by rw [World.setCells, size_setCells b r (o + 1)]; simp
theorem cut_mid (A B : List Value) (v : Value) (o k : Nat) (h : A.length = o) : (A ++ v :: B).take (o + 1) = A ++ [v] ∧ (A ++ v :: B).drop (o + 1 + k) = B.drop k := by
  subst h
  refine ⟨by rw [List.take_length_add_append]; rfl, ?_⟩
  rw [Nat.add_assoc, ← List.drop_drop, List.drop_left, Nat.add_comm, List.drop_succ_cons]
theorem heap_setCells_same (b : Nat) (t : TypeId) : ∀ (vs : List Value) (o : Nat) (w : World) (cur : Array Value), w.heap[b]? = some (.cells cur t (0, 0)) → o + vs.length ≤ cur.size →
    (w.setCells b o vs).heap[b]? = some (.cells (cur.toList.take o ++ vs ++ cur.toList.drop (o + vs.length)).toArray t (0, 0))
  | [], o, w, cur, h, _ => by rw [World.setCells, h]; simp
  | v :: r, o, w, cur, h, hl => by
    simp only [List.length_cons] at hl
    have ho : o < cur.size := by omega
    rw [World.setCells, heap_setCells_same b t r (o + 1) _ (cur.setIfInBounds o v) (by rw [heap_setCell_same w b o cur t v h]) (by simp; omega)]
    congr 2
    apply Array.ext'
    simp only [Array.toList_setIfInBounds, List.length_cons]
    rw [List.set_eq_take_append_cons_drop, if_pos (by simpa using ho)]
    obtain ⟨k1, k2⟩ := cut_mid (cur.toList.take o) (cur.toList.drop (o + 1)) v o r.length (by simp; omega)
    rw [k1, k2, List.drop_drop, show o + 1 + r.length = o + (r.length + 1) from by omega]
    simp

/-- An element's cells. -/
theorem owns_range {w : World} {e : TypeId} {c : Nat} {g cap : Nat} {l : List (List Value)} (h : w.ownsRow 0 e c (.slice (some ⟨g, 0, none⟩) l.length cap) l.length l.flatten)
    (hl : ∀ b ∈ l, b.length = c) (i : Nat) (hi : i < l.length) : w.rangeAt g (i * c) l[i] := by
  intro j v hv
  have hj : j < c := by have := (List.getElem?_eq_some_iff.1 hv).1; rw [hl l[i] (List.getElem_mem hi)] at this; exact this
  have hx := h.cells (g := g) rfl (i * c + j) v (by
    rw [← flat_at c l hl i hi, List.getElem?_take, if_pos hj, List.getElem?_drop] at hv
    exact hv)
  rw [Addr.add_mid] at hx
  simpa using hx
theorem owns_there {w : World} {e : TypeId} {c : Nat} {g cap : Nat} {l : List (List Value)} (h : w.ownsRow 0 e c (.slice (some ⟨g, 0, none⟩) l.length cap) l.length l.flatten)
    (hl : ∀ b ∈ l, b.length = c) (i : Nat) (hi : i < l.length) : w.there g (i * c) c := by
  intro j hj
  refine ⟨?_, ?_⟩
  · have := (owns_range h hl i hi).isSome j (by rw [hl l[i] (List.getElem_mem hi)]; exact hj)
    exact this
  · rcases h.2 with ⟨h0, _⟩ | ⟨g', cap', cur, hv, _, hg, _⟩
    · cases h0
    · cases hv
      exact frozen_of_row w g _ _ _ hg
/-- An element written. -/
theorem owns_set {w : World} {e : TypeId} {c : Nat} {g cap : Nat} {l : List (List Value)} (h : w.ownsRow 0 e c (.slice (some ⟨g, 0, none⟩) l.length cap) l.length l.flatten)
    (hl : ∀ b ∈ l, b.length = c) (i : Nat) (hi : i < l.length) (v : List Value) (hv : v.length = c) :
    (w.setCells g (i * c) v).ownsRow 0 e c (.slice (some ⟨g, 0, none⟩) l.length cap) l.length (l.set i v).flatten := by
  have hl' : ∀ b ∈ l.set i v, b.length = c := fun b hb => by
    rcases List.mem_or_eq_of_mem_set hb with hb | rfl
    · exact hl b hb
    · exact hv
  refine ⟨by rw [flat_len c _ hl', List.length_set], ?_⟩
  rcases h.2 with ⟨h0, _⟩ | ⟨g', cap', cur, hv', hb, hg, hnc, hcm, hcs, htake⟩
  · cases h0
  · cases hv'
    have hfit : i * c + v.length ≤ l.length * c := by
      rw [hv]; have := Nat.mul_le_mul_right c (show i + 1 ≤ l.length from hi); rw [Nat.add_mul, Nat.one_mul] at this; exact this
    have hfit2 : l.length * c ≤ cur.size := by rw [hcs]; exact Nat.mul_le_mul_right c hnc
    refine .inr ⟨g, cap, _, rfl, hb, heap_setCells_same g e v (i * c) w cur hg (by omega), hnc, hcm, ?_, ?_⟩
    · simp only [List.size_toArray, List.length_append, List.length_take, List.length_drop, Array.length_toList]; omega
    · rw [List.toList_toArray, ← flat_set c l hl i hi v, ← htake]
      have e1 : (cur.toList.take (i * c)).length = i * c := by simp; omega
      rw [List.take_take, Nat.min_eq_left (by omega), List.append_assoc, List.append_assoc, List.take_append, e1, List.take_of_length_le (by rw [e1]; omega), List.take_append,
        List.take_of_length_le (show v.length ≤ l.length * c - i * c by omega), hv, List.drop_take]
      congr 3
      omega
end Go.Proofs.Ytcoengihaobddaa.disk

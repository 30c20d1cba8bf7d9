/- The walk of the disk's New: for every number. -/
import Derived.Test.YtcoengihaobddaaDiskRows
import Derived.Test.YtcoengihaobddaaDisk1
import Derived.Laws.MakeOwn
namespace Go.Proofs.Ytcoengihaobddaa.disk
open Go.ChangeShapes Go.WideShapes Go.ChangeAt Go.RowKit

/-- A block of noughts. -/
def zeroB : List Value := List.replicate 128 (.int .u8 0)
theorem Try.infoBlock : (Try.prog.info? 30).map (fun i => (i.zero, i.size, i.bytes)) = some (some (.agg zeroB.toArray), 128, 128) := by kernel_rfl
theorem zeroB_ok : BlkOk zeroB := ⟨by simp [zeroB], fun v hv => by rw [List.eq_of_mem_replicate hv]; rfl⟩
theorem zeros_flat : ∀ n, (List.replicate n zeroB).flatten = List.replicate (n * 128) (Value.int .u8 0)
  | 0 => by simp
  | n + 1 => by rw [List.replicate_succ, List.flatten_cons, zeros_flat n, Nat.add_mul, Nat.one_mul, Nat.add_comm, ← List.replicate_append_replicate]; rfl
theorem made_const (z : Array Value) (v : Value) (hz : 0 < z.size) (h : ∀ i (hi : i < z.size), z[i] = v) (n : Nat) : (madeCells z n).toList = List.replicate n v := by
  apply List.ext_getElem
  · simp [madeCells]
  · intro i h1 h2
    have hm : i % z.size < z.size := Nat.mod_lt _ hz
    simp only [madeCells, Array.toList_map, List.getElem_map, Array.getElem_toList, Array.getElem_range, List.getElem_replicate]
    rw [getElem!_pos z _ hm]
    exact h _ hm
theorem made_zeros (n : Nat) : (madeCells (Value.agg zeroB.toArray).cells n).toList = List.replicate n (Value.int .u8 0) := by
  have e : (Value.agg zeroB.toArray).cells = zeroB.toArray := rfl
  have hs : zeroB.toArray.size = 128 := by rw [List.size_toArray]; exact zeroB_ok.1
  rw [e]
  refine made_const _ _ (by omega) (fun i hi => ?_) n
  rw [List.getElem_toArray]
  exact List.eq_of_mem_replicate (List.getElem_mem _)

/-- A disk of so many blocks, all of them noughts. -/
def Dk.fresh (n : Nat) : Dk := { bs := List.replicate n zeroB, ps := [], fuse := -1, reads := 0 }
/-- How many blocks New gives. -/
def sized (n : Int) : Nat := if n < 0 ∨ 1000 < n then 0 else n.toNat

theorem fresh_at (w : World) (n : Nat) (hn : n ≤ 1000) :
    DiskAt ((w.alloc (.cells (madeCells (Value.agg zeroB.toArray).cells (n * 128)) 30)).alloc
      (.cells #[.slice (some ⟨w.heap.size, 0, none⟩) n n, .slice none 0 0, .int .i64 (-1), .int .i64 0] 41)) (w.heap.size + 1) (fun k => k = w.heap.size + 1 ∨ k = w.heap.size) (Dk.fresh n) (some ⟨w.heap.size, 0, none⟩) none n 0 := by
  have hl : (List.replicate n zeroB).length = n := by simp
  refine ⟨⟨fun b hb => by rw [List.eq_of_mem_replicate hb]; exact zeroB_ok, fun p hp => (by cases hp), by simpa [Dk.fresh] using hn⟩, ?_, ?_, World.ownsRow_nil _ _ _ _, ?_, ?_, ?_, ?_⟩
  · simp only [Dk.fresh, hl, List.length_nil]
    exact heap_alloc2_new w _ _
  · simp only [Dk.fresh, hl]
    refine World.ownsRow.alloc ⟨?_, .inr ⟨w.heap.size, n, _, rfl, Nat.zero_le _, heap_alloc_new w _, Nat.le_refl _, by unfold maxLen; omega, by rw [size_madeCells], ?_⟩⟩ _
    · rw [zeros_flat]; simp
    · rw [made_zeros, zeros_flat, List.take_of_length_le (by simp)]
  · intro k; simp [Value.ownBlock, eq_comm]
  · simp [Value.ownBlock]
  · simp [Value.ownBlock]
  · intro k _; simp [Value.ownBlock]

set_option maxHeartbeats 400000 in
theorem new_any (w : World) (n : Int) (hi : IntOk n) :
    Calls Try.prog 11 #[.int .i64 n] w fun e w' =>
      e = .returned (.pointer (some ⟨w.heap.size + 1, 0, none⟩)) ∧ Disk w' (w.heap.size + 1) (fun k => k = w.heap.size + 1 ∨ k = w.heap.size) (Dk.fresh (sized n)) ∧ Kept (fun _ => False) w w' := by
  obtain ⟨i0, hi0, hz0, hz1, hz2⟩ := info_parts Try.infoBlock
  obtain ⟨hi1, hi2⟩ := hi
  have HN : Hid (∀ m : Nat, m ≤ 1000 → ∀ W : World, (Instr.makeSlice 38 (.int .i64 m) (.int .i64 m)).run Try.prog W =
      .ok (.slice (some ⟨W.heap.size, 0, none⟩) m m) (W.alloc (.cells (madeCells (Value.agg zeroB.toArray).cells (m * 128)) 30))) := fun m hm W => by
    have := run_make (P := Try.prog) W 38 30 i0 _ Try.underlying38 hi0 hz0 .i64 .i64 m m (by omega) (by omega) (by rw [hz2]; omega) (by omega)
    rw [hz1] at this
    simpa using this
  clear hi0 hz0 hz1 hz2
  by_cases hn : n < 0 ∨ 1000 < n
  · have HZ : Hid (sized n = 0) := if_pos hn
    have hmk : ∀ W : World, (Instr.makeSlice 38 (.int .i64 0) (.int .i64 0)).run Try.prog W = .ok (.slice (some ⟨W.heap.size, 0, none⟩) 0 0) (W.alloc (.cells (madeCells (Value.agg zeroB.toArray).cells (0 * 128)) 30)) := HN.out 0 (by omega)
    generalize hZ : madeCells (Value.agg zeroB.toArray).cells (0 * 128) = Z at hmk
    have HZZ : Hid (madeCells (Value.agg zeroB.toArray).cells (0 * 128) = Z) := hZ
    clear hZ HN
    by_cases hlo : n < 0
    · clear hn
      go_enter Try.func11, Try.ntmps11
      go_wp2
      go_ret
      refine ⟨rfl, ?_, (Kept.alloc _ _ _).trans (Kept.alloc _ _ _) (fun _ h => .inl h)⟩
      rw [HZ.out, ← HZZ.out]
      exact ⟨_, _, _, _, fresh_at w 0 (by omega)⟩
    · have hhi : 1000 < n := by omega
      clear hn
      go_enter Try.func11, Try.ntmps11
      go_wp2
      go_ret
      refine ⟨rfl, ?_, (Kept.alloc _ _ _).trans (Kept.alloc _ _ _) (fun _ h => .inl h)⟩
      rw [HZ.out, ← HZZ.out]
      exact ⟨_, _, _, _, fresh_at w 0 (by omega)⟩
  · obtain ⟨m, rfl⟩ : ∃ m : Nat, n = m := ⟨n.toNat, by omega⟩
    have hlo : ¬ (m : Int) < 0 := by omega
    have hm : m ≤ 1000 := by omega
    have HZ : Hid (sized (m : Int) = m) := by show sized (m : Int) = m; unfold sized; rw [if_neg hn]; simp
    have hmk := HN.out m hm
    generalize hZ : madeCells (Value.agg zeroB.toArray).cells (m * 128) = Z at hmk
    have HZZ : Hid (madeCells (Value.agg zeroB.toArray).cells (m * 128) = Z) := hZ
    clear hZ HN hn
    go_enter Try.func11, Try.ntmps11
    go_wp2
    go_ret
    refine ⟨rfl, ?_, (Kept.alloc _ _ _).trans (Kept.alloc _ _ _) (fun _ h => .inl h)⟩
    rw [HZ.out, ← HZZ.out]
    exact ⟨_, _, _, _, fresh_at w m hm⟩
end Go.Proofs.Ytcoengihaobddaa.disk

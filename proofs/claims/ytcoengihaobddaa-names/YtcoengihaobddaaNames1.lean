/- The walks of 'errors' and 'limits'; what a run of calls on one disk leaves, with variables beside it. -/
import Derived.Test.YtcoengihaobddaaDisk9
import Derived.Test.YtcoengihaobddaaDisk3b
namespace Go.Proofs.Ytcoengihaobddaa.disk
open Go.ChangeShapes Go.WideShapes Go.ChangeAt Go.RowKit

theorem num_any (n : Int) (w : World) : Calls Try.prog 10 #[.int .i64 n] w fun e w' => e = .returned (.int .i64 n) ∧ w' = w := by
  go_enter Try.func10, Try.ntmps10
  go_wp2
  go_ret
  exact ⟨rfl, rfl⟩
set_option maxHeartbeats 400000 in
theorem errors_any (w : World) : Calls Try.prog 5 #[] w fun e w' => e = .returned (.bool true) ∧ w' = w := by
  go_enter Try.func5, Try.ntmps5
  go_wp2_with (go_at_call 10; refine (num_any _ _).mono ?_; rintro e w' ⟨rfl, rfl⟩)
  go_ret
  exact ⟨rfl, rfl⟩
theorem limits_any (w : World) : Calls Try.prog 6 #[] w fun e w' => e = .returned (.bool true) ∧ w' = w := by
  go_enter Try.func6, Try.ntmps6
  go_wp2
  go_ret
  exact ⟨rfl, rfl⟩

/-- A disk of one's own that has come to D since the world was w0, and variables of blocks beside it. -/
structure St (T : Nat → Prop) (w0 w : World) (bd : Nat) (S : Nat → Prop) (D : Dk) (V : List (Nat × List Value)) : Prop where
  disk : Disk w bd S D
  kept : Kept T w0 w
  new : ∀ k, S k → w0.heap.size ≤ k
  vars : ∀ p ∈ V, w.heap[p.1]? = some (.cells p.2.toArray 30 (0, 0)) ∧ ¬ S p.1 ∧ w0.heap.size ≤ p.1

theorem St.next {T : Nat → Prop} {w0 w w' : World} {bd : Nat} {S S' : Nat → Prop} {D D' : Dk} {V : List (Nat × List Value)} (h : St T w0 w bd S D V) (hk : Kept S w w') (hd : Disk w' bd S' D') (hs : ∀ k, S' k → S k ∨ w.heap.size ≤ k) : St T w0 w' bd S' D' V := by
  refine ⟨hd, h.kept.trans hk (fun k hk => .inr (h.new k hk)), fun k hk => ?_, fun p hp => ?_⟩
  · rcases hs k hk with h1 | h1
    · exact h.new k h1
    · exact Nat.le_trans h.kept.size h1
  · obtain ⟨v1, v2, v3⟩ := h.vars p hp
    have hl : p.1 < w.heap.size := (Array.getElem?_eq_some_iff.1 v1).1
    refine ⟨(hk.block p.1 hl v2).trans v1, fun hc => ?_, v3⟩
    rcases hs p.1 hc with h1 | h1
    · exact v2 h1
    · omega
theorem St.same {T : Nat → Prop} {w0 w w' : World} {bd : Nat} {S : Nat → Prop} {D D' : Dk} {V : List (Nat × List Value)} (h : St T w0 w bd S D V) (hk : Kept (fun k => k = bd) w w') (hd : Disk w' bd S D') : St T w0 w' bd S D' V :=
  h.next (hk.mono (fun k hk => by rw [hk]; exact h.disk.bdS)) hd (fun _ hk => .inl hk)
theorem St.less {T : Nat → Prop} {w0 w w' : World} {bd : Nat} {S : Nat → Prop} {D D' : Dk} {V : List (Nat × List Value)} (h : St T w0 w bd S D V) (hk : Kept S w w') (hd : ∃ S', Disk w' bd S' D' ∧ ∀ k, S' k → S k) : ∃ S', St T w0 w' bd S' D' V := by
  obtain ⟨S', h1, h2⟩ := hd
  exact ⟨S', h.next hk h1 (fun k hk => .inl (h2 k hk))⟩
theorem St.more {T : Nat → Prop} {w0 w w' : World} {bd : Nat} {S : Nat → Prop} {D D' : Dk} {V : List (Nat × List Value)} (h : St T w0 w bd S D V) (hk : Kept S w w') (hd : ∃ S', Disk w' bd S' D' ∧ ∀ k, S' k → S k ∨ w.heap.size ≤ k) : ∃ S', St T w0 w' bd S' D' V := by
  obtain ⟨S', h1, h2⟩ := hd
  exact ⟨S', h.next hk h1 h2⟩
theorem St.alloc {T : Nat → Prop} {w0 w : World} {bd : Nat} {S : Nat → Prop} {D : Dk} {V : List (Nat × List Value)} (h : St T w0 w bd S D V) (cs : List Value) : St T w0 (w.alloc (.cells cs.toArray 30)) bd S D ((w.heap.size, cs) :: V) := by
  have h1 := h.next (Kept.alloc S w (.cells cs.toArray 30)) (h.disk.kept (Kept.alloc (fun _ => False) w _) (fun _ _ hf => hf)) (fun _ hk => .inl hk)
  refine ⟨h1.disk, h1.kept, h1.new, fun p hp => ?_⟩
  rcases List.mem_cons.1 hp with rfl | hp
  · exact ⟨heap_alloc_new w _, fun hc => by have := h.disk.lt _ hc; omega, h.kept.size⟩
  · exact h1.vars p hp
theorem St.other {T : Nat → Prop} {w0 w : World} {bd : Nat} {S : Nat → Prop} {D : Dk} {V : List (Nat × List Value)} (h : St T w0 w bd S D V) (o : Obj) : St T w0 (w.alloc o) bd S D V :=
  h.next (Kept.alloc S w o) (h.disk.kept (Kept.alloc (fun _ => False) w _) (fun _ _ hf => hf)) (fun _ hk => .inl hk)
theorem St.setv {T : Nat → Prop} {w0 w : World} {bd : Nat} {S : Nat → Prop} {D : Dk} {n : Nat} {cs : List Value} (h : St T w0 w bd S D [(n, cs)]) (i : Nat) (v : Value) : St T w0 (w.setCell ⟨n, i, none⟩ v) bd S D [(n, cs.set i v)] := by
  obtain ⟨v1, v2, v3⟩ := h.vars (n, cs) (List.mem_cons_self ..)
  have hk := Kept.setCell (S := fun k => k = n) w ⟨n, i, none⟩ v rfl
  refine ⟨h.disk.kept hk (fun k hk e => v2 (by rw [← e]; exact hk)), h.kept.trans hk (fun k hk => .inr (by rw [hk]; exact v3)), h.new, fun p hp => ?_⟩
  rw [List.mem_singleton.1 hp]
  refine ⟨?_, v2, v3⟩
  rw [heap_setCell_same w n i _ _ _ v1]
  simp
theorem St.cell {T : Nat → Prop} {w0 w : World} {bd : Nat} {S : Nat → Prop} {D : Dk} {V : List (Nat × List Value)} (h : St T w0 w bd S D V) {n : Nat} {cs : List Value} (hp : (n, cs) ∈ V) {i : Nat} {v : Value} (hv : cs[i]? = some v) : w.cell? ⟨n, i, none⟩ = some v := by
  rw [cell_of_row w n i _ _ _ (h.vars _ hp).1]; simpa using hv
theorem St.fz {T : Nat → Prop} {w0 w : World} {bd : Nat} {S : Nat → Prop} {D : Dk} {V : List (Nat × List Value)} (h : St T w0 w bd S D V) {n : Nat} {cs : List Value} (hp : (n, cs) ∈ V) (i : Nat) : w.frozen? ⟨n, i, none⟩ = false :=
  frozen_of_row w n i _ _ (h.vars _ hp).1

theorem St.calls_write {T : Nat → Prop} {w0 w : World} {bd : Nat} {S : Nat → Prop} {D : Dk} {V : List (Nat × List Value)} (h : St T w0 w bd S D V) (a : Int) (ha : IntOk a) (b : List Value) (hb : BlkOk b) (hfu : IntOk D.fuse) (hps : D.ps.length ≤ 68719476736) {r : Bool} (hr : D.writes a = r) :
    Calls Try.prog 12 #[.pointer (some ⟨bd, 0, none⟩), .int .i64 a, .agg b.toArray] w fun e w' => e = .returned (.bool r) ∧ ∃ S', St T w0 w' bd S' (D.write a b) V :=
  (write_any w bd S D h.disk a ha b hb hfu hps).mono fun e w' ⟨h1, h2, h3⟩ => ⟨by rw [h1, hr], h.more h3 h2⟩
theorem St.calls_flush {T : Nat → Prop} {w0 w : World} {bd : Nat} {S : Nat → Prop} {D : Dk} {V : List (Nat × List Value)} (h : St T w0 w bd S D V) (hfu : IntOk D.fuse) {r : Bool} (hr : (!(D.fuse == 0)) = r) :
    Calls Try.prog 13 #[.pointer (some ⟨bd, 0, none⟩)] w fun e w' => e = .returned (.bool r) ∧ ∃ S', St T w0 w' bd S' D.flush V :=
  (flush_any w bd S D h.disk hfu).mono fun e w' ⟨h1, h2, h3⟩ => ⟨by rw [h1, hr], h.less h3 h2⟩
theorem St.calls_read {T : Nat → Prop} {w0 w : World} {bd : Nat} {S : Nat → Prop} {D : Dk} {V : List (Nat × List Value)} (h : St T w0 w bd S D V) (a : Int) (ha : IntOk a) (hr0 : 0 ≤ D.reads) (hr1 : D.reads ≤ 4611686018427387904) {b : List Value} (hb : D.look a = b) :
    Calls Try.prog 14 #[.pointer (some ⟨bd, 0, none⟩), .int .i64 a] w fun e w' => e = .returned (.agg b.toArray) ∧ St T w0 w' bd S { D with reads := D.reads + 1 } V :=
  (read_any w bd S D h.disk a ha hr0 hr1).mono fun e w' ⟨h1, h2, h3⟩ => ⟨by rw [h1, hb], h.same h3 h2⟩
/-- What a fall makes of a disk. -/
def Dk.fall (D : Dk) (ks : List Bool) : Dk := { D with bs := putAll D.bs (sel D.ps ks), ps := [], fuse := -1 }
theorem St.calls_fall {T : Nat → Prop} {w0 w : World} {bd : Nat} {S : Nat → Prop} {D : Dk} {V : List (Nat × List Value)} (h : St T w0 w bd S D V) (ks : List Bool) (hkl : ks.length ≤ 9223372036854775807) :
    Calls Try.prog 15 #[.pointer (some ⟨bd, 0, none⟩), .slice (some ⟨w.heap.size, 0, none⟩) ks.length ks.length] (w.alloc (.cells (ks.map Value.bool).toArray 4)) fun e w' =>
      e = .returned (.tuple #[]) ∧ ∃ S', St T w0 w' bd S' (D.fall ks) V := by
  have h1 := h.other (.cells (ks.map Value.bool).toArray 4)
  obtain ⟨ba, pa, bc, pc, hd⟩ := h1.disk
  refine (fall_at _ bd S D ba pa bc pc hd (some ⟨w.heap.size, 0, none⟩) ks ks.length hkl (fun j hj => ⟨w.heap.size, 0, rfl, fun hc => ?_, by simp, ?_⟩)).mono fun e w' ⟨h2, h3, h4⟩ => ⟨h2, h1.less h4 h3⟩
  · have := h.disk.lt _ hc; omega
  · rw [cell_of_row _ w.heap.size (0 + j) _ _ _ (heap_alloc_new w _)]
    simp [hj]
theorem St.calls_fuse {T : Nat → Prop} {w0 w : World} {bd : Nat} {S : Nat → Prop} {D : Dk} {V : List (Nat × List Value)} (h : St T w0 w bd S D V) (n : Int) :
    Calls Try.prog 16 #[.pointer (some ⟨bd, 0, none⟩), .int .i64 n] w fun e w' => e = .returned (.tuple #[]) ∧ St T w0 w' bd S { D with fuse := n } V := by
  obtain ⟨ba, pa, bc, pc, hd⟩ := h.disk
  exact (fuse_any w bd S D ba pa bc pc hd n).mono fun e w' ⟨h1, h2, h3⟩ => ⟨h1, h.same h3 ⟨ba, pa, bc, pc, h2⟩⟩
theorem St.calls_blocks {T : Nat → Prop} {w0 w : World} {bd : Nat} {S : Nat → Prop} {D : Dk} {V : List (Nat × List Value)} (h : St T w0 w bd S D V) {n : Nat} (hn : D.bs.length = n) :
    Calls Try.prog 19 #[.pointer (some ⟨bd, 0, none⟩)] w fun e w' => e = .returned (.int .i64 n) ∧ w' = w := by
  obtain ⟨ba, pa, bc, pc, hd⟩ := h.disk
  rw [← hn]; exact blocks_any w bd S D ba pa bc pc hd
theorem St.calls_reads {T : Nat → Prop} {w0 w : World} {bd : Nat} {S : Nat → Prop} {D : Dk} {V : List (Nat × List Value)} (h : St T w0 w bd S D V) {n : Int} (hn : D.reads = n) :
    Calls Try.prog 18 #[.pointer (some ⟨bd, 0, none⟩)] w fun e w' => e = .returned (.int .i64 n) ∧ w' = w := by
  obtain ⟨ba, pa, bc, pc, hd⟩ := h.disk
  rw [← hn]; exact reads_any w bd S D ba pa bc pc hd
theorem St.calls_copy {T : Nat → Prop} {w0 w : World} {bd : Nat} {S : Nat → Prop} {D : Dk} {V : List (Nat × List Value)} (h : St T w0 w bd S D V) (hps : D.ps.length ≤ 68719476736) :
    Calls Try.prog 17 #[.pointer (some ⟨bd, 0, none⟩)] w fun e w' => e = .returned (.pointer (some ⟨w.heap.size, 0, none⟩)) ∧ ∃ S', St (fun _ => False) w w' w.heap.size S' { D with reads := 0 } [] := by
  obtain ⟨ba, pa, bc, pc, hd⟩ := h.disk
  exact (copy_at w bd S D ba pa bc pc hd hps).mono fun e w' ⟨h1, ⟨S', h2, h3⟩, h4⟩ => ⟨h1, S', h2, h4, h3, fun p hp => by cases hp⟩
/-- Something beside the disk was written. -/
theorem St.beside {T : Nat → Prop} {w0 w w' : World} {bd : Nat} {S : Nat → Prop} {D : Dk} {V : List (Nat × List Value)} (h : St T w0 w bd S D V) (hk : Kept T w w') (hT : ∀ k, T k → k < w0.heap.size) : St T w0 w' bd S D V := by
  refine ⟨h.disk.kept hk (fun k hk hc => by have := h.new k hk; have := hT k hc; omega), h.kept.trans hk (fun _ hk => .inl hk), h.new, fun p hp => ?_⟩
  obtain ⟨v1, v2, v3⟩ := h.vars p hp
  exact ⟨(hk.block p.1 (Array.getElem?_eq_some_iff.1 v1).1 (fun hc => by have := hT _ hc; omega)).trans v1, v2, v3⟩
theorem St.wide {T : Nat → Prop} {w0 w : World} {bd : Nat} {S : Nat → Prop} {D : Dk} {V : List (Nat × List Value)} (h : St (fun _ => False) w0 w bd S D V) : St T w0 w bd S D V :=
  ⟨h.disk, h.kept.mono (fun _ hf => hf.elim), h.new, h.vars⟩
/-- Another disk has been made and used meanwhile. -/
theorem St.lift {T : Nat → Prop} {w0 w w' : World} {bd bd' : Nat} {S S' : Nat → Prop} {D D' : Dk} {V V' : List (Nat × List Value)} (h : St T w0 w bd S D V) (h' : St (fun _ => False) w w' bd' S' D' V') : St T w0 w' bd S D V :=
  h.next (h'.kept.mono (fun _ hf => hf.elim)) (h.disk.kept h'.kept (fun _ _ hf => hf)) (fun _ hk => .inl hk)
theorem St.calls_read_kept {T : Nat → Prop} {w0 w : World} {bd : Nat} {S : Nat → Prop} {D : Dk} {V : List (Nat × List Value)} (h : St T w0 w bd S D V) (a : Int) (ha : IntOk a) (hr0 : 0 ≤ D.reads) (hr1 : D.reads ≤ 4611686018427387904) {b : List Value} (hb : D.look a = b) :
    Calls Try.prog 14 #[.pointer (some ⟨bd, 0, none⟩), .int .i64 a] w fun e w' => e = .returned (.agg b.toArray) ∧ St T w0 w' bd S { D with reads := D.reads + 1 } V ∧ Kept (fun k => k = bd) w w' :=
  (read_any w bd S D h.disk a ha hr0 hr1).mono fun e w' ⟨h1, h2, h3⟩ => ⟨by rw [h1, hb], h.same h3 h2, h3⟩
end Go.Proofs.Ytcoengihaobddaa.disk

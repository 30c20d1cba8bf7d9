/- The walk of the disk's Read where there is no such block, and both together. -/
import Derived.Test.YtcoengihaobddaaDisk3
namespace Go.Proofs.Ytcoengihaobddaa.disk
set_option maxRecDepth 8000
open Go.ChangeShapes Go.WideShapes Go.ChangeAt Go.RowKit

set_option maxHeartbeats 400000 in
theorem read_out (w : World) (bd : Nat) (S : Nat → Prop) (D : Dk) (ba pa : Option Addr) (bc pc : Nat) (h : DiskAt w bd S D ba pa bc pc) (a : Int) (ha : IntOk a) (hi : a < 0 ∨ D.bs.length ≤ a) (hr0 : 0 ≤ D.reads) (hr1 : D.reads ≤ 4611686018427387904) :
    Calls Try.prog 14 #[.pointer (some ⟨bd, 0, none⟩), .int .i64 a] w fun e w' =>
      e = .returned (.agg (D.look a).toArray) ∧ DiskAt w' bd S { D with reads := D.reads + 1 } ba pa bc pc ∧ Kept (fun k => k = bd) w w' := by
  obtain ⟨Zb, hZb, hz⟩ : ∃ Zb : List Value, Zb = zeroB ∧ ∀ w, (zeroValue 30).run Try.prog w = .ok (.agg Zb.toArray) w := ⟨zeroB, rfl, zero_run Try.infoBlock⟩
  have HZ : Hid (D.look a = Zb) := by
    show D.look a = Zb
    unfold Dk.look
    rw [if_neg (by omega), hZb]
  have HZb : Hid (BlkOk Zb) := by rw [hZb]; exact zeroB_ok
  clear hZb
  have hc0 := h.c0
  have hc3 := h.c3
  have hf3 := h.fz 3
  have hbd := h.lt bd h.bdS
  have HI : Hid ((Try.prog.info? 30).map (·.size) = some 128) := size_of Try.infoBlock
  obtain ⟨ha1, ha2⟩ := ha
  have H1 : Hid (DiskAt (w.setCell ⟨bd, 3, none⟩ (.int .i64 (D.reads + 1))) bd S { D with reads := D.reads + 1 } ba pa bc pc) := h.set_reads (D.reads + 1)
  have H2 : Hid (DiskAt ((w.setCell ⟨bd, 3, none⟩ (.int .i64 (D.reads + 1))).alloc (.cells Zb.toArray 30)) bd S { D with reads := D.reads + 1 } ba pa bc pc) :=
    H1.out.kept (Kept.alloc (fun _ => False) _ _) (fun _ _ hf => hf)
  have HK : Hid (Kept (fun k => k = bd) w ((w.setCell ⟨bd, 3, none⟩ (.int .i64 (D.reads + 1))).alloc (.cells Zb.toArray 30))) :=
    (Kept.setCell (S := fun k => k = bd) w _ _ rfl).trans (Kept.alloc _ _ _) (fun _ h => .inl h)
  clear h H1
  rcases hi with hi | hi
  · go_enter Try.func14, Try.ntmps14
    go_wp2_with (refine wpList_store_new rfl 30 (.tmp 4) (.tmp 26) rfl _ _ Zb (by simp) rfl rfl (by rw [HZb.out.1]; exact HI.out) (by simp) HZb.out.2 ?_)
    refine bodyPost_ret (v := .agg Zb.toArray) (results_cell_row Try.results14 _ _ w.heap.size 30 _ (0, 0) _ rfl (by have := heap_alloc_new (w.setCell ⟨bd, 3, none⟩ (.int .i64 (D.reads + 1))) (.cells Zb.toArray 30); simpa using this) Try.underlying30 rfl (by rw [List.size_toArray, HZb.out.1]; exact HI.out)) rfl ⟨by rw [HZ.out], H2.out, HK.out⟩
  · go_enter Try.func14, Try.ntmps14
    go_wp2_with (refine wpList_store_new rfl 30 (.tmp 4) (.tmp 26) rfl _ _ Zb (by simp) rfl rfl (by rw [HZb.out.1]; exact HI.out) (by simp) HZb.out.2 ?_)
    refine bodyPost_ret (v := .agg Zb.toArray) (results_cell_row Try.results14 _ _ w.heap.size 30 _ (0, 0) _ rfl (by have := heap_alloc_new (w.setCell ⟨bd, 3, none⟩ (.int .i64 (D.reads + 1))) (.cells Zb.toArray 30); simpa using this) Try.underlying30 rfl (by rw [List.size_toArray, HZb.out.1]; exact HI.out)) rfl ⟨by rw [HZ.out], H2.out, HK.out⟩

/-- READ: what was last written there, or lies there; noughts where there is no such block; one read more. -/
theorem read_any (w : World) (bd : Nat) (S : Nat → Prop) (D : Dk) (h : Disk w bd S D) (a : Int) (ha : IntOk a) (hr0 : 0 ≤ D.reads) (hr1 : D.reads ≤ 4611686018427387904) :
    Calls Try.prog 14 #[.pointer (some ⟨bd, 0, none⟩), .int .i64 a] w fun e w' =>
      e = .returned (.agg (D.look a).toArray) ∧ Disk w' bd S { D with reads := D.reads + 1 } ∧ Kept (fun k => k = bd) w w' := by
  obtain ⟨ba, pa, bc, pc, h⟩ := h
  by_cases hi : a < 0 ∨ D.bs.length ≤ a
  · exact (read_out w bd S D ba pa bc pc h a ha hi hr0 hr1).mono fun e w' ⟨h1, h2, h3⟩ => ⟨h1, ⟨ba, pa, bc, pc, h2⟩, h3⟩
  · obtain ⟨i, rfl⟩ : ∃ i : Nat, a = i := ⟨a.toNat, by omega⟩
    exact (read_in w bd S D ba pa bc pc h i (by omega) hr0 hr1).mono fun e w' ⟨h1, h2, h3⟩ => ⟨h1, ⟨ba, pa, bc, pc, h2⟩, h3⟩
end Go.Proofs.Ytcoengihaobddaa.disk

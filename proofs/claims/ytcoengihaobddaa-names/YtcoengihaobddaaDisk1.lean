/- The walks of the disk's small calls: burn, Blocks, Reads, Fuse: for every disk. -/
import Derived.Test.YtcoengihaobddaaDiskWorld
namespace Go.Proofs.Ytcoengihaobddaa.disk
open Go.ChangeShapes Go.WideShapes Go.ChangeAt Go.RowKit

/-- The head of a disk, one cell turned. -/
theorem DiskAt.set_fuse {w : World} {bd : Nat} {S : Nat → Prop} {D : Dk} {ba pa : Option Addr} {bc pc : Nat} (h : DiskAt w bd S D ba pa bc pc) (n : Int) :
    DiskAt (w.setCell ⟨bd, 2, none⟩ (.int .i64 n)) bd S { D with fuse := n } ba pa bc pc := by
  refine ⟨⟨h.ok.bs, h.ok.ps, h.ok.few⟩, ?_, ?_, ?_, h.own, h.ap1, h.ap2, h.ap3⟩
  · rw [heap_setCell_same w bd 2 _ _ _ h.head]; rfl
  · exact (Kept.setCell (S := fun k => k = bd) w ⟨bd, 2, none⟩ _ rfl).owns h.rows (fun k hk e => h.ap1 (by rw [hk, e]))
  · exact (Kept.setCell (S := fun k => k = bd) w ⟨bd, 2, none⟩ _ rfl).owns h.pend (fun k hk e => h.ap2 (by rw [hk, e]))
theorem DiskAt.set_reads {w : World} {bd : Nat} {S : Nat → Prop} {D : Dk} {ba pa : Option Addr} {bc pc : Nat} (h : DiskAt w bd S D ba pa bc pc) (n : Int) :
    DiskAt (w.setCell ⟨bd, 3, none⟩ (.int .i64 n)) bd S { D with reads := n } ba pa bc pc := by
  refine ⟨⟨h.ok.bs, h.ok.ps, h.ok.few⟩, ?_, ?_, ?_, h.own, h.ap1, h.ap2, h.ap3⟩
  · rw [heap_setCell_same w bd 3 _ _ _ h.head]; rfl
  · exact (Kept.setCell (S := fun k => k = bd) w ⟨bd, 3, none⟩ _ rfl).owns h.rows (fun k hk e => h.ap1 (by rw [hk, e]))
  · exact (Kept.setCell (S := fun k => k = bd) w ⟨bd, 3, none⟩ _ rfl).owns h.pend (fun k hk e => h.ap2 (by rw [hk, e]))

/-- The fuse behind one write or flush. -/
def burnt (n : Int) : Int := if 0 < n then n - 1 else n
/-- The fuse's bounds: an int. -/
def IntOk (n : Int) : Prop := -9223372036854775808 ≤ n ∧ n ≤ 9223372036854775807

theorem burnt_of {n : Int} (h : 0 < n) : burnt n = n - 1 := if_pos h
theorem burnt_not {n : Int} (h : ¬ 0 < n) : burnt n = n := if_neg h
theorem DiskAt.at_fuse {w : World} {bd : Nat} {S : Nat → Prop} {D : Dk} {ba pa : Option Addr} {bc pc : Nat} (h : DiskAt w bd S D ba pa bc pc) {n : Int} (e : D.fuse = n) : DiskAt w bd S { D with fuse := n } ba pa bc pc := by
  subst e; exact h

theorem burn_any (w : World) (bd : Nat) (S : Nat → Prop) (D : Dk) (ba pa : Option Addr) (bc pc : Nat) (h : DiskAt w bd S D ba pa bc pc) (hi : IntOk D.fuse) :
    Calls Try.prog 21 #[.pointer (some ⟨bd, 0, none⟩)] w fun e w' =>
      e = .returned (.bool (!(D.fuse == 0))) ∧ DiskAt w' bd S { D with fuse := burnt D.fuse } ba pa bc pc ∧ Kept (fun k => k = bd) w w' := by
  have hc := h.c2
  have hf := h.fz 2
  obtain ⟨hi1, hi2⟩ := hi
  have hs := h.set_fuse (D.fuse - 1)
  have HS : Hid (DiskAt (w.setCell ⟨bd, 2, none⟩ (.int .i64 (D.fuse - 1))) bd S { D with fuse := D.fuse - 1 } ba pa bc pc) := hs
  have HH : Hid (DiskAt w bd S D ba pa bc pc) := h
  clear hs h
  generalize hfu : D.fuse = n at *
  have HF : Hid (D.fuse = n) := hfu
  clear hfu
  by_cases h0 : n = 0
  · subst h0
    go_enter Try.func21, Try.ntmps21
    go_wp2
    go_ret
    exact ⟨rfl, HH.out.at_fuse HF.out, Kept.refl _ _⟩
  · by_cases h1 : 0 < n
    · have HB : Hid (burnt n = n - 1) := burnt_of h1
      go_enter Try.func21, Try.ntmps21
      go_wp2
      go_ret
      exact ⟨by simp [h0], by rw [HB.out]; exact HS.out, Kept.setCell _ _ _ rfl⟩
    · have HB : Hid (burnt n = n) := burnt_not h1
      go_enter Try.func21, Try.ntmps21
      go_wp2
      go_ret
      exact ⟨by simp, by rw [HB.out]; exact HH.out.at_fuse HF.out, Kept.refl _ _⟩

theorem blocks_any (w : World) (bd : Nat) (S : Nat → Prop) (D : Dk) (ba pa : Option Addr) (bc pc : Nat) (h : DiskAt w bd S D ba pa bc pc) :
    Calls Try.prog 19 #[.pointer (some ⟨bd, 0, none⟩)] w fun e w' => e = .returned (.int .i64 D.bs.length) ∧ w' = w := by
  have hc := h.c0
  clear h
  go_enter Try.func19, Try.ntmps19
  go_wp2
  go_ret
  exact ⟨rfl, rfl⟩

theorem reads_any (w : World) (bd : Nat) (S : Nat → Prop) (D : Dk) (ba pa : Option Addr) (bc pc : Nat) (h : DiskAt w bd S D ba pa bc pc) :
    Calls Try.prog 18 #[.pointer (some ⟨bd, 0, none⟩)] w fun e w' => e = .returned (.int .i64 D.reads) ∧ w' = w := by
  have hc := h.c3
  clear h
  go_enter Try.func18, Try.ntmps18
  go_wp2
  go_ret
  exact ⟨rfl, rfl⟩

theorem fuse_any (w : World) (bd : Nat) (S : Nat → Prop) (D : Dk) (ba pa : Option Addr) (bc pc : Nat) (h : DiskAt w bd S D ba pa bc pc) (n : Int) :
    Calls Try.prog 16 #[.pointer (some ⟨bd, 0, none⟩), .int .i64 n] w fun e w' => e = .returned (.tuple #[]) ∧ DiskAt w' bd S { D with fuse := n } ba pa bc pc ∧ Kept (fun k => k = bd) w w' := by
  have hc := h.c2
  have hf := h.fz 2
  have HS : Hid (DiskAt (w.setCell ⟨bd, 2, none⟩ (.int .i64 n)) bd S { D with fuse := n } ba pa bc pc) := h.set_fuse n
  clear h
  go_enter Try.func16, Try.ntmps16
  go_wp2
  go_end0
  exact ⟨rfl, HS.out, Kept.setCell _ _ _ rfl⟩
end Go.Proofs.Ytcoengihaobddaa.disk

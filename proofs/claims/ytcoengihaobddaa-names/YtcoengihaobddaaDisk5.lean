/- The walk of the disk's Write: for every disk, number and block. -/
import Derived.Test.YtcoengihaobddaaDisk4
import Derived.Deep.RegionLaw
import Derived.Deep.AppendLies
import Derived.Deep.DrawnRows
import Derived.Deep.CutRange
namespace Go.Proofs.Ytcoengihaobddaa.disk
set_option maxRecDepth 8000
open Go.ChangeShapes Go.WideShapes Go.ChangeAt Go.RowKit
attribute [local go_sem ↓] Go.wp_at_zero Go.wp_at_succ buildW_eq sliceW_eq loadB_eq
attribute [local go_sem] run_buildW run_sliceW

/-- A write more, in a row of the call's own: what the disk is then. -/
theorem DiskAt.pushed {w w2 : World} {bd : Nat} {S : Nat → Prop} {D : Dk} {ba pa : Option Addr} {bc pc : Nat} (h : DiskAt w bd S D ba pa bc pc) (o : Obj) (i : Nat) (hi : i < D.bs.length) (b : List Value) (hb : BlkOk b) (g cap : Nat)
    (hown : w2.ownsRow 0 43 129 (.slice (some ⟨g, 0, none⟩) (D.ps.length + 1) cap) (D.ps.length + 1) ((D.ps.map wcells).flatten ++ .int .i64 (i : Int) :: b))
    (hgrow : (w.alloc o).drew.grownBy w2 (Value.slice pa D.ps.length pc).ownBlock) (hat : (Value.slice pa D.ps.length pc).ownBlock = some g ∨ g = w.heap.size + 1) :
    DiskAt (w2.setCell ⟨bd, 1, none⟩ (.slice (some ⟨g, 0, none⟩) (D.ps.length + 1) cap)) bd (fun k => k = bd ∨ (Value.slice ba D.bs.length bc).ownBlock = some k ∨ k = g) { D with ps := D.ps ++ [(i, b)] } ba (some ⟨g, 0, none⟩) bc cap ∧
      (∀ k, (k = bd ∨ (Value.slice ba D.bs.length bc).ownBlock = some k ∨ k = g) → S k ∨ w.heap.size ≤ k) ∧ Kept S w (w2.setCell ⟨bd, 1, none⟩ (.slice (some ⟨g, 0, none⟩) (D.ps.length + 1) cap)) := by
  have hbd := h.lt bd h.bdS
  have hgb : g ≠ bd := by
    rcases hat with e | e
    · exact fun e2 => h.ap2 (by rw [e, e2])
    · omega
  have hk2 : Kept (fun k => (Value.slice pa D.ps.length pc).ownBlock = some k) (w.alloc o).drew w2 := Kept.grown hgrow (fun k hk => hk)
  have hk : Kept (fun k => (Value.slice pa D.ps.length pc).ownBlock = some k) w w2 := ((Kept.alloc _ w o).trans (Kept.drew _ _) (fun _ h => .inl h)).trans hk2 (fun _ h => .inl h)
  have hset := Kept.setCell (S := fun k => k = bd) w2 ⟨bd, 1, none⟩ (.slice (some ⟨g, 0, none⟩) (D.ps.length + 1) cap) rfl
  have hl : (D.ps ++ [(i, b)]).length = D.ps.length + 1 := by simp
  have hrows2 := hk.owns h.rows (fun k hk e => h.ap3 k hk e)
  refine ⟨⟨⟨h.ok.bs, ?_, h.ok.few⟩, ?_, ?_, ?_, ?_, h.ap1, ?_, ?_⟩, ?_, ?_⟩
  · intro p hp
    rcases List.mem_append.1 hp with hp | hp
    · exact h.ok.ps p hp
    · rw [List.mem_singleton.1 hp]; exact ⟨hi, hb⟩
  · simp only [hl]
    have e : w2.heap[bd]? = _ := (hk.block bd hbd (fun e => h.ap2 e)).trans h.head
    rw [heap_setCell_same w2 bd 1 _ _ _ e]; rfl
  · exact hset.owns hrows2 (fun k hk e => h.ap1 (by rw [hk, e]))
  · simp only [hl]
    have := hset.owns hown (fun k hk e => by simp [Value.ownBlock] at hk; omega)
    simpa [wcells] using this
  · intro k; simp only [hl]; simp [Value.ownBlock, eq_comm]
  · simp [Value.ownBlock]; exact hgb
  · intro k hk
    simp [Value.ownBlock]
    intro e
    rcases hat with e2 | e2
    · exact h.ap3 k hk (by rw [e2, e])
    · have := (h.rows.lt k hk).2; omega
  · intro k hk
    rcases hk with rfl | hk | rfl
    · exact .inl h.bdS
    · exact .inl ((h.own k).2 (.inr (.inl hk)))
    · rcases hat with e2 | e2
      · exact .inl ((h.own k).2 (.inr (.inr e2)))
      · right; omega
  · refine (hk.mono (fun k hk => (h.own k).2 (.inr (.inr hk)))).trans hset (fun k hk => .inl (by rw [hk]; exact h.bdS))

set_option maxHeartbeats 1000000 in
theorem write_in (w : World) (bd : Nat) (S : Nat → Prop) (D : Dk) (ba pa : Option Addr) (bc pc : Nat) (h : DiskAt w bd S D ba pa bc pc) (i : Nat) (hi : i < D.bs.length) (b : List Value) (hb : BlkOk b)
    (hfu : IntOk D.fuse) (hlive : (D.fuse == 0) = false) (hps : D.ps.length ≤ 68719476736) :
    Calls Try.prog 12 #[.pointer (some ⟨bd, 0, none⟩), .int .i64 i, .agg b.toArray] w fun e w' =>
      e = .returned (.bool true) ∧ (∃ S', Disk w' bd S' { D with ps := D.ps ++ [(i, b)], fuse := burnt D.fuse } ∧ ∀ k, S' k → S k ∨ w.heap.size ≤ k) ∧ Kept S w w' := by
  obtain ⟨hb1, hb2⟩ := hb
  have hc0 := h.c0
  have hlt : (i : Int) < (D.bs.length : Int) := by omega
  have hbd := h.lt bd h.bdS
  have H2 : Hid (DiskAt (w.alloc (.cells b.toArray 30)) bd S D ba pa bc pc) := h.kept (Kept.alloc (fun _ => False) _ _) (fun _ _ hf => hf)
  clear h
  go_enter Try.func12, Try.ntmps12
  go_wp2_with (go_at_call 21; refine (burn_any _ bd S D ba pa bc pc H2.out hfu).mono ?_; rintro e w1 ⟨rfl, hd1, hk1⟩; have HD1 : Hid _ := hd1; have HK1 : Hid _ := hk1; clear hd1 hk1)
  have hc1 := HD1.out.c1
  have hf1 := HD1.out.fz 1
  have hlt1 := HD1.out.lt bd HD1.out.bdS
  have HB1 : Hid (w1.heap[w.heap.size]? = some (.cells b.toArray 30 (0, 0))) := by
    show w1.heap[w.heap.size]? = _
    rw [HK1.out.block w.heap.size (by simp) (by omega)]; exact heap_alloc_new w _
  have hr1 : (loadB (.pointer (some ⟨w.heap.size, 0, none⟩))).run Try.prog w1.drew = .ok (.agg b.toArray) w1.drew := run_loadB _ _ _ b (range_of_block (w := w1.drew) HB1.out) hb1
  obtain ⟨i0, hi0, hz0, hz1, hz2⟩ := info_parts Try.infoWrite
  have HI0 : Hid (Try.prog.info? 43 = some i0 ∧ i0.zero = some (.agg zeroW.toArray) ∧ i0.size = 129 ∧ i0.bytes = 136) := ⟨hi0, hz0, hz1, hz2⟩
  clear hi0 hz0 hz1 hz2
  have HOWN : Hid (((w1.alloc (.cells (.int .i64 (i : Int) :: b).toArray 43)).drew).ownsRow 0 43 129 (.slice pa D.ps.length pc) D.ps.length (D.ps.map wcells).flatten) := HD1.out.pend.alloc _
  go_region_law ((refine step_append_lies _ rfl (.tmp 27) (.tmp 31) 39 rfl 0 43 i0 _ 129 136 Try.underlying39 HI0.out.1 HI0.out.2.1 HI0.out.2.2.1 HI0.out.2.2.2 (congrArg (· + 1) zeroB_ok.1) (by omega) (.slice pa D.ps.length pc) D.ps.length _ (by rfl) HOWN.out ⟨w1.heap.size, 0, none⟩ 1 1 (.int .i64 (i : Int) :: b) (by rfl) (by simp [hb1]) (World.news_of_block (w := (w1.alloc (.cells (.int .i64 (i : Int) :: b).toArray 43)).drew) (heap_alloc_new w1 _)) (List.forall_mem_cons.2 ⟨rfl, hb2⟩) (by omega) (by unfold maxLen; omega) (by omega) (Nat.zero_le _) (w1.heap.size + 1) (by simp) ?_; intro g cap w2 hown hgrow hat hlt2; have HP : Hid _ := DiskAt.pushed HD1.out _ i hi b ⟨hb1, hb2⟩ g cap hown hgrow hat; have hcc : w2.cell? ⟨bd, 1, none⟩ = some (.slice pa D.ps.length pc) := (hgrow.cell_far ⟨bd, 1, none⟩ (by simp; omega) (fun e => HD1.out.ap2 e.symm)).trans (by simpa using HD1.out.kept (Kept.alloc (fun _ => False) w1 _) (fun _ _ hf => hf) |>.c1); have hff : w2.frozen? ⟨bd, 1, none⟩ = false := (hgrow.frozen_far ⟨bd, 1, none⟩ (by simp; omega) (fun e => HD1.out.ap2 e.symm)).trans (by simpa using HD1.out.kept (Kept.alloc (fun _ => False) w1 _) (fun _ _ hf => hf) |>.fz 1); clear hown hgrow hat))
  all_goals
    go_wp2
    go_ret
    refine ⟨rfl, ⟨_, ⟨_, _, _, _, HP.out.1⟩, fun k hk => ?_⟩, ?_⟩
    · have hs := HK1.out.size
      simp at hs
      rcases HP.out.2.1 k hk with h1 | h1
      · exact .inl h1
      · right; omega
    · exact (((Kept.alloc (fun k => k = bd) w _).trans HK1.out (fun _ h => .inl h)).mono (fun k hk => by rw [hk]; exact HD1.out.bdS)).trans HP.out.2.2 (fun k hk => .inl hk)

set_option maxHeartbeats 400000 in
theorem write_dead (w : World) (bd : Nat) (S : Nat → Prop) (D : Dk) (ba pa : Option Addr) (bc pc : Nat) (h : DiskAt w bd S D ba pa bc pc) (i : Nat) (hi : i < D.bs.length) (b : List Value)
    (hfu : IntOk D.fuse) (hdead : (D.fuse == 0) = true) :
    Calls Try.prog 12 #[.pointer (some ⟨bd, 0, none⟩), .int .i64 i, .agg b.toArray] w fun e w' =>
      e = .returned (.bool false) ∧ Disk w' bd S D ∧ Kept S w w' := by
  have hc0 := h.c0
  have hlt : (i : Int) < (D.bs.length : Int) := by omega
  have hbd := h.lt bd h.bdS
  have H2 : Hid (DiskAt (w.alloc (.cells b.toArray 30)) bd S D ba pa bc pc) := h.kept (Kept.alloc (fun _ => False) _ _) (fun _ _ hf => hf)
  have he : D.fuse = 0 := by simpa using hdead
  have HE : Hid (D.fuse = 0) := he
  clear he
  clear h
  go_enter Try.func12, Try.ntmps12
  go_wp2_with (go_at_call 21; refine (burn_any _ bd S D ba pa bc pc H2.out hfu).mono ?_; rintro e w1 ⟨rfl, hd1, hk1⟩; have HD1 : Hid _ := hd1; have HK1 : Hid _ := hk1; clear hd1 hk1)
  go_ret
  refine ⟨rfl, ⟨ba, pa, bc, pc, ?_⟩, ((Kept.alloc (fun k => k = bd) w _).trans HK1.out (fun _ h => .inl h)).mono (fun k hk => by rw [hk]; exact HD1.out.bdS)⟩
  have hd := HD1.out
  rw [HE.out] at hd
  have e0 : ({ D with fuse := burnt 0 } : Dk) = D := by
    have := HE.out
    cases D; simp only at this; subst this; rfl
  rw [e0] at hd
  exact hd

set_option maxHeartbeats 400000 in
theorem write_out (w : World) (bd : Nat) (S : Nat → Prop) (D : Dk) (ba pa : Option Addr) (bc pc : Nat) (h : DiskAt w bd S D ba pa bc pc) (a : Int) (ha : IntOk a) (hi : a < 0 ∨ D.bs.length ≤ a) (b : List Value) :
    Calls Try.prog 12 #[.pointer (some ⟨bd, 0, none⟩), .int .i64 a, .agg b.toArray] w fun e w' =>
      e = .returned (.bool false) ∧ Disk w' bd S D ∧ Kept S w w' := by
  have hc0 := h.c0
  have hbd := h.lt bd h.bdS
  have H2 : Hid (DiskAt (w.alloc (.cells b.toArray 30)) bd S D ba pa bc pc) := h.kept (Kept.alloc (fun _ => False) _ _) (fun _ _ hf => hf)
  obtain ⟨ha1, ha2⟩ := ha
  clear h
  rcases hi with hi | hi
  all_goals
    go_enter Try.func12, Try.ntmps12
    go_wp2
    go_ret
    exact ⟨rfl, ⟨_, _, _, _, H2.out⟩, Kept.alloc _ _ _⟩

/-- What a write makes of a disk, and what it answers. -/
def Dk.write (D : Dk) (a : Int) (b : List Value) : Dk := if 0 ≤ a ∧ a < D.bs.length ∧ D.fuse ≠ 0 then { D with ps := D.ps ++ [(a.toNat, b)], fuse := burnt D.fuse } else D
def Dk.writes (D : Dk) (a : Int) : Bool := decide (0 ≤ a ∧ a < D.bs.length ∧ D.fuse ≠ 0)

/-- WRITE. -/
theorem write_any (w : World) (bd : Nat) (S : Nat → Prop) (D : Dk) (h : Disk w bd S D) (a : Int) (ha : IntOk a) (b : List Value) (hb : BlkOk b) (hfu : IntOk D.fuse) (hps : D.ps.length ≤ 68719476736) :
    Calls Try.prog 12 #[.pointer (some ⟨bd, 0, none⟩), .int .i64 a, .agg b.toArray] w fun e w' =>
      e = .returned (.bool (D.writes a)) ∧ (∃ S', Disk w' bd S' (D.write a b) ∧ ∀ k, S' k → S k ∨ w.heap.size ≤ k) ∧ Kept S w w' := by
  obtain ⟨ba, pa, bc, pc, h⟩ := h
  by_cases hi : a < 0 ∨ D.bs.length ≤ a
  · have hn : ¬ (0 ≤ a ∧ a < D.bs.length ∧ D.fuse ≠ 0) := by omega
    rw [show D.writes a = false from decide_eq_false hn, show D.write a b = D from if_neg hn]
    exact (write_out w bd S D ba pa bc pc h a ha hi b).mono fun e w' ⟨h1, h2, h3⟩ => ⟨h1, ⟨S, h2, fun k hk => .inl hk⟩, h3⟩
  · obtain ⟨i, rfl⟩ : ∃ i : Nat, a = i := ⟨a.toNat, by omega⟩
    by_cases hf : D.fuse = 0
    · have hn : ¬ (0 ≤ (i : Int) ∧ (i : Int) < D.bs.length ∧ D.fuse ≠ 0) := by omega
      rw [show D.writes i = false from decide_eq_false hn, show D.write i b = D from if_neg hn]
      exact (write_dead w bd S D ba pa bc pc h i (by omega) b hfu (by simpa using hf)).mono fun e w' ⟨h1, h2, h3⟩ => ⟨h1, ⟨S, h2, fun k hk => .inl hk⟩, h3⟩
    · have hn : 0 ≤ (i : Int) ∧ (i : Int) < D.bs.length ∧ D.fuse ≠ 0 := by omega
      rw [show D.writes i = true from decide_eq_true hn, show D.write i b = { D with ps := D.ps ++ [(i, b)], fuse := burnt D.fuse } from by unfold Dk.write; rw [if_pos hn]; simp]
      exact write_in w bd S D ba pa bc pc h i (by omega) b hb hfu (by simpa using hf) hps
end Go.Proofs.Ytcoengihaobddaa.disk

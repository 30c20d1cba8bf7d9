/- Worlds, for the disk: what a call on a disk leaves alone ('Kept'); a disk of so many blocks that lies in memory ('DiskAt'); no function of the program is walked here. -/
import Derived.Test.YtcoengihaobddaaRows
import Derived.WalkKit
import Derived.ProofKit
import Derived.Deep.MidRow
import Derived.Laws.AppendOwn
namespace Go.Proofs.Ytcoengihaobddaa.disk
open Go.RowKit

/-- But for the blocks of S, the world is as it was, with new blocks behind. -/
structure Kept (S : Nat → Prop) (w w' : World) : Prop where
  os : w'.os = w.os
  tape : w'.tape = w.tape
  output : w'.output = w.output
  size : w.heap.size ≤ w'.heap.size
  block : ∀ k, k < w.heap.size → ¬ S k → w'.heap[k]? = w.heap[k]?

theorem Kept.refl (S : Nat → Prop) (w : World) : Kept S w w := ⟨rfl, rfl, rfl, Nat.le_refl _, fun _ _ _ => rfl⟩
theorem Kept.trans {S S' : Nat → Prop} {a b c : World} (h : Kept S a b) (k : Kept S' b c) (hs : ∀ i, S' i → S i ∨ a.heap.size ≤ i) : Kept S a c :=
  ⟨k.os.trans h.os, k.tape.trans h.tape, k.output.trans h.output, Nat.le_trans h.size k.size, fun i hi hn =>
    (k.block i (Nat.lt_of_lt_of_le hi h.size) (fun hc => by rcases hs i hc with h1 | h1; exact hn h1; omega)).trans (h.block i hi hn)⟩
theorem Kept.mono {S S' : Nat → Prop} {a b : World} (h : Kept S a b) (hs : ∀ i, S i → S' i) : Kept S' a b :=
  ⟨h.os, h.tape, h.output, h.size, fun i hi hn => h.block i hi (fun hc => hn (hs i hc))⟩
theorem Kept.alloc (S : Nat → Prop) (w : World) (o : Obj) : Kept S w (w.alloc o) := ⟨rfl, rfl, rfl, by simp, fun k hk _ => Below.heap_alloc w o k hk⟩
theorem Kept.drew (S : Nat → Prop) (w : World) : Kept S w w.drew := ⟨rfl, rfl, rfl, Nat.le_refl _, fun _ _ _ => rfl⟩
theorem Kept.setCell {S : Nat → Prop} (w : World) (a : Addr) (v : Value) (h : S a.block) : Kept S w (w.setCell a v) :=
  ⟨rfl, rfl, rfl, by simp, fun k _ hn => heap_setCell_other w a k v (fun e => hn (by rw [e]; exact h))⟩
theorem Kept.setCells {S : Nat → Prop} (b : Nat) (h : S b) : ∀ (vs : List Value) (o : Nat) (w : World), Kept S w (w.setCells b o vs)
  | [], _, w => Kept.refl S w
  | v :: r, o, w => (Kept.setCell w ⟨b, o, none⟩ v h).trans (Kept.setCells b h r (o + 1) _) (fun _ hi => .inl hi)
theorem Kept.grown {S : Nat → Prop} {w w' : World} {row : Option Nat} (hg : w.grownBy w' row) (h : ∀ k, row = some k → S k) : Kept S w w' :=
  ⟨hg.os, hg.tape, hg.output, hg.size, fun k hk hn => hg.block k hk (fun e => hn (h k e.symm))⟩
theorem Kept.below {S : Nat → Prop} {w w' : World} {B : Nat} (h : Kept S w w') (hs : ∀ k, S k → B ≤ k) (hB : B ≤ w.heap.size) : Below B w w' :=
  ⟨h.os, h.tape, h.output, h.size, fun k hk => h.block k (by omega) (fun hc => by have := hs k hc; omega)⟩
theorem Kept.cell {S : Nat → Prop} {w w' : World} (h : Kept S w w') {a : Addr} (ha : a.block < w.heap.size) (hn : ¬ S a.block) : w'.cell? a = w.cell? a :=
  World.cell?_of_block (h.block a.block ha hn)
theorem Kept.frozen {S : Nat → Prop} {w w' : World} (h : Kept S w w') {a : Addr} (ha : a.block < w.heap.size) (hn : ¬ S a.block) : w'.frozen? a = w.frozen? a :=
  World.frozen?_of_block (h.block a.block ha hn)
theorem Kept.owns {S : Nat → Prop} {w w' : World} (h : Kept S w w') {base : Nat} {e : TypeId} {size : Nat} {v : Value} {n : Nat} {xs : List Value} (ho : w.ownsRow base e size v n xs)
    (hn : ∀ k, v.ownBlock = some k → ¬ S k) : w'.ownsRow base e size v n xs := by
  refine ⟨ho.1, ?_⟩
  rcases ho.2 with h0 | ⟨g, cap, cur, rfl, hb, hgg, rest⟩
  · exact .inl h0
  · refine .inr ⟨g, cap, cur, rfl, hb, ?_, rest⟩
    rw [h.block g (Array.getElem?_eq_some_iff.1 hgg).1 (hn g rfl)]
    exact hgg

/-- A block's bytes: 128 cells. -/
def BlkOk (b : List Value) : Prop := b.length = 128 ∧ ∀ v ∈ b, v.oneCell' = true
/-- A write that has not been flushed, as its cells. -/
def wcells (p : Nat × List Value) : List Value := .int .i64 (p.1 : Int) :: p.2

/-- What a disk holds: its blocks as after a fall that loses everything; the writes that have not been flushed, in their order; the fuse; how many blocks were read. -/
structure Dk where
  bs : List (List Value)
  ps : List (Nat × List Value)
  fuse : Int
  reads : Int

structure Dk.Ok (D : Dk) : Prop where
  bs : ∀ b ∈ D.bs, BlkOk b
  ps : ∀ p ∈ D.ps, p.1 < D.bs.length ∧ BlkOk p.2
  few : D.bs.length ≤ 1000

/-- The disk D lies in memory, its struct at the head of block bd; S: the blocks of memory that are its own. -/
structure DiskAt (w : World) (bd : Nat) (S : Nat → Prop) (D : Dk) (ba pa : Option Addr) (bc pc : Nat) : Prop where
  ok : D.Ok
  head : w.heap[bd]? = some (.cells #[.slice ba D.bs.length bc, .slice pa D.ps.length pc, .int .i64 D.fuse, .int .i64 D.reads] 41 (0, 0))
  rows : w.ownsRow 0 30 128 (.slice ba D.bs.length bc) D.bs.length D.bs.flatten
  pend : w.ownsRow 0 43 129 (.slice pa D.ps.length pc) D.ps.length (D.ps.map wcells).flatten
  own : ∀ k, S k ↔ (k = bd ∨ (Value.slice ba D.bs.length bc).ownBlock = some k ∨ (Value.slice pa D.ps.length pc).ownBlock = some k)
  ap1 : (Value.slice ba D.bs.length bc).ownBlock ≠ some bd
  ap2 : (Value.slice pa D.ps.length pc).ownBlock ≠ some bd
  ap3 : ∀ k, (Value.slice ba D.bs.length bc).ownBlock = some k → (Value.slice pa D.ps.length pc).ownBlock ≠ some k

/-- .. wherever its rows lie. -/
def Disk (w : World) (bd : Nat) (S : Nat → Prop) (D : Dk) : Prop := ∃ ba pa bc pc, DiskAt w bd S D ba pa bc pc

theorem DiskAt.lt {w : World} {bd : Nat} {S : Nat → Prop} {D : Dk} {ba pa : Option Addr} {bc pc : Nat} (h : DiskAt w bd S D ba pa bc pc) : ∀ k, S k → k < w.heap.size := fun k hk => by
  rcases (h.own k).1 hk with rfl | h1 | h1
  · exact (Array.getElem?_eq_some_iff.1 h.head).1
  · exact (h.rows.lt k h1).2
  · exact (h.pend.lt k h1).2
theorem Disk.lt {w : World} {bd : Nat} {S : Nat → Prop} {D : Dk} (h : Disk w bd S D) : ∀ k, S k → k < w.heap.size := by
  obtain ⟨ba, pa, bc, pc, h⟩ := h; exact h.lt
theorem DiskAt.bdS {w : World} {bd : Nat} {S : Nat → Prop} {D : Dk} {ba pa : Option Addr} {bc pc : Nat} (h : DiskAt w bd S D ba pa bc pc) : S bd := (h.own bd).2 (.inl rfl)
theorem Disk.bdS {w : World} {bd : Nat} {S : Nat → Prop} {D : Dk} (h : Disk w bd S D) : S bd := by
  obtain ⟨ba, pa, bc, pc, h⟩ := h; exact h.bdS
theorem Disk.ok {w : World} {bd : Nat} {S : Nat → Prop} {D : Dk} (h : Disk w bd S D) : D.Ok := by
  obtain ⟨ba, pa, bc, pc, h⟩ := h; exact h.ok

/-- What a call does that leaves the disk's own blocks alone. -/
theorem DiskAt.kept {w w' : World} {bd : Nat} {S T : Nat → Prop} {D : Dk} {ba pa : Option Addr} {bc pc : Nat} (h : DiskAt w bd S D ba pa bc pc) (k : Kept T w w') (hn : ∀ i, S i → ¬ T i) : DiskAt w' bd S D ba pa bc pc := by
  refine ⟨h.ok, ?_, k.owns h.rows (fun i hi => hn i ((h.own i).2 (.inr (.inl hi)))), k.owns h.pend (fun i hi => hn i ((h.own i).2 (.inr (.inr hi)))), h.own, h.ap1, h.ap2, h.ap3⟩
  rw [k.block bd (h.lt bd h.bdS) (hn bd h.bdS)]; exact h.head
theorem Disk.kept {w w' : World} {bd : Nat} {S T : Nat → Prop} {D : Dk} (h : Disk w bd S D) (k : Kept T w w') (hn : ∀ i, S i → ¬ T i) : Disk w' bd S D := by
  obtain ⟨ba, pa, bc, pc, h⟩ := h; exact ⟨ba, pa, bc, pc, h.kept k hn⟩

theorem DiskAt.c0 {w : World} {bd : Nat} {S : Nat → Prop} {D : Dk} {ba pa : Option Addr} {bc pc : Nat} (h : DiskAt w bd S D ba pa bc pc) : w.cell? ⟨bd, 0, none⟩ = some (.slice ba D.bs.length bc) := by rw [cell_of_row w bd 0 _ _ _ h.head]; rfl
theorem DiskAt.c1 {w : World} {bd : Nat} {S : Nat → Prop} {D : Dk} {ba pa : Option Addr} {bc pc : Nat} (h : DiskAt w bd S D ba pa bc pc) : w.cell? ⟨bd, 1, none⟩ = some (.slice pa D.ps.length pc) := by rw [cell_of_row w bd 1 _ _ _ h.head]; rfl
theorem DiskAt.c2 {w : World} {bd : Nat} {S : Nat → Prop} {D : Dk} {ba pa : Option Addr} {bc pc : Nat} (h : DiskAt w bd S D ba pa bc pc) : w.cell? ⟨bd, 2, none⟩ = some (.int .i64 D.fuse) := by rw [cell_of_row w bd 2 _ _ _ h.head]; rfl
theorem DiskAt.c3 {w : World} {bd : Nat} {S : Nat → Prop} {D : Dk} {ba pa : Option Addr} {bc pc : Nat} (h : DiskAt w bd S D ba pa bc pc) : w.cell? ⟨bd, 3, none⟩ = some (.int .i64 D.reads) := by rw [cell_of_row w bd 3 _ _ _ h.head]; rfl
theorem DiskAt.fz {w : World} {bd : Nat} {S : Nat → Prop} {D : Dk} {ba pa : Option Addr} {bc pc : Nat} (h : DiskAt w bd S D ba pa bc pc) (i : Nat) : w.frozen? ⟨bd, i, none⟩ = false := frozen_of_row w bd i _ _ h.head
end Go.Proofs.Ytcoengihaobddaa.disk

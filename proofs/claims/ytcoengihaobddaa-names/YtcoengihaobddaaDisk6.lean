/- The disk's blocks written by what was pending: plain lists and worlds, no walk. -/
import Derived.Test.YtcoengihaobddaaDisk5
namespace Go.Proofs.Ytcoengihaobddaa.disk
set_option maxRecDepth 8000
open Go.RowKit

/-- The blocks, with these writes laid over them in their order. -/
def putAll (bs : List (List Value)) (ps : List (Nat × List Value)) : List (List Value) := ps.foldl (fun bs p => bs.set p.1 p.2) bs
theorem putAll_len (ps : List (Nat × List Value)) : ∀ bs, (putAll bs ps).length = bs.length := by
  induction ps with
  | nil => intro bs; rfl
  | cons p ps ih => intro bs; unfold putAll; rw [List.foldl_cons]; exact (ih _).trans (by simp)
theorem putAll_snoc (bs : List (List Value)) (ps : List (Nat × List Value)) (k : Nat) (hk : k < ps.length) : putAll bs (ps.take (k + 1)) = (putAll bs (ps.take k)).set ps[k].1 ps[k].2 := by
  unfold putAll; rw [List.take_succ_eq_append_getElem hk, List.foldl_append]; rfl

/-- One block of a disk written. -/
theorem DiskAt.setb {w : World} {bd : Nat} {S : Nat → Prop} {D : Dk} {g : Nat} {pa : Option Addr} {bc pc : Nat} (h : DiskAt w bd S D (some ⟨g, 0, none⟩) pa bc pc) (i : Nat) (hi : i < D.bs.length) (b : List Value) (hb : BlkOk b) :
    DiskAt (w.setCells g (i * 128) b) bd S { D with bs := D.bs.set i b } (some ⟨g, 0, none⟩) pa bc pc := by
  have hl : (D.bs.set i b).length = D.bs.length := by simp
  have hg : g ≠ bd := fun e => h.ap1 (by rw [e]; rfl)
  have hk := Kept.setCells (S := fun k => k = g) g rfl b (i * 128) w
  refine ⟨⟨?_, ?_, by simpa using h.ok.few⟩, ?_, ?_, ?_, ?_, ?_, ?_, ?_⟩
  · intro x hx
    rcases List.mem_or_eq_of_mem_set hx with hx | rfl
    · exact h.ok.bs x hx
    · exact hb
  · intro p hp; simpa using h.ok.ps p hp
  · simp only [hl]
    rw [hk.block bd (h.lt bd h.bdS) (fun e => hg e.symm)]; exact h.head
  · simp only [hl]
    exact owns_set h.rows (fun x hx => (h.ok.bs x hx).1) i hi b hb.1
  · exact hk.owns h.pend (fun k hk2 e => h.ap3 k (by rw [e]; rfl) hk2)
  · simp only [hl]; exact h.own
  · simp only [hl]; exact h.ap1
  · exact h.ap2
  · simp only [hl]; exact h.ap3
theorem DiskAt.bthere {w : World} {bd : Nat} {S : Nat → Prop} {D : Dk} {g : Nat} {pa : Option Addr} {bc pc : Nat} (h : DiskAt w bd S D (some ⟨g, 0, none⟩) pa bc pc) (i : Nat) (hi : i < D.bs.length) : w.there g (i * 128) 128 :=
  owns_there h.rows (fun b hb => (h.ok.bs b hb).1) i hi
/-- Nothing is pending any more. -/
theorem DiskAt.nopend {w : World} {bd : Nat} {S : Nat → Prop} {D : Dk} {ba pa : Option Addr} {bc pc : Nat} (h : DiskAt w bd S D ba pa bc pc) :
    DiskAt (w.setCell ⟨bd, 1, none⟩ (.slice none 0 0)) bd (fun k => k = bd ∨ (Value.slice ba D.bs.length bc).ownBlock = some k) { D with ps := [] } ba none bc 0 := by
  have hk := Kept.setCell (S := fun k => k = bd) w ⟨bd, 1, none⟩ (.slice none 0 0) rfl
  refine ⟨⟨h.ok.bs, fun p hp => (by cases hp), h.ok.few⟩, ?_, hk.owns h.rows (fun k hk2 e => h.ap1 (by rw [hk2, e])), World.ownsRow_nil _ _ _ _, ?_, h.ap1, by simp [Value.ownBlock], fun k _ => by simp [Value.ownBlock]⟩
  · rw [heap_setCell_same w bd 1 _ _ _ h.head]; rfl
  · intro k; simp [Value.ownBlock]

/-- In the middle of a flush: the disk with the first writes laid over its blocks. -/
structure FlInv (w wr : World) (bd : Nat) (S : Nat → Prop) (D : Dk) (ba pa : Option Addr) (bc pc : Nat) : Prop where
  disk : DiskAt wr bd S D ba pa bc pc
  kept : Kept S w wr
theorem FlInv.alloc {w wr : World} {bd : Nat} {S : Nat → Prop} {D : Dk} {ba pa : Option Addr} {bc pc : Nat} (h : FlInv w wr bd S D ba pa bc pc) (o : Obj) : FlInv w (wr.alloc o) bd S D ba pa bc pc :=
  ⟨h.disk.kept (Kept.alloc (fun _ => False) wr o) (fun _ _ hf => hf), h.kept.trans (Kept.alloc S wr o) (fun _ h => .inl h)⟩
theorem FlInv.drew {w wr : World} {bd : Nat} {S : Nat → Prop} {D : Dk} {ba pa : Option Addr} {bc pc : Nat} (h : FlInv w wr bd S D ba pa bc pc) : FlInv w wr.drew bd S D ba pa bc pc :=
  ⟨h.disk.kept (Kept.drew (fun _ => False) wr) (fun _ _ hf => hf), h.kept.trans (Kept.drew S wr) (fun _ h => .inl h)⟩
theorem FlInv.setb {w wr : World} {bd : Nat} {S : Nat → Prop} {D : Dk} {g : Nat} {pa : Option Addr} {bc pc : Nat} (h : FlInv w wr bd S D (some ⟨g, 0, none⟩) pa bc pc) (i : Nat) (hi : i < D.bs.length) (b : List Value) (hb : BlkOk b) :
    FlInv w (wr.setCells g (i * 128) b) bd S { D with bs := D.bs.set i b } (some ⟨g, 0, none⟩) pa bc pc :=
  ⟨h.disk.setb i hi b hb, h.kept.trans (Kept.setCells (S := S) g ((h.disk.own g).2 (.inr (.inl rfl))) b (i * 128) wr) (fun _ h => .inl h)⟩
end Go.Proofs.Ytcoengihaobddaa.disk

/- Building a write's value and the row that holds it, as run equations. -/
import Derived.Test.YtcoengihaobddaaDisk3
namespace Go.Proofs.Ytcoengihaobddaa.disk
set_option maxRecDepth 8000
open Go.RowKit

theorem fold_set (off : Nat) : ∀ (vs : List Value) (k : Nat) (cells : Array Value), off + k + vs.length ≤ cells.size →
    ((vs.zipIdx k).foldl (fun cs (p : Value × Nat) => cs.setIfInBounds (off + p.2) p.1) cells).toList = cells.toList.take (off + k) ++ vs ++ cells.toList.drop (off + k + vs.length)
  | [], k, cells, _ => by simp
  | v :: r, k, cells, h => by
    simp only [List.length_cons] at h
    rw [List.zipIdx_cons, List.foldl_cons, fold_set off r (k + 1) _ (by simp; omega)]
    simp only [Array.toList_setIfInBounds, List.length_cons]
    rw [List.set_eq_take_append_cons_drop, if_pos (by simp; omega)]
    obtain ⟨k1, k2⟩ := cut_mid (cells.toList.take (off + k)) (cells.toList.drop (off + k + 1)) v (off + k) r.length (by simp; omega)
    rw [show off + (k + 1) = off + k + 1 from by omega, k1, k2, List.drop_drop, show off + k + 1 + r.length = off + k + (r.length + 1) from by omega]
    simp
theorem fold_set1 (off : Nat) (vs : List Value) (cells : Array Value) (h : off + vs.length ≤ cells.size) :
    vs.zipIdx.foldl (fun cs (p : Value × Nat) => cs.setIfInBounds (off + p.2) p.1) cells = (cells.toList.take off ++ vs ++ cells.toList.drop (off + vs.length)).toArray := by
  apply Array.ext'
  rw [fold_set off vs 0 cells (by simpa using h)]
  simp
theorem fold_set0 (vs : List Value) (cells : Array Value) (h : vs.length = cells.size) :
    vs.zipIdx.foldl (fun cs (p : Value × Nat) => cs.setIfInBounds p.2 p.1) cells = vs.toArray := by
  have := fold_set1 0 vs cells (by omega)
  simp only [Nat.zero_add] at this
  rw [this, h]
  simp

theorem run_size {t : TypeId} {n : Nat} (h : (Try.prog.info? t).map (·.size) = some n) (w : World) : (sizeOf t).run Try.prog w = .ok n w := by
  cases hq : Try.prog.info? t with
  | none => simp [hq] at h
  | some i => simp [hq] at h; simp [sizeOf, typeInfo, hq, h]
theorem size_int : (Try.prog.info? 3).map (·.size) = some 1 := by kernel_rfl

/-- The value of a write, out of its number and its block. -/
theorem run_build_write (w : World) (n : Int) (b : List Value) (h : b.length = 128) :
    (Instr.build 43 #[(0, .int .i64 n), (1, .agg b.toArray)]).run Try.prog w = .ok (.agg (.int .i64 n :: b).toArray) w := by
  have hz := zero_run Try.infoWrite w
  have hzl : zeroW.length = 129 := congrArg (· + 1) zeroB_ok.1
  have h1 : ∀ w, (sizeOf 3).run Try.prog w = .ok 1 w := run_size size_int
  have h2 : ∀ w, (sizeOf 30).run Try.prog w = .ok 128 w := run_size (size_of Try.infoBlock)
  generalize hZW : zeroW = ZW at *
  have hne : ¬ ZW = [] := fun e => by rw [e] at hzl; simp at hzl
  have f2 := fold_set1 1 b (ZW.set 0 (.int .i64 n)).toArray (by simp [h, hzl])
  have hl : ¬ (¬ b.length = 128 ∨ ZW.length < 1 + b.length) := by omega
  simp only [Instr.build, Sem.run_bind, hz, Result.andThen_ok, run_underlying Try.underlying43 w]
  simp [h1, h2, Value.cells, Instr.fill]
  rw [if_neg hne, if_neg hl, f2]
  simp only [Sem.run_pure]
  congr 2
  apply Array.ext'
  cases ZW with
  | nil => exact absurd rfl hne
  | cons z Z => simp [h]; simp at hzl; omega

/-- A new row with the one value. -/
theorem run_slice_write (w : World) (cs : List Value) (h : cs.length = 129) :
    (Instr.buildSlice 39 1 #[(0, .agg cs.toArray)]).run Try.prog w = .ok (.slice (some ⟨w.heap.size, 0, none⟩) 1 1) (w.alloc (.cells cs.toArray 43)) := by
  have hz := zero_run Try.infoWrite w
  have h2 : ∀ w, (sizeOf 43).run Try.prog w = .ok 129 w := run_size (size_of Try.infoWrite)
  have hzl : zeroW.length = 129 := congrArg (· + 1) zeroB_ok.1
  generalize hZW : zeroW = ZW at *
  have hl : ¬ (¬ cs.length = 129 ∨ 129 < cs.length) := by omega
  simp only [Instr.buildSlice, Sem.run_bind, Result.andThen_ok, run_underlying Try.underlying39 w]
  first
    | (simp [h2, Value.cells, Instr.fill]
       rw [if_neg hl, fold_set0 cs _ (by simp [h])]
       simp [newRow]
       done)
    | (simp [h2, hz, Value.cells, Instr.fill, hzl]
       rw [if_neg hl, fold_set0 cs _ (by simp [h])]
       simp [newRow])
/-! The two as the walk's rules: the operations are folded before their parts are looked at, and run when these stand written out. -/
def buildW (parts : Array (Nat × Value)) : Sem Value := Instr.build 43 parts
theorem buildW_eq (parts : Array (Nat × Value)) : Instr.build 43 parts = buildW parts := rfl
theorem run_buildW (w : World) (n : Int) (b : List Value) (h : b.length = 128) : (buildW #[(0, .int .i64 n), (1, .agg b.toArray)]).run Try.prog w = .ok (.agg (.int .i64 n :: b).toArray) w := run_build_write w n b h
def sliceW (len : Nat) (parts : Array (Nat × Value)) : Sem Value := Instr.buildSlice 39 len parts
theorem sliceW_eq (len : Nat) (parts : Array (Nat × Value)) : Instr.buildSlice 39 len parts = sliceW len parts := rfl
theorem run_sliceW (w : World) (c : Value) (cs : List Value) (h : cs.length = 128) : (sliceW 1 #[(0, .agg (c :: cs).toArray)]).run Try.prog w = .ok (.slice (some ⟨w.heap.size, 0, none⟩) 1 1) (w.alloc (.cells (c :: cs).toArray 43)) :=
  run_slice_write w (c :: cs) (by simp [h])
def loadB (v : Value) : Sem Value := Instr.loadAt 30 v
theorem loadB_eq (v : Value) : Instr.loadAt 30 v = loadB v := rfl
theorem run_loadB (w : World) (b o : Nat) (cs : List Value) (hc : w.rangeAt b o cs) (h : cs.length = 128) : (loadB (.pointer (some ⟨b, o, none⟩))).run Try.prog w = .ok (.agg cs.toArray) w :=
  run_loadAt_mid w b o 30 cs _ hc Try.underlying30 rfl (by rw [h]; exact size_of Try.infoBlock)
end Go.Proofs.Ytcoengihaobddaa.disk

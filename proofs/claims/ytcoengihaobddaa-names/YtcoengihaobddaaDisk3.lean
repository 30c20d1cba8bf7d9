/- The walk of the disk's Read: for every disk and number. -/
import Derived.Test.YtcoengihaobddaaDisk2
import Derived.Deep.WholeRow
import Derived.Deep.CutRange
namespace Go.Proofs.Ytcoengihaobddaa.disk
set_option maxRecDepth 8000
open Go.ChangeShapes Go.WideShapes Go.ChangeAt Go.RowKit

def zeroW : List Value := .int .i64 0 :: zeroB
theorem Try.infoWrite : (Try.prog.info? 43).map (fun i => (i.zero, i.size, i.bytes)) = some (some (.agg zeroW.toArray), 129, 136) := by kernel_rfl
theorem zero_run {t : TypeId} {v : Value} {n b : Nat} (h : (Try.prog.info? t).map (fun i => (i.zero, i.size, i.bytes)) = some (some v, n, b)) : ∀ w, (zeroValue t).run Try.prog w = .ok v w := by
  obtain ⟨i, hi, hz, _, _⟩ := info_parts h
  intro w
  simp [zeroValue, typeInfo, hi, hz]
theorem size_of {t : TypeId} {v : Value} {n b : Nat} (h : (Try.prog.info? t).map (fun i => (i.zero, i.size, i.bytes)) = some (some v, n, b)) : (Try.prog.info? t).map (·.size) = some n := by
  obtain ⟨i, hi, _, hs, _⟩ := info_parts h
  simp [hi, hs]

/-- What was last written, or lies there. -/
def lastOf (i : Nat) (ps : List (Nat × List Value)) (b : List Value) : List Value := ps.foldl (fun b p => if p.1 = i then p.2 else b) b
def Dk.look (D : Dk) (a : Int) : List Value := if 0 ≤ a ∧ a < D.bs.length then lastOf a.toNat D.ps (D.bs.getD a.toNat []) else zeroB

theorem DiskAt.row {w : World} {bd : Nat} {S : Nat → Prop} {D : Dk} {ba pa : Option Addr} {bc pc : Nat} (h : DiskAt w bd S D ba pa bc pc) (hn : 0 < D.bs.length) : ∃ g, ba = some ⟨g, 0, none⟩ := by
  rcases h.rows.2 with ⟨_, h0⟩ | ⟨g, cap, cur, hv, _⟩
  · omega
  · cases hv; exact ⟨g, rfl⟩
theorem DiskAt.prow {w : World} {bd : Nat} {S : Nat → Prop} {D : Dk} {ba pa : Option Addr} {bc pc : Nat} (h : DiskAt w bd S D ba pa bc pc) (hn : 0 < D.ps.length) : ∃ g, pa = some ⟨g, 0, none⟩ := by
  rcases h.pend.2 with ⟨_, h0⟩ | ⟨g, cap, cur, hv, _⟩
  · omega
  · cases hv; exact ⟨g, rfl⟩

/-- A whole value into the block that was made last. -/
theorem wpList_store_new {P : Program} {ops : Array Oper} {rest : List Oper} {op : Oper} {a : Act} {W : World} {Q : Exit → Act → World → Prop} (hgd : op.guard = none) (ty : TypeId) (x y : Operand) (ho : op.op = .store ty x y)
    (n : Nat) (c : Array Value) (cs : List Value) (hn : n = W.heap.size) (hx : a.eval x = .pointer (some ⟨n, 0, none⟩)) (hy : a.eval y = .agg cs.toArray)
    (hi : (P.info? ty).map (·.size) = some cs.length) (hc : c.size = cs.length) (h1 : ∀ v ∈ cs, v.oneCell' = true)
    (h : wpList P ops Q rest (a.put op.dst undef) (W.alloc (.cells cs.toArray ty))) : wpList P ops Q (op :: rest) a (W.alloc (.cells c ty)) := by
  subst hn
  refine wpList_plain hgd fun _ hK => ?_
  unfold Oper.wp execOp
  simp only [ho, hx, hy, run_storeAt_new (P := P) W ty c cs.toArray (by simpa using hi) (by simpa using hc) (all_oneCell_toArray h1), Sem.run_bind, Result.andThen_ok, Sem.run_pure]
  exact hK _ _ h

/-- In the middle of Read: the disk, the result's block, the block that was read so far. -/
structure RdInv (w wr : World) (bd : Nat) (S : Nat → Prop) (D : Dk) (ba pa : Option Addr) (bc pc : Nat) (Zb cur : List Value) : Prop where
  disk : DiskAt wr bd S D ba pa bc pc
  kept : Kept (fun k => k = bd) w wr
  resb : wr.heap[w.heap.size]? = some (.cells Zb.toArray 30 (0, 0))
  curb : wr.heap[w.heap.size + 1]? = some (.cells cur.toArray 30 (0, 0))
theorem RdInv.lt {w wr : World} {bd : Nat} {S : Nat → Prop} {D : Dk} {ba pa : Option Addr} {bc pc : Nat} {Zb cur : List Value} (h : RdInv w wr bd S D ba pa bc pc Zb cur) : w.heap.size + 1 < wr.heap.size :=
  (Array.getElem?_eq_some_iff.1 h.curb).1
theorem RdInv.alloc {w wr : World} {bd : Nat} {S : Nat → Prop} {D : Dk} {ba pa : Option Addr} {bc pc : Nat} {Zb cur : List Value} (h : RdInv w wr bd S D ba pa bc pc Zb cur) (o : Obj) : RdInv w (wr.alloc o) bd S D ba pa bc pc Zb cur := by
  have hl := h.lt
  refine ⟨h.disk.kept (Kept.alloc (fun _ => False) wr o) (fun _ _ hf => hf), h.kept.trans (Kept.alloc _ wr o) (fun _ h => .inl h), ?_, ?_⟩
  · rw [Below.heap_alloc wr o _ (by omega)]; exact h.resb
  · rw [Below.heap_alloc wr o _ hl]; exact h.curb
theorem RdInv.set {w wr : World} {bd : Nat} {S : Nat → Prop} {D : Dk} {ba pa : Option Addr} {bc pc : Nat} {Zb cur : List Value} (h : RdInv w wr bd S D ba pa bc pc Zb cur) (hS : ∀ k, S k → k < w.heap.size)
    (cs : List Value) (hl : cur.length = cs.length) : RdInv w (wr.setCells (w.heap.size + 1) 0 cs) bd S D ba pa bc pc Zb cs := by
  refine ⟨h.disk.kept (Kept.setCells (S := fun k => k = w.heap.size + 1) _ rfl cs 0 wr) (fun k hk e => by have := hS k hk; omega), h.kept.trans (Kept.setCells (S := fun k => k = w.heap.size + 1) _ rfl cs 0 wr) (fun k hk => .inr (by omega)), ?_, ?_⟩
  · rw [heap_setCells_other _ _ (by omega)]; exact h.resb
  · rw [heap_setCells_same _ _ cs 0 wr _ h.curb (by simp; omega)]
    congr 2
    apply Array.ext'
    simp [hl]
theorem RdInv.done {w wr : World} {bd : Nat} {S : Nat → Prop} {D : Dk} {ba pa : Option Addr} {bc pc : Nat} {Zb cur : List Value} (h : RdInv w wr bd S D ba pa bc pc Zb cur) (hS : ∀ k, S k → k < w.heap.size)
    (hl : Zb.length = cur.length) : DiskAt (wr.setCells w.heap.size 0 cur) bd S D ba pa bc pc ∧ Kept (fun k => k = bd) w (wr.setCells w.heap.size 0 cur) ∧
      (wr.setCells w.heap.size 0 cur).heap[w.heap.size]? = some (.cells cur.toArray 30 (0, 0)) := by
  refine ⟨h.disk.kept (Kept.setCells (S := fun k => k = w.heap.size) _ rfl cur 0 wr) (fun k hk e => by have := hS k hk; omega), h.kept.trans (Kept.setCells (S := fun k => k = w.heap.size) _ rfl cur 0 wr) (fun k hk => .inr (by omega)), ?_⟩
  rw [heap_setCells_same _ _ cur 0 wr _ h.resb (by simp; omega)]
  congr 2
  apply Array.ext'
  simp [hl]
/-- A block that is known whole, as a range. -/
theorem range_of_block {w : World} {b : Nat} {t : TypeId} {cs : List Value} (hb : w.heap[b]? = some (.cells cs.toArray t (0, 0))) : w.rangeAt b 0 cs := fun j v hv => by
  rw [cell_of_row w b (0 + j) _ t (0, 0) hb]; simpa using hv
theorem there_of_block {w : World} {b : Nat} {t : TypeId} {cs : List Value} (hb : w.heap[b]? = some (.cells cs.toArray t (0, 0))) : w.there b 0 cs.length := fun j hj =>
  ⟨(range_of_block hb).isSome j hj, frozen_of_row w b _ _ t hb⟩
/-- .. from its second cell on. -/
theorem range_of_block1 {w : World} {b : Nat} {t : TypeId} {c : Value} {cs : List Value} (hb : w.heap[b]? = some (.cells (c :: cs).toArray t (0, 0))) : w.rangeAt b 1 cs := fun j v hv => by
  rw [cell_of_row w b (1 + j) _ t (0, 0) hb, Nat.add_comm]; simpa using hv
theorem DiskAt.range {w : World} {bd : Nat} {S : Nat → Prop} {D : Dk} {g : Nat} {pa : Option Addr} {bc pc : Nat} (h : DiskAt w bd S D (some ⟨g, 0, none⟩) pa bc pc) (i : Nat) (hi : i < D.bs.length) : w.rangeAt g (i * 128) D.bs[i] :=
  owns_range h.rows (fun b hb => (h.ok.bs b hb).1) i hi
theorem wcells_len {D : Dk} (h : D.Ok) : ∀ b ∈ D.ps.map wcells, b.length = 129 := fun b hb => by
  obtain ⟨p, hp, rfl⟩ := List.mem_map.1 hb
  have := (h.ps p hp).2.1
  simp [wcells, this]
theorem DiskAt.prange {w : World} {bd : Nat} {S : Nat → Prop} {D : Dk} {g : Nat} {ba : Option Addr} {bc pc : Nat} (h : DiskAt w bd S D ba (some ⟨g, 0, none⟩) bc pc) (i : Nat) (hi : i < D.ps.length) : w.rangeAt g (i * 129) (.int .i64 (D.ps[i].1 : Int) :: D.ps[i].2) := by
  have hp := h.pend
  rw [show D.ps.length = (D.ps.map wcells).length from by simp] at hp
  have := owns_range hp (wcells_len h.ok) i (by simpa using hi)
  simpa [wcells] using this

theorem lastOf_snoc (i : Nat) (ps : List (Nat × List Value)) (b : List Value) (k : Nat) (hk : k < ps.length) : lastOf i (ps.take (k + 1)) b = if ps[k].1 = i then ps[k].2 else lastOf i (ps.take k) b := by
  unfold lastOf
  rw [List.take_succ_eq_append_getElem hk, List.foldl_append]; rfl
theorem lastOf_ok {i : Nat} {b : List Value} (hb : BlkOk b) : ∀ {ps : List (Nat × List Value)}, (∀ p ∈ ps, BlkOk p.2) → BlkOk (lastOf i ps b) := by
  intro ps
  induction ps generalizing b with
  | nil => intro _; exact hb
  | cons p ps ih =>
    intro h
    unfold lastOf
    rw [List.foldl_cons]
    refine ih ?_ (fun q hq => h q (List.mem_cons_of_mem _ hq))
    split
    · exact h p (List.mem_cons_self ..)
    · exact hb

theorem DiskAt.len {w : World} {bd : Nat} {S : Nat → Prop} {D : Dk} {ba pa : Option Addr} {bc pc : Nat} (h : DiskAt w bd S D ba pa bc pc) : D.ps.length ≤ 9223372036854775807 := by
  rcases h.pend.2 with ⟨_, h0⟩ | ⟨g, cap, cur, hv, _, _, h1, h2, _⟩
  · omega
  · unfold maxLen at h2; omega

set_option maxHeartbeats 2000000 in
theorem read_in (w : World) (bd : Nat) (S : Nat → Prop) (D : Dk) (ba pa : Option Addr) (bc pc : Nat) (h : DiskAt w bd S D ba pa bc pc) (i : Nat) (hi : i < D.bs.length) (hr0 : 0 ≤ D.reads) (hr1 : D.reads ≤ 4611686018427387904) :
    Calls Try.prog 14 #[.pointer (some ⟨bd, 0, none⟩), .int .i64 i] w fun e w' =>
      e = .returned (.agg (D.look i).toArray) ∧ DiskAt w' bd S { D with reads := D.reads + 1 } ba pa bc pc ∧ Kept (fun k => k = bd) w w' := by
  obtain ⟨Zb, hZb, hz⟩ : ∃ Zb : List Value, Zb = zeroB ∧ ∀ w, (zeroValue 30).run Try.prog w = .ok (.agg Zb.toArray) w := ⟨zeroB, rfl, zero_run Try.infoBlock⟩
  obtain ⟨Zw, hZw, hzw⟩ : ∃ Zw : List Value, Zw = zeroW ∧ ∀ w, (zeroValue 43).run Try.prog w = .ok (.agg Zw.toArray) w := ⟨zeroW, rfl, zero_run Try.infoWrite⟩
  have HZb : Hid (Zb.length = 128) := by rw [hZb]; exact zeroB_ok.1
  have HZw : Hid (Zw.length = 129) := by rw [hZw]; exact congrArg (· + 1) zeroB_ok.1
  clear hZb hZw
  obtain ⟨g, rfl⟩ := h.row (by omega)
  have hc0 := h.c0
  have hc1 := h.c1
  have hc3 := h.c3
  have hf3 := h.fz 3
  have hbd := h.lt bd h.bdS
  have HH : Hid (DiskAt w bd S D (some ⟨g, 0, none⟩) pa bc pc) := h
  have hps := h.len
  have HOB : Hid (BlkOk D.bs[i]) := h.ok.bs _ (List.getElem_mem hi)
  have HS1 : Hid (∀ k, S k → k < w.heap.size) := h.lt
  have H1 : Hid (DiskAt (w.setCell ⟨bd, 3, none⟩ (.int .i64 (D.reads + 1))) bd S { D with reads := D.reads + 1 } (some ⟨g, 0, none⟩) pa bc pc) := h.set_reads (D.reads + 1)
  have H2 : Hid (DiskAt ((w.setCell ⟨bd, 3, none⟩ (.int .i64 (D.reads + 1))).alloc (.cells Zb.toArray 30)) bd S { D with reads := D.reads + 1 } (some ⟨g, 0, none⟩) pa bc pc) :=
    H1.out.kept (Kept.alloc (fun _ => False) _ _) (fun _ _ hf => hf)
  have HR : Hid (RdInv w (((w.setCell ⟨bd, 3, none⟩ (.int .i64 (D.reads + 1))).alloc (.cells Zb.toArray 30)).alloc (.cells D.bs[i].toArray 30)) bd S { D with reads := D.reads + 1 } (some ⟨g, 0, none⟩) pa bc pc Zb D.bs[i]) := by
    refine ⟨H2.out.kept (Kept.alloc (fun _ => False) _ _) (fun _ _ hf => hf), ((Kept.setCell (S := fun k => k = bd) w _ _ rfl).trans (Kept.alloc _ _ _) (fun _ h => .inl h)).trans (Kept.alloc _ _ _) (fun _ h => .inl h), ?_, ?_⟩
    · have := heap_alloc2_old (w.setCell ⟨bd, 3, none⟩ (.int .i64 (D.reads + 1))) (.cells Zb.toArray 30) (.cells D.bs[i].toArray 30)
      simpa using this
    · have := heap_alloc2_new (w.setCell ⟨bd, 3, none⟩ (.int .i64 (D.reads + 1))) (.cells Zb.toArray 30) (.cells D.bs[i].toArray 30)
      simpa using this
  have HI : Hid ((Try.prog.info? 30).map (·.size) = some 128) := size_of Try.infoBlock
  have HIw : Hid ((Try.prog.info? 43).map (·.size) = some 129) := size_of Try.infoWrite
  clear h
  have hlt : (i : Int) < (D.bs.length : Int) := by omega
  go_enter Try.func14, Try.ntmps14
  go_wp2_with (first
    | (refine wpList_load_mid rfl 30 (.tmp 32) rfl _ _ rfl D.bs[i] _ (H2.out.range i hi) Try.underlying30 rfl (by rw [HOB.out.1]; exact HI.out) ?_)
    | (refine wpList_store_new rfl 30 (.tmp 5) (.tmp 33) rfl _ _ D.bs[i] (by simp) rfl rfl (by rw [HOB.out.1]; exact HI.out) (by rw [HOB.out.1]; simpa using HZb.out) HOB.out.2 ?_))
  go_loopw [39] (fun t wr => ∃ k : Nat, k ≤ D.ps.length ∧ t = .int .i64 k ∧ RdInv w wr bd S { D with reads := D.reads + 1 } (some ⟨g, 0, none⟩) pa bc pc Zb (lastOf i (D.ps.take k) D.bs[i])) (fun t _ => D.ps.length - (intOf t).toNat)
  case atStart => exact ⟨0, Nat.zero_le _, rfl, HR.out⟩
  case round =>
    obtain ⟨k, hk, rfl, hinv⟩ := hrel
    have HV : Hid (RdInv w wr bd S { D with reads := D.reads + 1 } (some ⟨g, 0, none⟩) pa bc pc Zb (lastOf i (D.ps.take k) D.bs[i])) := hinv
    clear hinv
    have HL : Hid (BlkOk (lastOf i (D.ps.take k) D.bs[i])) := lastOf_ok HOB.out (fun p hp => (HH.out.ok.ps p (List.mem_of_mem_take hp)).2)
    have hsz := HV.out.lt
    by_cases hlt2 : k < D.ps.length
    · obtain ⟨g2, rfl⟩ := HH.out.prow (by omega)
      have HP : Hid (wr.rangeAt g2 (k * 129) (.int .i64 (D.ps[k].1 : Int) :: D.ps[k].2)) := HV.out.disk.prange k hlt2
      have HPO : Hid (BlkOk D.ps[k].2) := (HH.out.ok.ps _ (List.getElem_mem hlt2)).2
      have HLS : Hid (lastOf i (D.ps.take (k + 1)) D.bs[i] = if D.ps[k].1 = i then D.ps[k].2 else lastOf i (D.ps.take k) D.bs[i]) := lastOf_snoc i D.ps D.bs[i] k hlt2
      generalize hq : D.ps[k] = q at *
      obtain ⟨qi, qb⟩ := q
      have HP1 : Hid (Value.oneCell' (.int .i64 (qi : Int)) = true) := rfl
      have HA : Hid (RdInv w (wr.alloc (.cells (.int .i64 (qi : Int) :: qb).toArray 43)) bd S { D with reads := D.reads + 1 } (some ⟨g, 0, none⟩) (some ⟨g2, 0, none⟩) bc pc Zb (lastOf i (D.ps.take k) D.bs[i])) := HV.out.alloc _
      clear hq
      have hlt3 : (k : Int) < (D.ps.length : Int) := by omega
      by_cases hqi : qi = i
      · have hq2 : ((qi : Int) == (i : Int)) = true := by simp [hqi]
        have HQ : Hid (qi = i) := hqi
        clear hqi
        go_wp2_with (first
          | (refine wpList_load_mid rfl 43 (.tmp 41) rfl _ _ rfl (.int .i64 (qi : Int) :: qb) _ HP.out Try.underlying43 rfl (by rw [List.length_cons, HPO.out.1]; exact HIw.out) ?_)
          | (refine wpList_store_new rfl 43 (.tmp 7) (.tmp 42) rfl _ _ (.int .i64 (qi : Int) :: qb) rfl rfl rfl (by rw [List.length_cons, HPO.out.1]; exact HIw.out) (by rw [List.length_cons, HPO.out.1]; simpa using HZw.out) (List.forall_mem_cons.2 ⟨HP1.out, HPO.out.2⟩) ?_)
          | (refine wpList_load_mid rfl 30 (.tmp 47) rfl _ _ rfl qb _ (range_of_block1 (heap_alloc_new wr _)) Try.underlying30 rfl (by rw [HPO.out.1]; exact HI.out) ?_)
          | (refine wpList_store_mid rfl 30 (.tmp 5) (.tmp 48) rfl _ _ _ rfl rfl (by have := there_of_block HA.out.curb; rw [HL.out.1] at this; simpa [HPO.out.1] using this) (by rw [List.size_toArray, HPO.out.1]; exact HI.out) (all_oneCell_toArray HPO.out.2) ?_))
        go_roundw
        case rel => exact ⟨k + 1, by omega, by go_num, by rw [HLS.out, if_pos HQ.out]; exact HA.out.set HS1.out qb (by rw [HL.out.1, HPO.out.1])⟩
        case measure => simp [intOf]; omega
      · have hq2 : ((qi : Int) == (i : Int)) = false := by simp; omega
        have HQ : Hid (¬ qi = i) := hqi
        clear hqi
        go_wp2_with (first
          | (refine wpList_load_mid rfl 43 (.tmp 41) rfl _ _ rfl (.int .i64 (qi : Int) :: qb) _ HP.out Try.underlying43 rfl (by rw [List.length_cons, HPO.out.1]; exact HIw.out) ?_)
          | (refine wpList_store_new rfl 43 (.tmp 7) (.tmp 42) rfl _ _ (.int .i64 (qi : Int) :: qb) rfl rfl rfl (by rw [List.length_cons, HPO.out.1]; exact HIw.out) (by rw [List.length_cons, HPO.out.1]; simpa using HZw.out) (List.forall_mem_cons.2 ⟨HP1.out, HPO.out.2⟩) ?_))
        go_roundw
        case rel => exact ⟨k + 1, by omega, by go_num, by rw [HLS.out, if_neg HQ.out]; exact HA.out⟩
        case measure => simp [intOf]; omega
    · have hge : ¬ (k : Int) < (D.ps.length : Int) := by omega
      go_wp2_with (first
        | (refine wpList_load_mid rfl 30 (.tmp 5) rfl _ _ rfl (lastOf i (D.ps.take k) D.bs[i]) _ (range_of_block HV.out.curb) Try.underlying30 rfl (by rw [HL.out.1]; exact HI.out) ?_)
        | (refine wpList_store_mid rfl 30 (.tmp 4) (.tmp 50) rfl _ _ _ rfl rfl (by have := there_of_block HV.out.resb; rw [HZb.out] at this; simpa [HL.out.1] using this) (by rw [List.size_toArray, HL.out.1]; exact HI.out) (all_oneCell_toArray HL.out.2) ?_))
      obtain ⟨r1, r2, r3⟩ := HV.out.done HS1.out (by rw [HZb.out, HL.out.1])
      have hkk : lastOf i (D.ps.take k) D.bs[i] = D.look i := by
        unfold Dk.look
        rw [if_pos ⟨by omega, hlt⟩, List.take_of_length_le (by omega), Int.toNat_natCast, List.getD_eq_getElem?_getD, List.getElem?_eq_getElem hi, Option.getD_some]
      refine bodyPost_ret (v := .agg (lastOf i (D.ps.take k) D.bs[i]).toArray) (results_cell_row Try.results14 _ _ w.heap.size 30 _ (0, 0) _ rfl r3 Try.underlying30 rfl (by rw [List.size_toArray, HL.out.1]; exact HI.out)) rfl ⟨by rw [hkk], r1, r2⟩
end Go.Proofs.Ytcoengihaobddaa.disk

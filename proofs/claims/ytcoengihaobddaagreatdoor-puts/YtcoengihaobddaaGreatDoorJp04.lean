/- Part 4 of 39 of a proof: Disk8, Disk9 -/
import Derived.Test.YtcoengihaobddaaGreatDoorJp03
namespace Go.Proofs.YtcoengihaobddaaGreatDoor.disk
set_option maxRecDepth 8000
open Go.ChangeShapes Go.WideShapes Go.ChangeAt Go.RowKit
attribute [local go_sem ↓] Go.wp_at_zero Go.wp_at_succ

/-- The writes whose place is true in the choice (behind its end: false). -/
def sel : List (Nat × List Value) → List Bool → List (Nat × List Value)
  | [], _ => []
  | p :: ps, ks => if ks.headD false then p :: sel ps ks.tail else sel ps ks.tail
theorem sel_snoc : ∀ (ps : List (Nat × List Value)) (ks : List Bool) (k : Nat) (hk : k < ps.length), sel (ps.take (k + 1)) ks = sel (ps.take k) ks ++ if ks.getD k false then [ps[k]] else []
  | [], _, _, hk => by simp at hk
  | p :: ps, ks, 0, _ => by
    simp only [Nat.zero_add, List.take_succ_cons, List.take_zero, sel, List.nil_append, List.getElem_cons_zero]
    cases ks <;> rfl
  | p :: ps, ks, k + 1, hk => by
    have ih := sel_snoc ps ks.tail k (by simpa using hk)
    have e : ks.tail.getD k false = ks.getD (k + 1) false := by cases ks <;> simp
    simp only [List.take_succ_cons, sel, List.getElem_cons_succ]
    rw [ih, e]
    split <;> simp
theorem sel_mem : ∀ (ps : List (Nat × List Value)) (ks : List Bool) p, p ∈ sel ps ks → p ∈ ps
  | [], _, p, h => by simp [sel] at h
  | q :: ps, ks, p, h => by
    unfold sel at h
    split at h
    · rcases List.mem_cons.1 h with rfl | h
      · exact List.mem_cons_self ..
      · exact List.mem_cons_of_mem _ (sel_mem ps _ p h)
    · exact List.mem_cons_of_mem _ (sel_mem ps _ p h)
theorem putAll_append (bs : List (List Value)) (ps qs : List (Nat × List Value)) : putAll bs (ps ++ qs) = putAll (putAll bs ps) qs := by unfold putAll; rw [List.foldl_append]

set_option maxHeartbeats 2000000 in
theorem fall_at (w : World) (bd : Nat) (S : Nat → Prop) (D : Dk) (ba pa : Option Addr) (bc pc : Nat) (h : DiskAt w bd S D ba pa bc pc) (ka : Option Addr) (ks : List Bool) (kc : Nat) (hkl : ks.length ≤ 9223372036854775807)
    (hks : ∀ j, j < ks.length → ∃ kb ko, ka = some ⟨kb, ko, none⟩ ∧ ¬ S kb ∧ kb < w.heap.size ∧ w.cell? ⟨kb, ko + j, none⟩ = some (.bool (ks.getD j false))) :
    Calls Tryz.prog 41 #[.pointer (some ⟨bd, 0, none⟩), .slice ka ks.length kc] w fun e w' =>
      e = .returned (.tuple #[]) ∧ (∃ S', Disk w' bd S' { D with bs := putAll D.bs (sel D.ps ks), ps := [], fuse := -1 } ∧ ∀ k, S' k → S k) ∧ Kept S w w' := by
  obtain ⟨Zw, hZw, hzw⟩ : ∃ Zw : List Value, Zw = zeroW ∧ ∀ w, (zeroValue 133).run Tryz.prog w = .ok (.agg Zw.toArray) w := ⟨zeroW, rfl, zero_run Tryz.infoWrite⟩
  have HZw : Hid (Zw.length = 129) := by rw [hZw]; exact congrArg (· + 1) zeroB_ok.1
  clear hZw
  have hps := h.len
  have HKS : Hid (∀ j, j < ks.length → ∃ kb ko, ka = some ⟨kb, ko, none⟩ ∧ ¬ S kb ∧ kb < w.heap.size ∧ w.cell? ⟨kb, ko + j, none⟩ = some (.bool (ks.getD j false))) := hks
  have HH : Hid (DiskAt w bd S D ba pa bc pc) := h
  have HIw : Hid ((Tryz.prog.info? 133).map (·.size) = some 129) := size_of Tryz.infoWrite
  have hc1 := h.c1
  have HI0 : Hid (FlInv w w bd S D ba pa bc pc) := ⟨h, Kept.refl S w⟩
  clear h hks
  go_enter Tryz.func41, Tryz.ntmps41
  go_wp2
  clear hc1
  go_loopw [11] (fun t wr => ∃ k : Nat, k ≤ D.ps.length ∧ t = .int .i64 k ∧ FlInv w wr bd S { D with bs := putAll D.bs (sel (D.ps.take k) ks) } ba pa bc pc) (fun t _ => D.ps.length - (intOf t).toNat)
  case atStart => exact ⟨0, Nat.zero_le _, rfl, HI0.out⟩
  case round =>
    obtain ⟨k, hk, rfl, hinv⟩ := hrel
    have HV : Hid (FlInv w wr bd S { D with bs := putAll D.bs (sel (D.ps.take k) ks) } ba pa bc pc) := hinv
    clear hinv
    by_cases hlt2 : k < D.ps.length
    · obtain ⟨g2, rfl⟩ := HH.out.prow (by omega)
      have HQI : Hid (D.ps[k].1 < D.bs.length) := (HH.out.ok.ps _ (List.getElem_mem hlt2)).1
      obtain ⟨g, rfl⟩ := HH.out.row (by have := HQI.out; omega)
      have HP : Hid (wr.rangeAt g2 (k * 129) (.int .i64 (D.ps[k].1 : Int) :: D.ps[k].2)) := HV.out.disk.prange k hlt2
      have HPO : Hid (BlkOk D.ps[k].2) := (HH.out.ok.ps _ (List.getElem_mem hlt2)).2
      have HLS : Hid (sel (D.ps.take (k + 1)) ks = sel (D.ps.take k) ks ++ if ks.getD k false then [D.ps[k]] else []) := sel_snoc D.ps ks k hlt2
      generalize hq : D.ps[k] = q at *
      obtain ⟨qi, qb⟩ := q
      clear hq
      have HA : Hid (FlInv w (wr.alloc (.cells (.int .i64 (qi : Int) :: qb).toArray 133)) bd S { D with bs := putAll D.bs (sel (D.ps.take k) ks) } (some ⟨g, 0, none⟩) (some ⟨g2, 0, none⟩) bc pc) := HV.out.alloc _
      have hqb : qb.length = 128 := HPO.out.1
      have hqo : ∀ v ∈ qb, v.oneCell' = true := HPO.out.2
      have hlt3 : (k : Int) < (D.ps.length : Int) := by omega
      by_cases hkk : k < ks.length
      · have hkk2 : (k : Int) < (ks.length : Int) := by omega
        obtain ⟨kb, ko, rfl, hnS, hkb, hcell⟩ := HKS.out k hkk
        have hcell2 : (wr.alloc (.cells (.int .i64 (qi : Int) :: qb).toArray 133)).cell? ⟨kb, ko + k, none⟩ = some (.bool (ks.getD k false)) := (HA.out.kept.cell (a := ⟨kb, ko + k, none⟩) hkb hnS).trans hcell
        have HNS : Hid (¬ S kb) := hnS
        clear hcell hnS hkb
        cases hkv : ks.getD k false
        · rw [hkv] at hcell2
          have HL2 : Hid (sel (D.ps.take (k + 1)) ks = sel (D.ps.take k) ks) := by
            show sel (D.ps.take (k + 1)) ks = sel (D.ps.take k) ks
            rw [HLS.out, hkv]; simp
          clear hkv
          go_wp2_with (first
            | (refine wpList_load_mid rfl 133 (.tmp 14) rfl _ _ rfl (.int .i64 (qi : Int) :: qb) _ HP.out Tryz.underlying133 rfl (by rw [List.length_cons, HPO.out.1]; exact HIw.out) ?_)
            | (refine wpList_store_new rfl 133 (.tmp 5) (.tmp 15) rfl _ _ (.int .i64 (qi : Int) :: qb) rfl rfl rfl (by rw [List.length_cons, HPO.out.1]; exact HIw.out) (by rw [List.length_cons, HPO.out.1]; simpa using HZw.out) (List.forall_mem_cons.2 ⟨rfl, HPO.out.2⟩) ?_))
          go_roundw
          case rel => exact ⟨k + 1, by omega, by go_num, by rw [HL2.out]; exact HA.out⟩
          case measure => simp [intOf]; omega
        · rw [hkv] at hcell2
          have HL2 : Hid (putAll D.bs (sel (D.ps.take (k + 1)) ks) = (putAll D.bs (sel (D.ps.take k) ks)).set qi qb) := by
            show putAll D.bs (sel (D.ps.take (k + 1)) ks) = (putAll D.bs (sel (D.ps.take k) ks)).set qi qb
            rw [HLS.out, hkv, putAll_append]; rfl
          clear hkv
          have hpl : (putAll D.bs (sel (D.ps.take k) ks)).length = D.bs.length := putAll_len _ _
          have HPL : Hid ((putAll D.bs (sel (D.ps.take k) ks)).length = D.bs.length) := hpl
          have hc0 : (wr.alloc (.cells (.int .i64 (qi : Int) :: qb).toArray 133)).cell? ⟨bd, 0, none⟩ = some (.slice (some ⟨g, 0, none⟩) D.bs.length bc) := by rw [← hpl]; exact HA.out.disk.c0
          have hth : (wr.alloc (.cells (.int .i64 (qi : Int) :: qb).toArray 133)).there g (qi * 128) 128 := HA.out.disk.bthere qi (by show qi < (putAll D.bs (sel (D.ps.take k) ks)).length; rw [hpl]; exact HQI.out)
          have hne1 : bd ≠ g := fun e => HH.out.ap1 (by rw [← e]; rfl)
          have hgl : g < wr.heap.size := HV.out.disk.lt g ((HV.out.disk.own g).2 (.inr (.inl rfl)))
          have hbl : bd < wr.heap.size := HV.out.disk.lt bd HV.out.disk.bdS
          have hne2 : wr.heap.size ≠ g := by omega
          clear hpl
          have hq0 : (0 : Int) ≤ (qi : Int) := by omega
          have hq1 : (qi : Int) < (D.bs.length : Int) := by have := HQI.out; simp only at this; omega
          have hcw : (wr.alloc (.cells (.int .i64 (qi : Int) :: qb).toArray 133)).cell? ⟨wr.heap.size, 0, none⟩ = some (.int .i64 (qi : Int)) := by simp
          have hrw : (wr.alloc (.cells (.int .i64 (qi : Int) :: qb).toArray 133)).rangeAt wr.heap.size 1 qb := range_of_block1 (heap_alloc_new wr _)
          have hu := Tryz.underlying131
          have hsz : (Tryz.prog.info? 131).map (·.size) = some qb.length := by rw [hqb]; exact size_of Tryz.infoBlock
          go_wp2_with (first
            | (refine wpList_load_mid rfl 133 (.tmp 14) rfl _ _ rfl (.int .i64 (qi : Int) :: qb) _ HP.out Tryz.underlying133 rfl (by rw [List.length_cons, HPO.out.1]; exact HIw.out) ?_)
            | (refine wpList_store_new rfl 133 (.tmp 5) (.tmp 15) rfl _ _ (.int .i64 (qi : Int) :: qb) rfl rfl rfl (by rw [List.length_cons, HPO.out.1]; exact HIw.out) (by rw [List.length_cons, HPO.out.1]; simpa using HZw.out) (List.forall_mem_cons.2 ⟨rfl, HPO.out.2⟩) ?_))
          generalize (wr.alloc (.cells (.int .i64 (qi : Int) :: qb).toArray 133)) = W at *
          clear hcell2
          go_region_held3 (fun w' => w'.cell? ⟨bd, 0, none⟩ = some (.slice (some ⟨g, 0, none⟩) D.bs.length bc) ∧ w'.cell? ⟨wr.heap.size, 0, none⟩ = some (.int .i64 (qi : Int)) ∧ w'.rangeAt wr.heap.size 1 qb ∧ w'.there g (qi * 128) 128)
            ((go_split_ands; simp only [World.rangeAt_drew, World.there_drew, World.cell?_drew] at *; refine ⟨?_, ?_, ?_, ?_⟩ <;> first | assumption | (rw [World.cell?_setCells_out _ _ _ _ _ (by intro h1 _; simp at h1; omega)]; assumption) | (refine World.rangeAt_setCells_apart (by assumption) _ _ _ (by omega)) | (apply World.there_setCells; assumption)))
            (fail)
          go_wp2
          go_roundw
          case rel => exact ⟨k + 1, by omega, by go_num, by rw [HL2.out]; exact HA.out.drew.setb qi (by show qi < (putAll D.bs (sel (D.ps.take k) ks)).length; rw [HPL.out]; exact HQI.out) qb ⟨hqb, hqo⟩⟩
          case measure => simp [intOf]; omega
      · have hkk2 : ¬ (k : Int) < (ks.length : Int) := by omega
        have HL2 : Hid (sel (D.ps.take (k + 1)) ks = sel (D.ps.take k) ks) := by
          show sel (D.ps.take (k + 1)) ks = sel (D.ps.take k) ks
          rw [HLS.out, show ks.getD k false = false from by simp [Nat.le_of_not_lt hkk]]; simp
        go_wp2_with (first
            | (refine wpList_load_mid rfl 133 (.tmp 14) rfl _ _ rfl (.int .i64 (qi : Int) :: qb) _ HP.out Tryz.underlying133 rfl (by rw [List.length_cons, HPO.out.1]; exact HIw.out) ?_)
            | (refine wpList_store_new rfl 133 (.tmp 5) (.tmp 15) rfl _ _ (.int .i64 (qi : Int) :: qb) rfl rfl rfl (by rw [List.length_cons, HPO.out.1]; exact HIw.out) (by rw [List.length_cons, HPO.out.1]; simpa using HZw.out) (List.forall_mem_cons.2 ⟨rfl, HPO.out.2⟩) ?_))
        go_roundw
        case rel => exact ⟨k + 1, by omega, by go_num, by rw [HL2.out]; exact HA.out⟩
        case measure => simp [intOf]; omega
    · have hge : ¬ (k : Int) < (D.ps.length : Int) := by omega
      have hc1 := HV.out.disk.c1
      have hf1 := HV.out.disk.fz 1
      have hc2 := HV.out.disk.c2
      have hf2 := HV.out.disk.fz 2
      go_wp2
      go_end0
      have hd := HV.out.disk.nopend.set_fuse (-1)
      rw [show D.ps.take k = D.ps from List.take_of_length_le (by omega)] at hd
      refine ⟨rfl, ⟨_, ⟨ba, none, bc, 0, hd⟩, fun i hi => ?_⟩, (HV.out.kept.trans (Kept.setCell (S := S) wr ⟨bd, 1, none⟩ _ HH.out.bdS) (fun _ h => .inl h)).trans (Kept.setCell (S := S) _ ⟨bd, 2, none⟩ _ HH.out.bdS) (fun _ h => .inl h)⟩
      rcases hi with rfl | hi
      · exact HH.out.bdS
      · refine (HV.out.disk.own i).2 (.inr (.inl ?_))
        rw [← hi]; cases ba <;> rfl
end Go.Proofs.YtcoengihaobddaaGreatDoor.disk
namespace Go.Proofs.YtcoengihaobddaaGreatDoor.disk
set_option maxRecDepth 8000
open Go.ChangeShapes Go.WideShapes Go.ChangeAt Go.RowKit
attribute [local go_sem ↓] Go.wp_at_zero Go.wp_at_succ

/-- A row appended to nothing: a row of one's own with the same cells, in a new block; nil where there is nothing. -/
theorem run_copy_row {P : Program} (w : World) (t ty e : TypeId) (i : TypeInfo) (z : Value) (size bytes : Nat) (ht : P.underlying t = some (.slice e)) (hi : P.info? e = some i) (hz : i.zero = some z)
    (hsize : i.size = size) (hby : i.bytes = bytes) (hzs : z.cells.size = size) (hsz : 0 < size) (v : Value) (n : Nat) (xs : List Value) (hown : w.ownsRow 0 e size v n xs) (h1 : ∀ u ∈ xs, u.oneCell' = true)
    (h63 : n ≤ maxLen) (hbytes : n * bytes ≤ 140737488355328) :
    ∃ a c w', (Builtin.append_ #[t, t] ty #[.slice none 0 0, v]).run P w = .ok (.slice a n c) w' ∧ w'.ownsRow 0 e size (.slice a n c) n xs ∧ w.grownBy w' none ∧
      ((Value.slice a n c).ownBlock = none ∨ (Value.slice a n c).ownBlock = some w.heap.size) := by
  rcases hown.2 with ⟨rfl, rfl⟩ | ⟨g, cap, cur, rfl, hb, hg, rest⟩
  · obtain rfl : xs = [] := List.eq_nil_of_length_eq_zero (by simpa using hown.1)
    refine ⟨none, 0, w, ?_, World.ownsRow_nil w 0 e size, ⟨rfl, rfl, rfl, Nat.le_refl _, fun _ _ _ => rfl⟩, .inl rfl⟩
    simp [Builtin.append_, run_underlying ht, sizeOf, typeInfo, hi, Builtin.lenOf, Builtin.firstCells]
  · obtain ⟨v', w', hr, h2, h3, _, h5⟩ := run_append_own_at (P := P) w 0 t ty e i z size bytes ht hi hz hsize hby hzs hsz (.slice none 0 0) 0 [] (World.ownsRow_nil w 0 e size) ⟨g, 0, none⟩ n cap xs hown.1 (hown.cells (g := g) rfl) h1 (by simpa using h63) (by simpa using hbytes) (Nat.zero_le _)
    simp only [Nat.zero_add, List.nil_append] at h2
    have h5' : v'.ownBlock = none ∨ v'.ownBlock = some w.heap.size := h5
    rcases h2.2 with ⟨e1, e2⟩ | ⟨g', cap', cur', e1, _⟩
    · subst e1; subst e2; exact ⟨none, 0, w', hr, h2, h3, h5'⟩
    · subst e1; exact ⟨_, cap', w', hr, h2, h3, h5'⟩
theorem step_copy_row {P : Program} {ops : Array Oper} {o : Oper} {a : Act} {w : World} {K : Act → World → Prop} {Q : Exit → Act → World → Prop} {E : Prop} (hgd : o.guard = none) (s x : Operand) (t : TypeId)
    (ho : o.op = .call { callee := .builtin .append, args := #[s, x], argTypes := #[t, t] })
    (e : TypeId) (i : TypeInfo) (z : Value) (size bytes : Nat) (ht : P.underlying t = some (.slice e)) (hi : P.info? e = some i) (hz : i.zero = some z)
    (hsize : i.size = size) (hby : i.bytes = bytes) (hzs : z.cells.size = size) (hsz : 0 < size) (v : Value) (n : Nat) (xs : List Value) (hs : a.eval s = .slice none 0 0) (hx : a.eval x = v) (hown : w.ownsRow 0 e size v n xs) (h1 : ∀ u ∈ xs, u.oneCell' = true)
    (h63 : n ≤ maxLen) (hbytes : n * bytes ≤ 140737488355328)
    (h : ∀ a' c' w', w'.ownsRow 0 e size (.slice a' n c') n xs → w.grownBy w' none → ((Value.slice a' n c').ownBlock = none ∨ (Value.slice a' n c').ownBlock = some w.heap.size) → K (a.put o.dst (.slice a' n c')) w') :
    if Region.wanted o (yielded ops a.tmps) = true then Oper.wp P o a w K Q else E := by
  have hw : Region.wanted o (yielded ops a.tmps) = true := by simp [Region.wanted, hgd]
  rw [if_pos hw]
  obtain ⟨a', c', w', hr, h2, h3, h4⟩ := run_copy_row (P := P) w t o.type e i z size bytes ht hi hz hsize hby hzs hsz v n xs hown h1 h63 hbytes
  unfold Oper.wp execOp
  simp only [ho, resolve, invoke, builtin, Sem.run_bind, Sem.run_pure, Result.andThen_ok, List.map_toArray, List.map_cons, List.map_nil, hs, hx, hr]
  exact h a' c' w' h2 h3 h4

/-- The copy of a disk, out of the two rows copied. -/
theorem DiskAt.copied {w w2 w4 : World} {bd : Nat} {S : Nat → Prop} {D : Dk} {ba pa : Option Addr} {bc pc : Nat} (h : DiskAt w bd S D ba pa bc pc) (a1 a2 : Option Addr) (c1 c2 : Nat)
    (hown1 : w2.ownsRow 0 131 128 (.slice a1 D.bs.length c1) D.bs.length D.bs.flatten)
    (hgrow1 : (w.alloc (.cells #[.slice none 0 0, .slice none 0 0, .int .i64 D.fuse, .int .i64 0] 118)).drew.grownBy w2 none)
    (hat1 : (Value.slice a1 D.bs.length c1).ownBlock = none ∨ (Value.slice a1 D.bs.length c1).ownBlock = some (w.heap.size + 1))
    (hown2 : w4.ownsRow 0 133 129 (.slice a2 D.ps.length c2) D.ps.length (D.ps.map wcells).flatten)
    (hgrow2 : (w2.setCell ⟨w.heap.size, 0, none⟩ (.slice a1 D.bs.length c1)).drew.grownBy w4 none)
    (hat2 : (Value.slice a2 D.ps.length c2).ownBlock = none ∨ (Value.slice a2 D.ps.length c2).ownBlock = some w2.heap.size) :
    DiskAt (w4.setCell ⟨w.heap.size, 1, none⟩ (.slice a2 D.ps.length c2)) w.heap.size
      (fun k => k = w.heap.size ∨ (Value.slice a1 D.bs.length c1).ownBlock = some k ∨ (Value.slice a2 D.ps.length c2).ownBlock = some k) { D with reads := 0 } a1 a2 c1 c2 ∧
      (∀ k, (k = w.heap.size ∨ (Value.slice a1 D.bs.length c1).ownBlock = some k ∨ (Value.slice a2 D.ps.length c2).ownBlock = some k) → w.heap.size ≤ k) ∧
      Kept (fun _ => False) w (w4.setCell ⟨w.heap.size, 1, none⟩ (.slice a2 D.ps.length c2)) := by
  have s2 := hgrow1.size
  simp at s2
  have s4 := hgrow2.size
  simp at s4
  have k2 : Kept (fun _ => False) (w.alloc (.cells #[.slice none 0 0, .slice none 0 0, .int .i64 D.fuse, .int .i64 0] 118)).drew w2 := Kept.grown hgrow1 (fun k hk => by cases hk)
  have k3 : Kept (fun k => k = w.heap.size) w2 (w2.setCell ⟨w.heap.size, 0, none⟩ (.slice a1 D.bs.length c1)) := Kept.setCell _ _ _ rfl
  have k4 : Kept (fun _ => False) (w2.setCell ⟨w.heap.size, 0, none⟩ (.slice a1 D.bs.length c1)).drew w4 := Kept.grown hgrow2 (fun k hk => by cases hk)
  have k5 : Kept (fun k => k = w.heap.size) w4 (w4.setCell ⟨w.heap.size, 1, none⟩ (.slice a2 D.ps.length c2)) := Kept.setCell _ _ _ rfl
  have e1 : ∀ k, (Value.slice a1 D.bs.length c1).ownBlock = some k → k = w.heap.size + 1 ∧ k < w2.heap.size := fun k hk => ⟨by
    rcases hat1 with e | e <;> rw [e] at hk <;> simp at hk; omega, (hown1.lt k hk).2⟩
  have e2 : ∀ k, (Value.slice a2 D.ps.length c2).ownBlock = some k → k = w2.heap.size := fun k hk => by
    rcases hat2 with e | e <;> rw [e] at hk <;> simp at hk; omega
  have b2 : w2.heap[w.heap.size]? = some (.cells #[.slice none 0 0, .slice none 0 0, .int .i64 D.fuse, .int .i64 0] 118) :=
    (k2.block w.heap.size (by simp) (fun hf => hf)).trans (heap_alloc_new w _)
  have b3 : (w2.setCell ⟨w.heap.size, 0, none⟩ (.slice a1 D.bs.length c1)).heap[w.heap.size]? = some (.cells #[.slice a1 D.bs.length c1, .slice none 0 0, .int .i64 D.fuse, .int .i64 0] 118) := by
    rw [heap_setCell_same w2 w.heap.size 0 _ _ _ b2]; rfl
  have b4 : w4.heap[w.heap.size]? = some (.cells #[.slice a1 D.bs.length c1, .slice none 0 0, .int .i64 D.fuse, .int .i64 0] 118) :=
    (k4.block w.heap.size (by simp; omega) (fun hf => hf)).trans b3
  refine ⟨⟨⟨h.ok.bs, h.ok.ps, h.ok.few⟩, ?_, ?_, ?_, fun k => Iff.rfl, ?_, ?_, ?_⟩, ?_, ?_⟩
  · rw [heap_setCell_same w4 w.heap.size 1 _ _ _ b4]; rfl
  · exact k5.owns (k4.owns (k3.owns hown1 (fun k hk e => by have := (e1 k hk).1; omega)) (fun _ _ hf => hf)) (fun k hk e => by have := (e1 k hk).1; omega)
  · exact k5.owns hown2 (fun k hk e => by have := e2 k hk; omega)
  · intro hk; have := (e1 _ hk).1; omega
  · intro hk; have := e2 _ hk; omega
  · intro k hk hk2; have := (e1 k hk).2; have := e2 k hk2; omega
  · intro k hk
    rcases hk with rfl | hk | hk
    · exact Nat.le_refl _
    · have := (e1 k hk).1; omega
    · have := e2 k hk; omega
  · exact ((((((Kept.alloc _ w _).trans (Kept.drew _ _) (fun _ h => .inl h)).trans k2 (fun _ h => .inl h)).trans k3 (fun k hk => .inr (by omega))).trans (Kept.drew (fun _ => False) _) (fun _ h => .inl h)).trans k4 (fun _ h => .inl h)).trans k5 (fun k hk => .inr (by omega))

theorem Dk.Ok.one_bs {D : Dk} (h : D.Ok) : ∀ u ∈ D.bs.flatten, u.oneCell' = true := fun u hu => by
  obtain ⟨b, hb, hu⟩ := List.mem_flatten.1 hu
  exact (h.bs b hb).2 u hu
theorem Dk.Ok.one_ps {D : Dk} (h : D.Ok) : ∀ u ∈ (D.ps.map wcells).flatten, u.oneCell' = true := fun u hu => by
  obtain ⟨b, hb, hu⟩ := List.mem_flatten.1 hu
  obtain ⟨p, hp, rfl⟩ := List.mem_map.1 hb
  rcases List.mem_cons.1 hu with rfl | hu
  · rfl
  · exact (h.ps p hp).2.2 u hu

set_option maxHeartbeats 2000000 in
/-- COPY. -/
theorem copy_at (w : World) (bd : Nat) (S : Nat → Prop) (D : Dk) (ba pa : Option Addr) (bc pc : Nat) (h : DiskAt w bd S D ba pa bc pc) (hps : D.ps.length ≤ 68719476736) :
    Calls Tryz.prog 34 #[.pointer (some ⟨bd, 0, none⟩)] w fun e w' =>
      e = .returned (.pointer (some ⟨w.heap.size, 0, none⟩)) ∧ (∃ S', Disk w' w.heap.size S' { D with reads := 0 } ∧ ∀ k, S' k → w.heap.size ≤ k) ∧ Kept (fun _ => False) w w' := by
  have hc0 := h.c0
  have hc1 := h.c1
  have hc2 := h.c2
  have hbd := h.lt bd h.bdS
  have hbs := h.ok.few
  have HH : Hid (DiskAt w bd S D ba pa bc pc) := h
  obtain ⟨i0, hi0, hz0, hz1, hz2⟩ := info_parts Tryz.infoBlock
  have HI0 : Hid (Tryz.prog.info? 131 = some i0 ∧ i0.zero = some (.agg zeroB.toArray) ∧ i0.size = 128 ∧ i0.bytes = 128) := ⟨hi0, hz0, hz1, hz2⟩
  clear hi0 hz0 hz1 hz2
  obtain ⟨j0, hi0, hz0, hz1, hz2⟩ := info_parts Tryz.infoWrite
  have HJ0 : Hid (Tryz.prog.info? 133 = some j0 ∧ j0.zero = some (.agg zeroW.toArray) ∧ j0.size = 129 ∧ j0.bytes = 136) := ⟨hi0, hz0, hz1, hz2⟩
  clear hi0 hz0 hz1 hz2 h
  have hne : w.heap.size ≠ bd := by omega
  have H1 : Hid (DiskAt (w.alloc (.cells #[.slice none 0 0, .slice none 0 0, .int .i64 D.fuse, .int .i64 0] 118)).drew bd S D ba pa bc pc) :=
    HH.out.kept ((Kept.alloc (fun _ => False) w _).trans (Kept.drew _ _) (fun _ h => .inl h)) (fun _ _ hf => hf)
  go_enter Tryz.func34, Tryz.ntmps34
  go_wp2
  go_region_law ((refine step_copy_row rfl (.tmp 14) (.tmp 18) 115 rfl 131 i0 _ 128 128 Tryz.underlying115 HI0.out.1 HI0.out.2.1 HI0.out.2.2.1 HI0.out.2.2.2 zeroB_ok.1 (by omega) _ D.bs.length D.bs.flatten (by rfl) (by rfl) (by exact H1.out.rows) HH.out.ok.one_bs (by unfold maxLen; omega) (by omega) ?_; intro a1 c1 w2 hown1 hgrow1 hat1; have HG1 : Hid _ := hgrow1; have HO1 : Hid _ := hown1; have HA1 : Hid _ := hat1; have hb2 : w2.heap[w.heap.size]? = some (.cells #[.slice none 0 0, .slice none 0 0, .int .i64 D.fuse, .int .i64 0] 118) := (hgrow1.block w.heap.size (by simp) (by simp)).trans (heap_alloc_new w _); have hcN0 := cell_of_row w2 w.heap.size 0 _ _ _ hb2; have hcN1 := cell_of_row w2 w.heap.size 1 _ _ _ hb2; have hfN0 := frozen_of_row w2 w.heap.size 0 _ _ hb2; have hfN1 := frozen_of_row w2 w.heap.size 1 _ _ hb2; have hcb1 : w2.cell? ⟨bd, 1, none⟩ = some (.slice pa D.ps.length pc) := (hgrow1.cell_far ⟨bd, 1, none⟩ (by simp; omega) (by simp)).trans H1.out.c1; have HP2 : Hid ((w2.setCell ⟨w.heap.size, 0, none⟩ (.slice a1 D.bs.length c1)).drew.ownsRow 0 133 129 (.slice pa D.ps.length pc) D.ps.length (D.ps.map wcells).flatten) := (Kept.drew (fun _ => False) _).owns ((Kept.setCell (S := fun k => k = w.heap.size) w2 ⟨w.heap.size, 0, none⟩ _ rfl).owns ((Kept.grown (S := fun _ => False) hgrow1 (fun k hk => by cases hk)).owns H1.out.pend (fun _ _ hf => hf)) (fun k hk e => by have := HH.out.lt k ((HH.out.own k).2 (.inr (.inr hk))); omega)) (fun _ _ hf => hf); have hw2 : w.heap.size < w2.heap.size := by { have := hgrow1.size; simp at this; omega }; clear hgrow1 hown1 hat1 hb2))
  all_goals
    go_wp2
    go_region_law ((refine step_copy_row rfl (.tmp 26) (.tmp 30) 116 rfl 133 j0 _ 129 136 Tryz.underlying116 HJ0.out.1 HJ0.out.2.1 HJ0.out.2.2.1 HJ0.out.2.2.2 (congrArg (· + 1) zeroB_ok.1) (by omega) _ D.ps.length (D.ps.map wcells).flatten (by rfl) (by rfl) (by exact HP2.out) HH.out.ok.one_ps (by unfold maxLen; omega) (by omega) ?_; intro a2 c2 w4 hown2 hgrow2 hat2; have HG2 : Hid _ := hgrow2; have HO2 : Hid _ := hown2; have HA2 : Hid _ := hat2; have hcM1 : w4.cell? ⟨w.heap.size, 1, none⟩ = some (.slice none 0 0) := (hgrow2.cell_far ⟨w.heap.size, 1, none⟩ (by simp; omega) (by simp)).trans (by simp [World.cell?_setCell_other, hcN1]); have hfM1 : w4.frozen? ⟨w.heap.size, 1, none⟩ = false := (hgrow2.frozen_far ⟨w.heap.size, 1, none⟩ (by simp; omega) (by simp)).trans (by simp [hfN1]); clear hgrow2 hown2 hat2))
    all_goals
      go_wp2
      go_ret
      obtain ⟨r1, r2, r3⟩ := HH.out.copied a1 a2 c1 c2 HO1.out HG1.out (by have := HA1.out; simpa using this) HO2.out HG2.out (by have := HA2.out; simpa using this)
      exact ⟨rfl, ⟨_, ⟨a1, a2, c1, c2, r1⟩, r2⟩, r3⟩
end Go.Proofs.YtcoengihaobddaaGreatDoor.disk

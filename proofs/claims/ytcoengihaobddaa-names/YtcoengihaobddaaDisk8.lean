/- The walk of the disk's Fall: for every disk and every choice. -/
import Derived.Test.YtcoengihaobddaaDisk7
namespace Go.Proofs.Ytcoengihaobddaa.disk
set_option maxRecDepth 8000
open Go.ChangeShapes Go.WideShapes Go.ChangeAt Go.RowKit
attribute [local go_sem ↓] Go.wp_at_zero Go.wp_at_succ

/-- The writes whose place is true in the choice (behind its end: false). -/
def sel : List (Nat × List Value) → List Bool → List (Nat × List Value)
  | [], _ => []
  | p :: ps, ks => if ks.headD false then p :: sel ps ks.tail else sel ps ks.tail
theorem sel_snoc : ∀ (ps : List (Nat × List Value)) (ks : List Bool) (k : Nat) (hk : k < ps.length), sel (ps.take (k + 1)) ks = sel (ps.take k) ks ++ if ks.getD k false then [ps[k]] else []
  | [], _, _, hk => by simp at hk
  | p :: ps, ks, 0, _ => by
    simp only [Nat.zero_add, List.take_succ_cons, List.take_zero, sel, List.nil_append, List.getElem_cons_zero]
    cases ks <;> rfl
  | p :: ps, ks, k + 1, hk => by
    have ih := sel_snoc ps ks.tail k (by simpa using hk)
    have e : ks.tail.getD k false = ks.getD (k + 1) false := by cases ks <;> simp
    simp only [List.take_succ_cons, sel, List.getElem_cons_succ]
    rw [ih, e]
    split <;> simp
theorem sel_mem : ∀ (ps : List (Nat × List Value)) (ks : List Bool) p, p ∈ sel ps ks → p ∈ ps
  | [], _, p, h => by simp [sel] at h
  | q :: ps, ks, p, h => by
    unfold sel at h
    split at h
    · rcases List.mem_cons.1 h with rfl | h
      · exact List.mem_cons_self ..
      · exact List.mem_cons_of_mem _ (sel_mem ps _ p h)
    · exact List.mem_cons_of_mem _ (sel_mem ps _ p h)
theorem putAll_append (bs : List (List Value)) (ps qs : List (Nat × List Value)) : putAll bs (ps ++ qs) = putAll (putAll bs ps) qs := by unfold putAll; rw [List.foldl_append]

set_option maxHeartbeats 2000000 in
theorem fall_at (w : World) (bd : Nat) (S : Nat → Prop) (D : Dk) (ba pa : Option Addr) (bc pc : Nat) (h : DiskAt w bd S D ba pa bc pc) (ka : Option Addr) (ks : List Bool) (kc : Nat) (hkl : ks.length ≤ 9223372036854775807)
    (hks : ∀ j, j < ks.length → ∃ kb ko, ka = some ⟨kb, ko, none⟩ ∧ ¬ S kb ∧ kb < w.heap.size ∧ w.cell? ⟨kb, ko + j, none⟩ = some (.bool (ks.getD j false))) :
    Calls Try.prog 15 #[.pointer (some ⟨bd, 0, none⟩), .slice ka ks.length kc] w fun e w' =>
      e = .returned (.tuple #[]) ∧ (∃ S', Disk w' bd S' { D with bs := putAll D.bs (sel D.ps ks), ps := [], fuse := -1 } ∧ ∀ k, S' k → S k) ∧ Kept S w w' := by
  obtain ⟨Zw, hZw, hzw⟩ : ∃ Zw : List Value, Zw = zeroW ∧ ∀ w, (zeroValue 43).run Try.prog w = .ok (.agg Zw.toArray) w := ⟨zeroW, rfl, zero_run Try.infoWrite⟩
  have HZw : Hid (Zw.length = 129) := by rw [hZw]; exact congrArg (· + 1) zeroB_ok.1
  clear hZw
  have hps := h.len
  have HKS : Hid (∀ j, j < ks.length → ∃ kb ko, ka = some ⟨kb, ko, none⟩ ∧ ¬ S kb ∧ kb < w.heap.size ∧ w.cell? ⟨kb, ko + j, none⟩ = some (.bool (ks.getD j false))) := hks
  have HH : Hid (DiskAt w bd S D ba pa bc pc) := h
  have HIw : Hid ((Try.prog.info? 43).map (·.size) = some 129) := size_of Try.infoWrite
  have hc1 := h.c1
  have HI0 : Hid (FlInv w w bd S D ba pa bc pc) := ⟨h, Kept.refl S w⟩
  clear h hks
  go_enter Try.func15, Try.ntmps15
  go_wp2
  clear hc1
  go_loopw [11] (fun t wr => ∃ k : Nat, k ≤ D.ps.length ∧ t = .int .i64 k ∧ FlInv w wr bd S { D with bs := putAll D.bs (sel (D.ps.take k) ks) } ba pa bc pc) (fun t _ => D.ps.length - (intOf t).toNat)
  case atStart => exact ⟨0, Nat.zero_le _, rfl, HI0.out⟩
  case round =>
    obtain ⟨k, hk, rfl, hinv⟩ := hrel
    have HV : Hid (FlInv w wr bd S { D with bs := putAll D.bs (sel (D.ps.take k) ks) } ba pa bc pc) := hinv
    clear hinv
    by_cases hlt2 : k < D.ps.length
    · obtain ⟨g2, rfl⟩ := HH.out.prow (by omega)
      have HQI : Hid (D.ps[k].1 < D.bs.length) := (HH.out.ok.ps _ (List.getElem_mem hlt2)).1
      obtain ⟨g, rfl⟩ := HH.out.row (by have := HQI.out; omega)
      have HP : Hid (wr.rangeAt g2 (k * 129) (.int .i64 (D.ps[k].1 : Int) :: D.ps[k].2)) := HV.out.disk.prange k hlt2
      have HPO : Hid (BlkOk D.ps[k].2) := (HH.out.ok.ps _ (List.getElem_mem hlt2)).2
      have HLS : Hid (sel (D.ps.take (k + 1)) ks = sel (D.ps.take k) ks ++ if ks.getD k false then [D.ps[k]] else []) := sel_snoc D.ps ks k hlt2
      generalize hq : D.ps[k] = q at *
      obtain ⟨qi, qb⟩ := q
      clear hq
      have HA : Hid (FlInv w (wr.alloc (.cells (.int .i64 (qi : Int) :: qb).toArray 43)) bd S { D with bs := putAll D.bs (sel (D.ps.take k) ks) } (some ⟨g, 0, none⟩) (some ⟨g2, 0, none⟩) bc pc) := HV.out.alloc _
      have hqb : qb.length = 128 := HPO.out.1
      have hqo : ∀ v ∈ qb, v.oneCell' = true := HPO.out.2
      have hlt3 : (k : Int) < (D.ps.length : Int) := by omega
      by_cases hkk : k < ks.length
      · have hkk2 : (k : Int) < (ks.length : Int) := by omega
        obtain ⟨kb, ko, rfl, hnS, hkb, hcell⟩ := HKS.out k hkk
        have hcell2 : (wr.alloc (.cells (.int .i64 (qi : Int) :: qb).toArray 43)).cell? ⟨kb, ko + k, none⟩ = some (.bool (ks.getD k false)) := (HA.out.kept.cell (a := ⟨kb, ko + k, none⟩) hkb hnS).trans hcell
        have HNS : Hid (¬ S kb) := hnS
        clear hcell hnS hkb
        cases hkv : ks.getD k false
        · rw [hkv] at hcell2
          have HL2 : Hid (sel (D.ps.take (k + 1)) ks = sel (D.ps.take k) ks) := by
            show sel (D.ps.take (k + 1)) ks = sel (D.ps.take k) ks
            rw [HLS.out, hkv]; simp
          clear hkv
          go_wp2_with (first
            | (refine wpList_load_mid rfl 43 (.tmp 14) rfl _ _ rfl (.int .i64 (qi : Int) :: qb) _ HP.out Try.underlying43 rfl (by rw [List.length_cons, HPO.out.1]; exact HIw.out) ?_)
            | (refine wpList_store_new rfl 43 (.tmp 5) (.tmp 15) rfl _ _ (.int .i64 (qi : Int) :: qb) rfl rfl rfl (by rw [List.length_cons, HPO.out.1]; exact HIw.out) (by rw [List.length_cons, HPO.out.1]; simpa using HZw.out) (List.forall_mem_cons.2 ⟨rfl, HPO.out.2⟩) ?_))
          go_roundw
          case rel => exact ⟨k + 1, by omega, by go_num, by rw [HL2.out]; exact HA.out⟩
          case measure => simp [intOf]; omega
        · rw [hkv] at hcell2
          have HL2 : Hid (putAll D.bs (sel (D.ps.take (k + 1)) ks) = (putAll D.bs (sel (D.ps.take k) ks)).set qi qb) := by
            show putAll D.bs (sel (D.ps.take (k + 1)) ks) = (putAll D.bs (sel (D.ps.take k) ks)).set qi qb
            rw [HLS.out, hkv, putAll_append]; rfl
          clear hkv
          have hpl : (putAll D.bs (sel (D.ps.take k) ks)).length = D.bs.length := putAll_len _ _
          have HPL : Hid ((putAll D.bs (sel (D.ps.take k) ks)).length = D.bs.length) := hpl
          have hc0 : (wr.alloc (.cells (.int .i64 (qi : Int) :: qb).toArray 43)).cell? ⟨bd, 0, none⟩ = some (.slice (some ⟨g, 0, none⟩) D.bs.length bc) := by rw [← hpl]; exact HA.out.disk.c0
          have hth : (wr.alloc (.cells (.int .i64 (qi : Int) :: qb).toArray 43)).there g (qi * 128) 128 := HA.out.disk.bthere qi (by show qi < (putAll D.bs (sel (D.ps.take k) ks)).length; rw [hpl]; exact HQI.out)
          have hne1 : bd ≠ g := fun e => HH.out.ap1 (by rw [← e]; rfl)
          have hgl : g < wr.heap.size := HV.out.disk.lt g ((HV.out.disk.own g).2 (.inr (.inl rfl)))
          have hbl : bd < wr.heap.size := HV.out.disk.lt bd HV.out.disk.bdS
          have hne2 : wr.heap.size ≠ g := by omega
          clear hpl
          have hq0 : (0 : Int) ≤ (qi : Int) := by omega
          have hq1 : (qi : Int) < (D.bs.length : Int) := by have := HQI.out; simp only at this; omega
          have hcw : (wr.alloc (.cells (.int .i64 (qi : Int) :: qb).toArray 43)).cell? ⟨wr.heap.size, 0, none⟩ = some (.int .i64 (qi : Int)) := by simp
          have hrw : (wr.alloc (.cells (.int .i64 (qi : Int) :: qb).toArray 43)).rangeAt wr.heap.size 1 qb := range_of_block1 (heap_alloc_new wr _)
          have hu := Try.underlying30
          have hsz : (Try.prog.info? 30).map (·.size) = some qb.length := by rw [hqb]; exact size_of Try.infoBlock
          go_wp2_with (first
            | (refine wpList_load_mid rfl 43 (.tmp 14) rfl _ _ rfl (.int .i64 (qi : Int) :: qb) _ HP.out Try.underlying43 rfl (by rw [List.length_cons, HPO.out.1]; exact HIw.out) ?_)
            | (refine wpList_store_new rfl 43 (.tmp 5) (.tmp 15) rfl _ _ (.int .i64 (qi : Int) :: qb) rfl rfl rfl (by rw [List.length_cons, HPO.out.1]; exact HIw.out) (by rw [List.length_cons, HPO.out.1]; simpa using HZw.out) (List.forall_mem_cons.2 ⟨rfl, HPO.out.2⟩) ?_))
          generalize (wr.alloc (.cells (.int .i64 (qi : Int) :: qb).toArray 43)) = W at *
          clear hcell2
          go_region_held3 (fun w' => w'.cell? ⟨bd, 0, none⟩ = some (.slice (some ⟨g, 0, none⟩) D.bs.length bc) ∧ w'.cell? ⟨wr.heap.size, 0, none⟩ = some (.int .i64 (qi : Int)) ∧ w'.rangeAt wr.heap.size 1 qb ∧ w'.there g (qi * 128) 128)
            ((go_split_ands; simp only [World.rangeAt_drew, World.there_drew, World.cell?_drew] at *; refine ⟨?_, ?_, ?_, ?_⟩ <;> first | assumption | (rw [World.cell?_setCells_out _ _ _ _ _ (by intro h1 _; simp at h1; omega)]; assumption) | (refine World.rangeAt_setCells_apart (by assumption) _ _ _ (by omega)) | (apply World.there_setCells; assumption)))
            (fail)
          go_wp2
          go_roundw
          case rel => exact ⟨k + 1, by omega, by go_num, by rw [HL2.out]; exact HA.out.drew.setb qi (by show qi < (putAll D.bs (sel (D.ps.take k) ks)).length; rw [HPL.out]; exact HQI.out) qb ⟨hqb, hqo⟩⟩
          case measure => simp [intOf]; omega
      · have hkk2 : ¬ (k : Int) < (ks.length : Int) := by omega
        have HL2 : Hid (sel (D.ps.take (k + 1)) ks = sel (D.ps.take k) ks) := by
          show sel (D.ps.take (k + 1)) ks = sel (D.ps.take k) ks
          rw [HLS.out, show ks.getD k false = false from by simp [Nat.le_of_not_lt hkk]]; simp
        go_wp2_with (first
            | (refine wpList_load_mid rfl 43 (.tmp 14) rfl _ _ rfl (.int .i64 (qi : Int) :: qb) _ HP.out Try.underlying43 rfl (by rw [List.length_cons, HPO.out.1]; exact HIw.out) ?_)
            | (refine wpList_store_new rfl 43 (.tmp 5) (.tmp 15) rfl _ _ (.int .i64 (qi : Int) :: qb) rfl rfl rfl (by rw [List.length_cons, HPO.out.1]; exact HIw.out) (by rw [List.length_cons, HPO.out.1]; simpa using HZw.out) (List.forall_mem_cons.2 ⟨rfl, HPO.out.2⟩) ?_))
        go_roundw
        case rel => exact ⟨k + 1, by omega, by go_num, by rw [HL2.out]; exact HA.out⟩
        case measure => simp [intOf]; omega
    · have hge : ¬ (k : Int) < (D.ps.length : Int) := by omega
      have hc1 := HV.out.disk.c1
      have hf1 := HV.out.disk.fz 1
      have hc2 := HV.out.disk.c2
      have hf2 := HV.out.disk.fz 2
      go_wp2
      go_end0
      have hd := HV.out.disk.nopend.set_fuse (-1)
      rw [show D.ps.take k = D.ps from List.take_of_length_le (by omega)] at hd
      refine ⟨rfl, ⟨_, ⟨ba, none, bc, 0, hd⟩, fun i hi => ?_⟩, (HV.out.kept.trans (Kept.setCell (S := S) wr ⟨bd, 1, none⟩ _ HH.out.bdS) (fun _ h => .inl h)).trans (Kept.setCell (S := S) _ ⟨bd, 2, none⟩ _ HH.out.bdS) (fun _ h => .inl h)⟩
      rcases hi with rfl | hi
      · exact HH.out.bdS
      · refine (HV.out.disk.own i).2 (.inr (.inl ?_))
        rw [← hi]; cases ba <;> rfl
end Go.Proofs.Ytcoengihaobddaa.disk

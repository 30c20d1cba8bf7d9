/- The walk of the disk's Flush: for every disk. -/
import Derived.Test.YtcoengihaobddaaDisk6
import Derived.Deep.RegionHeld3
namespace Go.Proofs.Ytcoengihaobddaa.disk
set_option maxRecDepth 8000
open Go.ChangeShapes Go.WideShapes Go.ChangeAt Go.RowKit
attribute [local go_sem ↓] Go.wp_at_zero Go.wp_at_succ

set_option maxHeartbeats 2000000 in
theorem flush_live (w : World) (bd : Nat) (S : Nat → Prop) (D : Dk) (ba pa : Option Addr) (bc pc : Nat) (h : DiskAt w bd S D ba pa bc pc) (hfu : IntOk D.fuse) (hlive : (D.fuse == 0) = false) :
    Calls Try.prog 13 #[.pointer (some ⟨bd, 0, none⟩)] w fun e w' =>
      e = .returned (.bool true) ∧ (∃ S', Disk w' bd S' { D with bs := putAll D.bs D.ps, ps := [], fuse := burnt D.fuse } ∧ ∀ k, S' k → S k) ∧ Kept S w w' := by
  obtain ⟨Zw, hZw, hzw⟩ : ∃ Zw : List Value, Zw = zeroW ∧ ∀ w, (zeroValue 43).run Try.prog w = .ok (.agg Zw.toArray) w := ⟨zeroW, rfl, zero_run Try.infoWrite⟩
  have HZw : Hid (Zw.length = 129) := by rw [hZw]; exact congrArg (· + 1) zeroB_ok.1
  clear hZw
  have hps := h.len
  have HH : Hid (DiskAt w bd S D ba pa bc pc) := h
  have HIw : Hid ((Try.prog.info? 43).map (·.size) = some 129) := size_of Try.infoWrite
  clear h
  go_enter Try.func13, Try.ntmps13
  go_wp2_with (go_at_call 21; refine (burn_any _ bd S D ba pa bc pc HH.out hfu).mono ?_; rintro e w1 ⟨rfl, hd1, hk1⟩; have hc1 := hd1.c1; have HD1 : Hid _ := hd1; have HK1 : Hid _ := hk1; clear hd1 hk1)
  have HI0 : Hid (FlInv w w1 bd S { D with fuse := burnt D.fuse } ba pa bc pc) := ⟨HD1.out, HK1.out.mono (fun k hk => by rw [hk]; exact HD1.out.bdS)⟩
  clear hc1
  go_loopw [13] (fun t wr => ∃ k : Nat, k ≤ D.ps.length ∧ t = .int .i64 k ∧ FlInv w wr bd S { D with bs := putAll D.bs (D.ps.take k), fuse := burnt D.fuse } ba pa bc pc) (fun t _ => D.ps.length - (intOf t).toNat)
  case atStart => exact ⟨0, Nat.zero_le _, rfl, HI0.out⟩
  case round =>
    obtain ⟨k, hk, rfl, hinv⟩ := hrel
    have HV : Hid (FlInv w wr bd S { D with bs := putAll D.bs (D.ps.take k), fuse := burnt D.fuse } ba pa bc pc) := hinv
    clear hinv
    by_cases hlt2 : k < D.ps.length
    · obtain ⟨g2, rfl⟩ := HH.out.prow (by omega)
      have HQI : Hid (D.ps[k].1 < D.bs.length) := (HH.out.ok.ps _ (List.getElem_mem hlt2)).1
      obtain ⟨g, rfl⟩ := HH.out.row (by have := HQI.out; omega)
      have HP : Hid (wr.rangeAt g2 (k * 129) (.int .i64 (D.ps[k].1 : Int) :: D.ps[k].2)) := HV.out.disk.prange k hlt2
      have HPO : Hid (BlkOk D.ps[k].2) := (HH.out.ok.ps _ (List.getElem_mem hlt2)).2
      have HLS : Hid (putAll D.bs (D.ps.take (k + 1)) = (putAll D.bs (D.ps.take k)).set D.ps[k].1 D.ps[k].2) := putAll_snoc D.bs D.ps k hlt2
      generalize hq : D.ps[k] = q at *
      obtain ⟨qi, qb⟩ := q
      clear hq
      have HA : Hid (FlInv w (wr.alloc (.cells (.int .i64 (qi : Int) :: qb).toArray 43)) bd S { D with bs := putAll D.bs (D.ps.take k), fuse := burnt D.fuse } (some ⟨g, 0, none⟩) (some ⟨g2, 0, none⟩) bc pc) := HV.out.alloc _
      have hpl : (putAll D.bs (D.ps.take k)).length = D.bs.length := putAll_len _ _
      have HPL : Hid ((putAll D.bs (D.ps.take k)).length = D.bs.length) := hpl
      have hc0 : (wr.alloc (.cells (.int .i64 (qi : Int) :: qb).toArray 43)).cell? ⟨bd, 0, none⟩ = some (.slice (some ⟨g, 0, none⟩) D.bs.length bc) := by rw [← hpl]; exact HA.out.disk.c0
      have hth : (wr.alloc (.cells (.int .i64 (qi : Int) :: qb).toArray 43)).there g (qi * 128) 128 := HA.out.disk.bthere qi (by show qi < (putAll D.bs (D.ps.take k)).length; rw [hpl]; exact HQI.out)
      have hne1 : bd ≠ g := fun e => HH.out.ap1 (by rw [← e]; rfl)
      have hgl : g < wr.heap.size := HV.out.disk.lt g ((HV.out.disk.own g).2 (.inr (.inl rfl)))
      have hbl : bd < wr.heap.size := HV.out.disk.lt bd HV.out.disk.bdS
      have hne2 : wr.heap.size ≠ g := by omega
      clear hpl
      have hlt3 : (k : Int) < (D.ps.length : Int) := by omega
      have hq0 : (0 : Int) ≤ (qi : Int) := by omega
      have hq1 : (qi : Int) < (D.bs.length : Int) := by have := HQI.out; simp only at this; omega
      have hcw : (wr.alloc (.cells (.int .i64 (qi : Int) :: qb).toArray 43)).cell? ⟨wr.heap.size, 0, none⟩ = some (.int .i64 (qi : Int)) := by simp
      have hrw : (wr.alloc (.cells (.int .i64 (qi : Int) :: qb).toArray 43)).rangeAt wr.heap.size 1 qb := range_of_block1 (heap_alloc_new wr _)
      have hu := Try.underlying30
      have hqb : qb.length = 128 := HPO.out.1
      have hqo : ∀ v ∈ qb, v.oneCell' = true := HPO.out.2
      have hsz : (Try.prog.info? 30).map (·.size) = some qb.length := by rw [hqb]; exact size_of Try.infoBlock
      go_wp2_with (first
          | (refine wpList_load_mid rfl 43 (.tmp 15) rfl _ _ rfl (.int .i64 (qi : Int) :: qb) _ HP.out Try.underlying43 rfl (by rw [List.length_cons, HPO.out.1]; exact HIw.out) ?_)
          | (refine wpList_store_new rfl 43 (.tmp 4) (.tmp 16) rfl _ _ (.int .i64 (qi : Int) :: qb) rfl rfl rfl (by rw [List.length_cons, HPO.out.1]; exact HIw.out) (by rw [List.length_cons, HPO.out.1]; simpa using HZw.out) (List.forall_mem_cons.2 ⟨rfl, HPO.out.2⟩) ?_))
      generalize (wr.alloc (.cells (.int .i64 (qi : Int) :: qb).toArray 43)) = W at *
      go_region_held3 (fun w' => w'.cell? ⟨bd, 0, none⟩ = some (.slice (some ⟨g, 0, none⟩) D.bs.length bc) ∧ w'.cell? ⟨wr.heap.size, 0, none⟩ = some (.int .i64 (qi : Int)) ∧ w'.rangeAt wr.heap.size 1 qb ∧ w'.there g (qi * 128) 128)
        ((go_split_ands; simp only [World.rangeAt_drew, World.there_drew, World.cell?_drew] at *; refine ⟨?_, ?_, ?_, ?_⟩ <;> first | assumption | (rw [World.cell?_setCells_out _ _ _ _ _ (by intro h1 _; simp at h1; omega)]; assumption) | (refine World.rangeAt_setCells_apart (by assumption) _ _ _ (by omega)) | (apply World.there_setCells; assumption)))
        (fail)
      go_wp2
      go_roundw
      case rel => exact ⟨k + 1, by omega, by go_num, by rw [HLS.out]; exact HA.out.drew.setb qi (by show qi < (putAll D.bs (D.ps.take k)).length; rw [HPL.out]; exact HQI.out) qb ⟨hqb, hqo⟩⟩
      case measure => simp [intOf]; omega
    · have hge : ¬ (k : Int) < (D.ps.length : Int) := by omega
      have hc1 := HV.out.disk.c1
      have hf1 := HV.out.disk.fz 1
      go_wp2
      go_ret
      have hd := HV.out.disk.nopend
      rw [show D.ps.take k = D.ps from List.take_of_length_le (by omega)] at hd
      refine ⟨rfl, ⟨_, ⟨ba, none, bc, 0, hd⟩, fun i hi => ?_⟩, HV.out.kept.trans (Kept.setCell (S := S) wr ⟨bd, 1, none⟩ _ HH.out.bdS) (fun _ h => .inl h)⟩
      rcases hi with rfl | hi
      · exact HH.out.bdS
      · refine (HV.out.disk.own i).2 (.inr (.inl ?_))
        rw [← hi]; cases ba <;> rfl

theorem flush_dead (w : World) (bd : Nat) (S : Nat → Prop) (D : Dk) (ba pa : Option Addr) (bc pc : Nat) (h : DiskAt w bd S D ba pa bc pc) (hfu : IntOk D.fuse) (hdead : (D.fuse == 0) = true) :
    Calls Try.prog 13 #[.pointer (some ⟨bd, 0, none⟩)] w fun e w' => e = .returned (.bool false) ∧ Disk w' bd S D ∧ Kept S w w' := by
  have HH : Hid (DiskAt w bd S D ba pa bc pc) := h
  have he : D.fuse = 0 := by simpa using hdead
  have HE : Hid (D.fuse = 0) := he
  clear he h
  go_enter Try.func13, Try.ntmps13
  go_wp2_with (go_at_call 21; refine (burn_any _ bd S D ba pa bc pc HH.out hfu).mono ?_; rintro e w1 ⟨rfl, hd1, hk1⟩; have HD1 : Hid _ := hd1; have HK1 : Hid _ := hk1; clear hd1 hk1)
  go_ret
  refine ⟨rfl, ⟨ba, pa, bc, pc, ?_⟩, HK1.out.mono (fun k hk => by rw [hk]; exact HD1.out.bdS)⟩
  have hd := HD1.out
  rw [HE.out] at hd
  have e0 : ({ D with fuse := burnt 0 } : Dk) = D := by
    have := HE.out
    cases D; simp only at this; subst this; rfl
  rw [e0] at hd
  exact hd

/-- What a flush makes of a disk. -/
def Dk.flush (D : Dk) : Dk := if D.fuse = 0 then D else { D with bs := putAll D.bs D.ps, ps := [], fuse := burnt D.fuse }

/-- FLUSH. -/
theorem flush_any (w : World) (bd : Nat) (S : Nat → Prop) (D : Dk) (h : Disk w bd S D) (hfu : IntOk D.fuse) :
    Calls Try.prog 13 #[.pointer (some ⟨bd, 0, none⟩)] w fun e w' =>
      e = .returned (.bool (!(D.fuse == 0))) ∧ (∃ S', Disk w' bd S' D.flush ∧ ∀ k, S' k → S k) ∧ Kept S w w' := by
  obtain ⟨ba, pa, bc, pc, h⟩ := h
  by_cases hf : D.fuse = 0
  · rw [show (D.fuse == 0) = true by simpa using hf, show D.flush = D from if_pos hf]
    exact (flush_dead w bd S D ba pa bc pc h hfu (by simpa using hf)).mono fun e w' ⟨h1, h2, h3⟩ => ⟨h1, ⟨S, h2, fun _ hk => hk⟩, h3⟩
  · rw [show (D.fuse == 0) = false by simpa using hf, show D.flush = { D with bs := putAll D.bs D.ps, ps := [], fuse := burnt D.fuse } from if_neg hf]
    exact flush_live w bd S D ba pa bc pc h hfu (by simpa using hf)
end Go.Proofs.Ytcoengihaobddaa.disk

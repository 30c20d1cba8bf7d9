/- The walk of 'drive': twenty-two calls on two disks. -/
import Derived.Test.YtcoengihaobddaaNames1
namespace Go.Proofs.Ytcoengihaobddaa.disk
open Go.ChangeShapes Go.WideShapes Go.ChangeAt Go.RowKit

def B1 : List Value := zeroB.set 127 (.int .u8 9)
def B2 : List Value := B1.set 0 (.int .u8 8)
def B3 : List Value := B2.set 0 (.int .u8 7)
theorem set_ok {b : List Value} (h : BlkOk b) (i : Nat) (k : IntKind) (n : Int) : BlkOk (b.set i (.int k n)) := ⟨by simp [h.1], fun v hv => by
  rcases List.mem_or_eq_of_mem_set hv with h1 | rfl
  · exact h.2 v h1
  · rfl⟩
theorem B1_ok : BlkOk B1 := set_ok zeroB_ok _ _ _
theorem B2_ok : BlkOk B2 := set_ok B1_ok _ _ _
theorem B3_ok : BlkOk B3 := set_ok B2_ok _ _ _
def D0 : Dk := Dk.fresh (sized 3)
def D1 : Dk := D0.write 0 B1
def D2 : Dk := D1.flush
def D3 : Dk := D2.write 1 B2
def D4 : Dk := D3.write 2 B3
def D5 : Dk := { D4 with reads := 1 }
def D6 : Dk := D5.fall [false, true]
def D7 : Dk := { D6 with reads := 4, fuse := 1 }
def D8 : Dk := D7.write 0 zeroB
def C0 : Dk := { D8 with reads := 0 }
def C1 : Dk := { C0 with reads := 1 }
def C2 : Dk := C1.fall [false]
def C3 : Dk := { C2 with reads := 2 }
def D9 : Dk := { D8 with reads := 5 }

set_option maxRecDepth 4000 in
set_option maxHeartbeats 4000000 in
theorem drive_any (w : World) : Calls Try.prog 7 #[] w fun e w' => e = .returned (.bool true) ∧ Kept (fun _ => False) w w' := by
  obtain ⟨Zb, hZb, hz⟩ : ∃ Zb : List Value, Zb = zeroB ∧ ∀ w, (zeroValue 30).run Try.prog w = .ok (.agg Zb.toArray) w := ⟨zeroB, rfl, zero_run Try.infoBlock⟩
  have HZ : Hid (Zb = zeroB) := hZb
  have hzl : Zb.length = 128 := by rw [hZb]; exact zeroB_ok.1
  have HI : Hid ((Try.prog.info? 30).map (·.size) = some 128) := size_of Try.infoBlock
  clear hZb
  go_enter Try.func7, Try.ntmps7
  go_wp2_with fail
  refine (new_any _ 3 ⟨by decide, by decide⟩).mono ?_
  rintro e w1 ⟨rfl, hd, hk⟩
  have HT : Hid (St (fun _ => False) w w1 (w.heap.size + 1) (fun k => k = w.heap.size + 1 ∨ k = w.heap.size) D0 []) := ⟨hd, hk, fun k hk => by omega, fun p hp => by cases hp⟩
  clear hd hk
  generalize (fun k => k = w.heap.size + 1 ∨ k = w.heap.size) = S at HT
  generalize w.heap.size + 1 = bd at HT ⊢
  have HT1 : Hid (St (fun _ => False) w (w1.alloc (.cells (Zb.set 127 (.int .u8 9)).toArray 30)) bd S D0 [(w1.heap.size, B1)]) := by
    have := HT.out.alloc B1
    rw [HZ.out]; exact this
  clear HT
  go_wp2_with (refine wpList_load_mid rfl 30 (.tmp 2) rfl _ _ rfl B1 _ (range_of_block (HT1.out.vars _ (List.mem_cons_self ..)).1) Try.underlying30 rfl (by rw [B1_ok.1]; exact HI.out) ?_)
  refine (HT1.out.calls_write 0 ⟨by decide, by decide⟩ B1 B1_ok ⟨by decide, by decide⟩ (by decide) (r := true) (by decide)).mono ?_
  rintro e w2 ⟨rfl, S2, ht⟩
  have HT2 : Hid (St (fun _ => False) w w2 bd S2 D1 [(w1.heap.size, B1)]) := ht
  clear ht HT1
  generalize w1.heap.size = nb at HT2 ⊢
  go_wp2_with fail
  refine (HT2.out.calls_flush ⟨by decide, by decide⟩ (r := true) (by decide)).mono ?_
  rintro e w3 ⟨rfl, S3, ht⟩
  have HT3 : Hid (St (fun _ => False) w w3 bd S3 D2 [(nb, B1)]) := ht
  clear ht HT2
  have hc0 : w3.cell? ⟨nb, 0, none⟩ = some (.int .u8 0) := HT3.out.cell (List.mem_cons_self ..) rfl
  have hf0 : w3.frozen? ⟨nb, 0, none⟩ = false := HT3.out.fz (List.mem_cons_self ..) 0
  have HT4 : Hid (St (fun _ => False) w (w3.setCell ⟨nb, 0, none⟩ (.int .u8 8)) bd S3 D2 [(nb, B2)]) := HT3.out.setv 0 _
  clear HT3
  go_wp2_with (refine wpList_load_mid rfl 30 (.tmp 2) rfl _ _ rfl B2 _ (range_of_block (HT4.out.vars _ (List.mem_cons_self ..)).1) Try.underlying30 rfl (by rw [B2_ok.1]; exact HI.out) ?_)
  refine (HT4.out.calls_write 1 ⟨by decide, by decide⟩ B2 B2_ok ⟨by decide, by decide⟩ (by decide) (r := true) (by decide)).mono ?_
  clear hc0 hf0
  rintro e w4 ⟨rfl, S4, ht⟩
  have HT5 : Hid (St (fun _ => False) w w4 bd S4 D3 [(nb, B2)]) := ht
  clear ht HT4
  have hc0 : w4.cell? ⟨nb, 0, none⟩ = some (.int .u8 8) := HT5.out.cell (List.mem_cons_self ..) rfl
  have hf0 : w4.frozen? ⟨nb, 0, none⟩ = false := HT5.out.fz (List.mem_cons_self ..) 0
  have HT6 : Hid (St (fun _ => False) w (w4.setCell ⟨nb, 0, none⟩ (.int .u8 7)) bd S4 D3 [(nb, B3)]) := HT5.out.setv 0 _
  clear HT5
  go_wp2_with (refine wpList_load_mid rfl 30 (.tmp 2) rfl _ _ rfl B3 _ (range_of_block (HT6.out.vars _ (List.mem_cons_self ..)).1) Try.underlying30 rfl (by rw [B3_ok.1]; exact HI.out) ?_)
  refine (HT6.out.calls_write 2 ⟨by decide, by decide⟩ B3 B3_ok ⟨by decide, by decide⟩ (by decide) (r := true) (by decide)).mono ?_
  clear hc0 hf0
  rintro e w5 ⟨rfl, S5, ht⟩
  have HT7 : Hid (St (fun _ => False) w w5 bd S5 D4 [(nb, B3)]) := ht
  clear ht HT6
  go_wp2_with (refine wpList_load_mid rfl 30 (.tmp 2) rfl _ _ rfl B3 _ (range_of_block (HT7.out.vars _ (List.mem_cons_self ..)).1) Try.underlying30 rfl (by rw [B3_ok.1]; exact HI.out) ?_)
  refine (HT7.out.calls_write 3 ⟨by decide, by decide⟩ B3 B3_ok ⟨by decide, by decide⟩ (by decide) (r := false) (by decide)).mono ?_
  rintro e w6 ⟨rfl, S6, ht⟩
  have HT8 : Hid (St (fun _ => False) w w6 bd S6 D4 [(nb, B3)]) := ht
  clear ht HT7
  go_wp2_with fail
  refine (HT8.out.calls_read 2 ⟨by decide, by decide⟩ (by decide) (by decide) (b := B3) rfl).mono ?_
  rintro e w7 ⟨rfl, ht⟩
  have HT9 : Hid (St (fun _ => False) w (w7.alloc (.cells B3.toArray 30)) bd S6 D5 [(w7.heap.size, B3), (nb, B3)]) := ht.alloc B3
  clear ht HT8
  go_upto_region 12 with (refine wpList_store_new rfl 30 (.tmp 8) (.tmp 40) rfl _ _ B3 rfl rfl rfl (by rw [B3_ok.1]; exact HI.out) (by simpa [B3_ok.1] using hzl) B3_ok.2 ?_)
  generalize w7.alloc (.cells B3.toArray 30) = w8 at HT9 ⊢
  generalize w7.heap.size = n8 at HT9 ⊢
  go_wp2_with fail
  refine (HT9.out.calls_fall [false, true] (by decide)).mono ?_
  rintro e w9 ⟨rfl, S9, ht⟩
  have HT10 : Hid (St (fun _ => False) w w9 bd S9 D6 [(n8, B3), (nb, B3)]) := ht
  clear ht HT9
  go_wp2_with fail
  refine (HT10.out.calls_read 0 ⟨by decide, by decide⟩ (by decide) (by decide) (b := B1) rfl).mono ?_
  rintro e w10 ⟨rfl, ht⟩
  have HT11 : Hid (St (fun _ => False) w (w10.alloc (.cells B1.toArray 30)) bd S9 { D6 with reads := 2 } [(w10.heap.size, B1), (n8, B3), (nb, B3)]) := ht.alloc B1
  clear ht HT10
  go_upto_region 14 with (refine wpList_store_new rfl 30 (.tmp 9) (.tmp 45) rfl _ _ B1 rfl rfl rfl (by rw [B1_ok.1]; exact HI.out) (by simpa [B1_ok.1] using hzl) B1_ok.2 ?_)
  generalize w10.alloc (.cells B1.toArray 30) = w11 at HT11 ⊢
  generalize w10.heap.size = n9 at HT11 ⊢
  go_wp2_with fail
  refine (HT11.out.calls_read 1 ⟨by decide, by decide⟩ (by decide) (by decide) (b := zeroB) rfl).mono ?_
  rintro e w12 ⟨rfl, ht⟩
  have HT12 : Hid (St (fun _ => False) w (w12.alloc (.cells zeroB.toArray 30)) bd S9 { D6 with reads := 3 } [(w12.heap.size, zeroB), (n9, B1), (n8, B3), (nb, B3)]) := ht.alloc zeroB
  clear ht HT11
  go_upto_region 15 with (refine wpList_store_new rfl 30 (.tmp 10) (.tmp 47) rfl _ _ zeroB rfl rfl rfl (by rw [zeroB_ok.1]; exact HI.out) (by simpa [zeroB_ok.1] using hzl) zeroB_ok.2 ?_)
  generalize w12.alloc (.cells zeroB.toArray 30) = w13 at HT12 ⊢
  generalize w12.heap.size = n10 at HT12 ⊢
  go_wp2_with fail
  refine (HT12.out.calls_read 2 ⟨by decide, by decide⟩ (by decide) (by decide) (b := B3) rfl).mono ?_
  rintro e w14 ⟨rfl, ht⟩
  have HT13 : Hid (St (fun _ => False) w (w14.alloc (.cells B3.toArray 30)) bd S9 { D6 with reads := 4 } [(w14.heap.size, B3), (n10, zeroB), (n9, B1), (n8, B3), (nb, B3)]) := ht.alloc B3
  clear ht HT12
  go_upto_region 16 with (refine wpList_store_new rfl 30 (.tmp 11) (.tmp 49) rfl _ _ B3 rfl rfl rfl (by rw [B3_ok.1]; exact HI.out) (by simpa [B3_ok.1] using hzl) B3_ok.2 ?_)
  generalize w14.alloc (.cells B3.toArray 30) = w15 at HT13 ⊢
  generalize w14.heap.size = n11 at HT13 ⊢
  go_wp2_with fail
  refine (HT13.out.calls_fuse 1).mono ?_
  rintro e w16 ⟨rfl, ht⟩
  have HT14 : Hid (St (fun _ => False) w w16 bd S9 D7 [(n11, B3), (n10, zeroB), (n9, B1), (n8, B3), (nb, B3)]) := ht
  clear ht HT13
  go_wp2_with fail
  refine (HT14.out.calls_write 0 ⟨by decide, by decide⟩ Zb (by rw [HZ.out]; exact zeroB_ok) ⟨by decide, by decide⟩ (by decide) (r := true) (by decide)).mono ?_
  rintro e w17 ⟨rfl, S17, ht⟩
  have HT15 : Hid (St (fun _ => False) w w17 bd S17 D8 [(n11, B3), (n10, zeroB), (n9, B1), (n8, B3), (nb, B3)]) := by rw [HZ.out] at ht; exact ht
  clear ht HT14
  go_wp2_with fail
  refine (HT15.out.calls_flush ⟨by decide, by decide⟩ (r := false) (by decide)).mono ?_
  rintro e w18 ⟨rfl, S18, ht⟩
  have HT16 : Hid (St (fun _ => False) w w18 bd S18 D8 [(n11, B3), (n10, zeroB), (n9, B1), (n8, B3), (nb, B3)]) := ht
  clear ht HT15
  go_wp2_with fail
  refine (HT16.out.calls_copy (by decide)).mono ?_
  rintro e w19 ⟨rfl, Sc, ht⟩
  have HC : Hid (St (fun _ => False) w18 w19 w18.heap.size Sc C0 []) := ht
  have hbw : bd < w18.heap.size := HT16.out.disk.lt bd HT16.out.disk.bdS
  have HBW : Hid (bd < w18.heap.size) := hbw
  clear ht hbw
  generalize w18.heap.size = nc at HC HBW ⊢
  go_wp2_with fail
  refine (HC.out.calls_read 0 ⟨by decide, by decide⟩ (by decide) (by decide) (b := zeroB) rfl).mono ?_
  rintro e w20 ⟨rfl, ht⟩
  have HC1 : Hid (St (fun _ => False) w18 (w20.alloc (.cells zeroB.toArray 30)) nc Sc C1 [(w20.heap.size, zeroB)]) := ht.alloc zeroB
  clear ht HC
  go_upto_region 21 with (refine wpList_store_new rfl 30 (.tmp 15) (.tmp 60) rfl _ _ zeroB rfl rfl rfl (by rw [zeroB_ok.1]; exact HI.out) (by simpa [zeroB_ok.1] using hzl) zeroB_ok.2 ?_)
  generalize w20.alloc (.cells zeroB.toArray 30) = w21 at HC1 ⊢
  generalize w20.heap.size = n15 at HC1 ⊢
  go_wp2_with fail
  refine (HC1.out.calls_flush ⟨by decide, by decide⟩ (r := false) (by decide)).mono ?_
  rintro e w22 ⟨rfl, S22, ht⟩
  have HC2 : Hid (St (fun _ => False) w18 w22 nc S22 C1 [(n15, zeroB)]) := ht
  clear ht HC1
  go_wp2_with fail
  refine (HC2.out.calls_fall [false] (by decide)).mono ?_
  rintro e w23 ⟨rfl, S23, ht⟩
  have HC3 : Hid (St (fun _ => False) w18 w23 nc S23 C2 [(n15, zeroB)]) := ht
  clear ht HC2
  go_wp2_with fail
  refine (HC3.out.calls_read 0 ⟨by decide, by decide⟩ (by decide) (by decide) (b := B1) rfl).mono ?_
  rintro e w24 ⟨rfl, ht⟩
  have HC4 : Hid (St (fun _ => False) w18 (w24.alloc (.cells B1.toArray 30)) nc S23 C3 [(w24.heap.size, B1), (n15, zeroB)]) := ht.alloc B1
  clear ht HC3
  go_upto_region 24 with (refine wpList_store_new rfl 30 (.tmp 17) (.tmp 67) rfl _ _ B1 rfl rfl rfl (by rw [B1_ok.1]; exact HI.out) (by simpa [B1_ok.1] using hzl) B1_ok.2 ?_)
  generalize w24.alloc (.cells B1.toArray 30) = w25 at HC4 ⊢
  generalize w24.heap.size = n17 at HC4 ⊢
  have HT17 : Hid (St (fun _ => False) w w25 bd S18 D8 [(n11, B3), (n10, zeroB), (n9, B1), (n8, B3), (nb, B3)]) := HT16.out.lift HC4.out
  go_wp2_with fail
  refine (HT17.out.calls_read_kept 0 ⟨by decide, by decide⟩ (by decide) (by decide) (b := zeroB) rfl).mono ?_
  rintro e w26 ⟨rfl, ht, hk⟩
  have HC5 : Hid (St (fun k => k = bd) w18 (w26.alloc (.cells zeroB.toArray 30)) nc S23 C3 [(n17, B1), (n15, zeroB)]) := (HC4.out.wide.beside hk (fun k hk => by rw [hk]; exact HT16.out.disk.lt bd HT16.out.disk.bdS)).other _
  have HT18 : Hid (St (fun _ => False) w (w26.alloc (.cells zeroB.toArray 30)) bd S18 D9 [(w26.heap.size, zeroB), (n11, B3), (n10, zeroB), (n9, B1), (n8, B3), (nb, B3)]) := ht.alloc zeroB
  clear ht hk HC4 HT17 HT16 HBW
  go_upto_region 25 with (refine wpList_store_new rfl 30 (.tmp 18) (.tmp 69) rfl _ _ zeroB rfl rfl rfl (by rw [zeroB_ok.1]; exact HI.out) (by simpa [zeroB_ok.1] using hzl) zeroB_ok.2 ?_)
  generalize w26.alloc (.cells zeroB.toArray 30) = w27 at HC5 HT18 ⊢
  generalize w26.heap.size = n18 at HC5 HT18 ⊢
  have c1 : w27.cell? ⟨n15, 127, none⟩ = some (.int .u8 0) := HC5.out.cell (cs := zeroB) (by simp) rfl
  have c2 : w27.cell? ⟨n17, 127, none⟩ = some (.int .u8 9) := HC5.out.cell (cs := B1) (by simp) rfl
  have c3 : w27.cell? ⟨n18, 127, none⟩ = some (.int .u8 0) := HT18.out.cell (cs := zeroB) (by simp) rfl
  have c4 : w27.cell? ⟨n8, 0, none⟩ = some (.int .u8 7) := HT18.out.cell (cs := B3) (by simp) rfl
  have c5 : w27.cell? ⟨n9, 127, none⟩ = some (.int .u8 9) := HT18.out.cell (cs := B1) (by simp) rfl
  have c6 : w27.cell? ⟨n10, 0, none⟩ = some (.int .u8 0) := HT18.out.cell (cs := zeroB) (by simp) rfl
  have c7 : w27.cell? ⟨n11, 0, none⟩ = some (.int .u8 7) := HT18.out.cell (cs := B3) (by simp) rfl
  have c8 : w27.cell? ⟨n11, 127, none⟩ = some (.int .u8 9) := HT18.out.cell (cs := B3) (by simp) rfl
  go_wp2_with fail
  refine (HC5.out.calls_reads (n := 2) rfl).mono ?_
  rintro e w' ⟨rfl, rfl⟩
  go_wp2_with fail
  refine (HT18.out.calls_blocks (n := 3) rfl).mono ?_
  rintro e w' ⟨rfl, rfl⟩
  go_wp2_with fail
  refine (HT18.out.calls_reads (n := 5) rfl).mono ?_
  rintro e w' ⟨rfl, rfl⟩
  go_wp2
  go_ret
  exact ⟨rfl, HT18.out.kept⟩
end Go.Proofs.Ytcoengihaobddaa.disk

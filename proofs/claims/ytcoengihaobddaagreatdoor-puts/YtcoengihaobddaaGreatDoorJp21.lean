/- Part 21 of 39 of a proof: Chg6, Tree9 -/
import Derived.Test.YtcoengihaobddaaGreatDoorJp20
import Derived.Test.YtcoengihaobddaaGreatDoorJp02
namespace Go.Proofs.YtcoengihaobddaaGreatDoor.prog
open Go.ChangeShapes Go.WideShapes Go.ChangeAt Go.RowKit Go.Proofs.YtcoengihaobddaaGreatDoor.disk Go.Proofs.YtcoengihaobddaaGreatDoor.ref
open Go.Proofs.YtcoengihaobddaaGreatDoor.keys (ret_int ret_bool beq_no beq_yes)
set_option linter.unusedVariables false
set_option maxRecDepth 8000

theorem and_zero (x r : Nat) (h : x.testBit r = false) : x &&& 2 ^ r = 0 := by
  apply Nat.eq_of_testBit_eq
  intro s
  rw [Nat.testBit_and, test_pow, Nat.zero_testBit]
  by_cases e : r = s
  · subst e; simp [h]
  · simp [e]
theorem and_not_zero (x r : Nat) (h : x.testBit r = true) : ¬ x &&& 2 ^ r = 0 := fun e => by
  have : (x &&& 2 ^ r).testBit r = true := by rw [Nat.testBit_and, test_pow, h]; simp
  rw [e] at this; simp at this
theorem and_bit (x r : Nat) (hx : x < 256) (hr : r < 8) : (bits BinOp.and IntKind.u8 (x : Int) (bitI r) == 0) = !x.testBit r := by
  have hp : 2 ^ r < 256 := by have := Nat.pow_le_pow_right (show 0 < 2 by omega) (show r ≤ 7 by omega); omega
  have e1 : BitVec.ofInt 8 (x : Int) = BitVec.ofNat 8 x := BitVec.ofInt_natCast ..
  have e2 : BitVec.ofInt 8 (bitI r) = BitVec.ofNat 8 (2 ^ r) := BitVec.ofInt_natCast ..
  have e4 : (BitVec.ofNat 8 x &&& BitVec.ofNat 8 (2 ^ r)).toNat = x &&& 2 ^ r := by
    have m1 : x % 256 = x := by omega
    have m2 : 2 ^ r % 256 = 2 ^ r := Nat.mod_eq_of_lt hp
    simp only [BitVec.toNat_and, BitVec.toNat_ofNat, show (2 : Nat) ^ 8 = 256 from rfl]
    rw [m1, m2]
  have e5 : bits BinOp.and IntKind.u8 (x : Int) (bitI r) = IntKind.u8.wrap ((BitVec.ofInt 8 (x : Int) &&& BitVec.ofInt 8 (bitI r)).toNat : Nat) := rfl
  have e6 : x &&& 2 ^ r < 256 := Nat.lt_of_le_of_lt Nat.and_le_left hx
  rw [e5, e1, e2, e4, IntKind.wrap_u8]
  cases ht : x.testBit r with
  | false => rw [and_zero x r ht]; simp
  | true =>
    have := and_not_zero x r ht
    generalize x &&& 2 ^ r = y at *
    simp; omega
theorem or_bit (x r : Nat) (hx : x < 256) (hr : r < 8) : bits BinOp.or IntKind.u8 (x : Int) (bitI r) = ((x ||| 2 ^ r : Nat) : Int) := by
  have hp : 2 ^ r < 256 := by have := Nat.pow_le_pow_right (show 0 < 2 by omega) (show r ≤ 7 by omega); omega
  have e1 : BitVec.ofInt 8 (x : Int) = BitVec.ofNat 8 x := BitVec.ofInt_natCast ..
  have e2 : BitVec.ofInt 8 (bitI r) = BitVec.ofNat 8 (2 ^ r) := BitVec.ofInt_natCast ..
  have e4 : (BitVec.ofNat 8 x ||| BitVec.ofNat 8 (2 ^ r)).toNat = x ||| 2 ^ r := by
    have m1 : x % 256 = x := by omega
    have m2 : 2 ^ r % 256 = 2 ^ r := Nat.mod_eq_of_lt hp
    simp only [BitVec.toNat_or, BitVec.toNat_ofNat, show (2 : Nat) ^ 8 = 256 from rfl]
    rw [m1, m2]
  have e5 : bits BinOp.or IntKind.u8 (x : Int) (bitI r) = IntKind.u8.wrap ((BitVec.ofInt 8 (x : Int) ||| BitVec.ofInt 8 (bitI r)).toNat : Nat) := rfl
  have e6 : x ||| 2 ^ r < 256 := Nat.or_lt_two_pow (n := 8) hx hp
  rw [e5, e1, e2, e4, IntKind.wrap_u8]
  omega
/-- A map's page, a bit set. -/
theorem map_set {w : World} {b : Nat} {m : List UInt8} (hm : m.length = 124) (h : PgAt w b (mapPg m)) (i : Nat) (hi : i / 8 < 124) (v : Nat) (hv : v < 256) : PgAt (w.setCell ⟨b, 4 + i / 8, none⟩ (.int .u8 (v : Int))) b (mapPg (m.set (i / 8) (UInt8.ofNat v))) := by
  have hb := h.bs.set (4 + i / 8) (UInt8.ofNat v)
  rw [u8_small _ hv, mapPg_bytes hm] at hb
  refine ⟨?_, mapPg_ok (by simp [hm])⟩
  rw [mapPg_bytes (by simp [hm])]
  have e : ([3, 124, 0, 0] ++ m).set (4 + i / 8) (UInt8.ofNat v) = [3, 124, 0, 0] ++ m.set (i / 8) (UInt8.ofNat v) := by
    rw [List.set_append_right _ _ (by simp)]; simp
  rw [e] at hb
  exact hb
theorem map_cell {w : World} {b : Nat} {m : List UInt8} (hm : m.length = 124) (h : PgAt w b (mapPg m)) (j : Nat) (hj : j < 124) : w.cell? ⟨b, 4 + j, none⟩ = some (.int .u8 ((m.getD j 0).toNat : Int)) := by
  have hb := h.bs.cell (4 + j) (by rw [mapPg_bytes hm]; simp [hm]; omega)
  simp only [mapPg_bytes hm] at hb
  rw [hb, List.getD_eq_getElem?_getD, List.getElem?_eq_getElem (by omega), Option.getD_some, List.getElem_append_right (by simp)]
  simp

theorem blocks_is (w : World) (bd : Nat) (S : Nat → Prop) (D : Dk) (h : Disk w bd S D) :
    Calls Tryz.prog 54 #[.pointer (some ⟨bd, 0, none⟩)] w fun e w' => e = .returned (.int .i64 D.bs.length) ∧ w' = w := by
  obtain ⟨ba, pa, bc, pc, h⟩ := h; exact blocks_any w bd S D ba pa bc pc h
theorem ChgAt.setFull {w : World} {bc bd : Nat} {T : Nat → Prop} {C : Ck} {a : Option Addr} {cap : Nat} (h : ChgAt w bc bd T C a cap) : ChgAt (w.setCell ⟨bc, 2, none⟩ (.bool true)) bc bd T { C with full := true } a cap := by
  refine ⟨h.ok, ?_, ?_, h.own, h.ap, h.few⟩
  · rw [heap_setCell_same w bc 2 _ _ _ h.head]; rfl
  · exact (Kept.setCell (S := fun k => k = bc) w ⟨bc, 2, none⟩ _ rfl).owns h.row (fun k hk e => h.ap (by rw [hk, e]))
/-- What Take makes. -/
structure Took (w w' : World) (bc bd : Nat) (S T : Nat → Prop) (D : Dk) (C : Ck) (m : List UInt8) (a : Int) (C' : Ck) : Prop where
  at_ : ∃ (n : Int) (T' : Nat → Prop), 0 ≤ n ∧ n ≤ 1 ∧ Cw w' bc bd S T' { D with reads := D.reads + n } C' ∧ ∀ k, T' k → T k ∨ w.heap.size ≤ k
  kept : Kept (fun k => k = bd ∨ T k) w w'
  is : (∃ i : Nat, a = (i : Int) + 21 ∧ i + 21 < D.bs.length ∧ takenB m i = false ∧ (∀ j, j < i → takenB m j = true) ∧ C' = C.put 2 (pgV (mapPg (setB m i)))) ∨ (a = 0 ∧ (∀ i, i + 21 < D.bs.length → takenB m i = true) ∧ C' = { C with full := true })

set_option maxHeartbeats 2000000 in
theorem take_any (w : World) (bc bd : Nat) (S T : Nat → Prop) (D : Dk) (C : Ck) (h : Cw w bc bd S T D C) (m : List UInt8) (hm : IsMap (C.look D 2) m) (hr0 : 0 ≤ D.reads) (hr1 : D.reads ≤ 4611686018427387904) (hfew : C.ws.length < 1000) :
    Calls Tryz.prog 134 #[.pointer (some ⟨bc, 0, none⟩)] w fun e w' => ∃ a C', e = .returned (.int .i64 a) ∧ Took w w' bc bd S T D C m a C' := by
  obtain ⟨Zb, hZb, hz⟩ : ∃ Zb : List Value, Zb = zeroB ∧ ∀ w, (zeroValue 154).run Tryz.prog w = .ok (.agg Zb.toArray) w := ⟨zeroB, rfl, zero_run Tryz.infoPage⟩
  have HZb : Hid (BlkOk Zb) := by rw [hZb]; exact zeroB_ok
  clear hZb
  have HI : Hid ((Tryz.prog.info? 154).map (·.size) = some 128) := size_of Tryz.infoPage
  have HW : Hid _ := h
  have HM : Hid _ := hm
  have hml := hm.len
  have HOK : Hid (BlkOk (pgV (mapPg m))) := pgV_ok (mapPg_ok hm.len)
  have HS1 : Hid (∀ k, S k → k < w.heap.size) := h.disk.lt
  have HT1 : Hid (∀ k, T k → k < w.heap.size) := h.chg.lt
  have hbl := h.disk.ok.few
  clear h hm
  go_enter Tryz.func134, Tryz.ntmps134
  go_wp2_with (first
    | (go_at_call 170; refine (takenMap_any _ bc bd S T D C HW.out m HM.out hr0 hr1).mono ?_; rintro e w1 ⟨rfl, hcw, hk1⟩; have HCW : Hid _ := hcw; have HK1 : Hid _ := hk1; clear hcw hk1)
    | (show wpList _ _ _ ({ dst := none, op := .store _ (.tmp 3) (.tmp 9), type := _, pos := _, after := _, guard := _ } :: _) _ _; refine wpList_store_new rfl 154 (.tmp 3) (.tmp 9) rfl _ _ (pgV (mapPg m)) (by simp) rfl rfl (by rw [HOK.out.1]; exact HI.out) (by rw [List.size_toArray, HZb.out.1, HOK.out.1]) HOK.out.2 ?_; have HP : Hid (PgAt (w1.alloc (.cells (pgV (mapPg m)).toArray 154)) w1.heap.size (mapPg m)) := ⟨⟨heap_alloc_new w1 _⟩, mapPg_ok HM.out.len⟩)
    | (go_at_call 125; refine (items_any _ _ _ HP.out).mono ?_; rintro e w2 ⟨rfl, n2, rfl⟩))
  have HPW : Hid (PgAt ((w1.alloc (.cells (pgV (mapPg m)).toArray 154)).drewN n2) w1.heap.size (mapPg m)) := HP.out.kept (T := fun _ => False) ⟨rfl, rfl, rfl, Nat.le_refl _, fun _ _ _ => rfl⟩ (fun hf => hf)
  have HKW : Hid (Kept (fun _ => False) w1 ((w1.alloc (.cells (pgV (mapPg m)).toArray 154)).drewN n2)) := (Kept.alloc _ _ _).trans (S' := fun _ => False) ⟨rfl, rfl, rfl, Nat.le_refl _, fun _ _ _ => rfl⟩ (fun _ h => .inl h)
  obtain ⟨nr, hn0, hn1, hcw⟩ := HCW.out
  have HCW2 : Hid (Cw w1 bc bd S T { D with reads := D.reads + nr } C) := hcw
  clear hcw HCW
  generalize (w1.alloc (.cells (pgV (mapPg m)).toArray 154)).drewN n2 = W at *
  generalize hb0 : w1.heap.size = b0 at *
  have hitv : itemsV b0 (mapPg m).kind (mapPg m).items.length = .slice (some ⟨b0, 4, none⟩) 124 124 := by simp [itemsV, mapPg, width, hml]
  rw [hitv]
  clear hitv HP
  go_loopw [5] (fun t wr => ∃ (i n : Nat), i ≤ 979 ∧ (i = 0 ∨ i + 21 ≤ D.bs.length) ∧ t = .int .i64 ((i : Int) + 21) ∧ wr = W.drewN n ∧ ∀ j, j < i → takenB m j = true) (fun t _ => 1000 - (intOf t).toNat)
  case atStart => exact ⟨0, 0, by omega, .inl rfl, rfl, rfl, fun _ h => by omega⟩
  case round =>
    obtain ⟨i, n, hi, hi2, rfl, rfl, hall⟩ := hrel
    have HALL : Hid _ := hall
    clear hall
    have hkn : Kept (fun _ => False) W (W.drewN n) := ⟨rfl, rfl, rfl, Nat.le_refl _, fun _ _ _ => rfl⟩
    have HKN : Hid _ := hkn
    have HCN : Hid (Cw (W.drewN n) bc bd S T { D with reads := D.reads + nr } C) := (HCW2.out.kept0 HKW.out).kept0 hkn
    have hc0 : W.cell? ⟨bc, 0, none⟩ = some (.pointer (some ⟨bd, 0, none⟩)) := by obtain ⟨a, cap, hc⟩ := HCN.out.chg; exact hc.c0
    clear hkn
    by_cases hlt : i + 21 < D.bs.length
    · have hcell := map_cell HM.out.len HPW.out (i / 8) (by omega)
      have hfz := HPW.out.bs.fz (4 + i / 8)
      have hand := and_bit (m.getD (i / 8) 0).toNat (i % 8) (m.getD (i / 8) 0).toNat_lt (by omega)
      have HT : Hid (takenB m i = (m.getD (i / 8) 0).toNat.testBit (i % 8)) := rfl
      have hx := (m.getD (i / 8) 0).toNat_lt
      have HSET : Hid (setB m i = m.set (i / 8) (UInt8.ofNat ((m.getD (i / 8) 0).toNat ||| 2 ^ (i % 8)))) := rfl
      have hor := or_bit (m.getD (i / 8) 0).toNat (i % 8) (m.getD (i / 8) 0).toNat_lt (by omega)
      have HV : Hid ((m.getD (i / 8) 0).toNat ||| 2 ^ (i % 8) < 256) := Nat.or_lt_two_pow (n := 8) hx (pow_lt i)
      generalize (m.getD (i / 8) 0).toNat = x at *
      cases ht : takenB m i with
      | true =>
        have ht2 : x.testBit (i % 8) = true := HT.out.symm.trans ht
        rw [ht2] at hand
        have HT2 : Hid _ := ht
        go_wp2_with (first
          | (go_at_call 54; refine (blocks_is _ bd S _ HCN.out.disk).mono ?_; rintro e w3 ⟨rfl, rfl⟩)
          | (go_at_call 171; refine (bitOf_any _ i (by omega)).mono ?_; rintro e w3 ⟨rfl, n3, rfl⟩))
        go_roundw
        case rel => exact ⟨i + 1, n + n3, by omega, by omega, by go_num, rfl, fun j hj => by
          by_cases e : j = i
          · subst e; exact HT2.out
          · exact HALL.out j (by omega)⟩
        case measure => simp [intOf]; omega
      | false =>
        have ht2 : x.testBit (i % 8) = false := HT.out.symm.trans ht
        rw [ht2] at hand
        have HT2 : Hid _ := ht
        go_wp2_with (first
          | (go_at_call 54; refine (blocks_is _ bd S _ HCN.out.disk).mono ?_; rintro e w3 ⟨rfl, rfl⟩)
          | (go_at_call 171; refine (bitOf_any _ i (by omega)).mono ?_; rintro e w3 ⟨rfl, n3, rfl⟩)
          | (show wpList _ _ _ ({ dst := some 40, op := .load _ _, type := _, pos := _, after := _, guard := _ } :: _) _ _; have HP5 : Hid (PgAt ((W.drewN (n + n3)).setCell ⟨b0, 4 + i / 8, none⟩ (.int .u8 ((x ||| 2 ^ (i % 8) : Nat) : Int))) b0 (mapPg (setB m i))) := (by { have h1 : PgAt (W.drewN (n + n3)) b0 (mapPg m) := HPW.out.kept (T := fun _ => False) ⟨rfl, rfl, rfl, Nat.le_refl _, fun _ _ _ => rfl⟩ (fun hf => hf); have h2 := map_set HM.out.len h1 i (by omega) (x ||| 2 ^ (i % 8)) HV.out; rw [← HSET.out] at h2; exact h2 }); have HO5 : Hid (BlkOk (pgV (mapPg (setB m i)))) := pgV_ok (mapPg_ok (by rw [setB_len]; exact HM.out.len)); refine wpList_load_mid rfl 154 (.tmp 3) rfl _ _ rfl (pgV (mapPg (setB m i))) _ (range_of_block HP5.out.bs.at_) arr_under rfl (by rw [HO5.out.1]; exact HI.out) ?_)
          | (go_at_call 135; refine (cwrite_any _ bc bd S T { D with reads := D.reads + nr } C ((HCW2.out.kept0 HKW.out).kept (X := fun k => k = b0) (w' := (W.drewN (n + n3)).setCell ⟨b0, 4 + i / 8, none⟩ (.int .u8 ((x ||| 2 ^ (i % 8) : Nat) : Int))) (Kept.trans (b := W.drewN (n + n3)) ⟨rfl, rfl, rfl, Nat.le_refl _, fun _ _ _ => rfl⟩ (Kept.setCell (S := fun k => k = b0) _ _ _ rfl) (fun _ h => .inl h)) (fun k hk e => by have := HS1.out k hk; have := HK1.out.size; omega) (fun k hk e => by have := HT1.out k hk; have := HK1.out.size; omega)) 2 (pgV (mapPg (setB m i))) HO5.out hfew).mono ?_; rintro e w4 ⟨rfl, ⟨T', hcw4, hT4⟩, hk4⟩; have HCW4 : Hid _ := hcw4; have HT4 : Hid _ := hT4; have HK4 : Hid _ := hk4; clear hcw4 hT4 hk4))
        go_ret
        have hk1 : Kept (fun k => k = bd ∨ T k) w ((W.drewN (n + n3)).setCell ⟨b0, 4 + i / 8, none⟩ (.int .u8 ((x ||| 2 ^ (i % 8) : Nat) : Int))) :=
          ((HK1.out.mono (fun _ h => .inl h)).trans HKW.out (fun _ hf => hf.elim)).trans (S' := fun k => k = b0) (Kept.trans (b := W.drewN (n + n3)) ⟨rfl, rfl, rfl, Nat.le_refl _, fun _ _ _ => rfl⟩ (Kept.setCell (S := fun k => k = b0) _ _ _ rfl) (fun _ h => .inl h)) (fun k hk => .inr (by have := HK1.out.size; omega))
        refine ⟨_, _, rfl, ⟨nr, T', hn0, hn1, HCW4.out, fun k hk => ?_⟩, hk1.trans HK4.out (fun k hk => .inl (.inr hk)), .inl ⟨i, rfl, hlt, HT2.out, HALL.out, rfl⟩⟩
        rcases HT4.out k hk with h1 | h1
        · exact .inl h1
        · right; have h2 := hk1.size; omega
    · have hcf : ∃ a cap, ChgAt W bc bd T C a cap := (HCW2.out.kept0 HKW.out).chg
      obtain ⟨a, cap, hcf⟩ := hcf
      have hc2 := hcf.c2
      have hf2 := hcf.fz 2
      have HCF : Hid _ := hcf
      clear hcf
      go_wp2_with (go_at_call 54; refine (blocks_is _ bd S _ HCN.out.disk).mono ?_; rintro e w3 ⟨rfl, rfl⟩)
      go_ret
      have hkf : Kept (fun k => k = bc) W ((W.drewN n).setCell ⟨bc, 2, none⟩ (.bool true)) := Kept.trans (b := W.drewN n) ⟨rfl, rfl, rfl, Nat.le_refl _, fun _ _ _ => rfl⟩ (Kept.setCell (S := fun k => k = bc) _ _ _ rfl) (fun _ h => .inl h)
      have hbcT := HCF.out.bcT
      refine ⟨_, _, rfl, ⟨nr, T, hn0, hn1, ⟨HCN.out.disk.kept (Kept.setCell (S := fun k => k = bc) _ ⟨bc, 2, none⟩ _ rfl) (fun k hk e => HW.out.apart k hk (by rw [e]; exact hbcT)), ⟨a, cap, (HCF.out.kept HKN.out (fun _ _ hf => hf)).setFull⟩, HW.out.apart⟩, fun k hk => .inl hk⟩, ?_, .inr ⟨rfl, fun j hj => ?_, rfl⟩⟩
      · exact ((HK1.out.mono (fun _ h => .inl h)).trans HKW.out (fun _ hf => hf.elim)).trans hkf (fun k hk => .inl (.inr (by rw [hk]; exact hbcT)))
      · exact HALL.out j (by omega)
end Go.Proofs.YtcoengihaobddaaGreatDoor.prog
namespace Go.Proofs.YtcoengihaobddaaGreatDoor.prog
open Go.ChangeShapes Go.WideShapes Go.ChangeAt Go.RowKit Go.Proofs.YtcoengihaobddaaGreatDoor.disk Go.Proofs.YtcoengihaobddaaGreatDoor.ref
open Go.Proofs.YtcoengihaobddaaGreatDoor.keys (ret_int ret_bool beq_no beq_yes)
set_option linter.unusedVariables false
set_option maxRecDepth 8000

theorem EnRow.take {w : World} {P : Nat → Prop} {g o : Nat} {es : List En} (h : EnRow w P (some ⟨g, o, none⟩) es) (m : Nat) : EnRow w P (some ⟨g, o, none⟩) (es.take m) := by
  refine ⟨?_, by have := h.few; rw [List.length_take]; omega⟩
  rcases h.at_ with h0 | ⟨g', o', h1, h2, h3, h4⟩
  · left; rw [h0]; simp
  · cases h1
    right
    refine ⟨g, o, rfl, h2, h3, fun k hk => ?_⟩
    rw [List.length_take] at hk
    rw [List.getElem_take]
    exact h4 k (by omega)
theorem EnRow.drop {w : World} {P : Nat → Prop} {g o : Nat} {es : List En} (h : EnRow w P (some ⟨g, o, none⟩) es) (m : Nat) : EnRow w P (some ⟨g, o + m * 5, none⟩) (es.drop m) := by
  refine ⟨?_, by have := h.few; rw [List.length_drop]; omega⟩
  rcases h.at_ with h0 | ⟨g', o', h1, h2, h3, h4⟩
  · left; rw [h0]; simp
  · cases h1
    right
    refine ⟨g, o + m * 5, rfl, h2, h3, fun k hk => ?_⟩
    rw [List.length_drop] at hk
    rw [List.getElem_drop, show o + m * 5 + k * 5 = o + (m + k) * 5 from by omega]
    exact h4 (m + k) (by omega)

/-- load, out of a change. -/
theorem loadc_any (w : World) (bc bd : Nat) (S T : Nat → Prop) (D : Dk) (C : Ck) (h : Cw w bc bd S T D C) (hr0 : 0 ≤ D.reads) (hr1 : D.reads ≤ 4611686018427387904) (at_ : Nat) (hat : at_ < 65536) (k : Nat) (es : List En) (hk : k = 4 ∨ k = 5) (hes : ∀ e ∈ es, e.Ok) (h4 : k = 4 → ∀ e ∈ es, e.mark = false ∧ e.size = 0) (hlen : es.length ≤ 6) (hl : C.look D at_ = pgV (nodePg k es)) :
    Calls Tryz.prog 174 #[.iface 142 (.pointer (some ⟨bc, 0, none⟩)), .int .i64 at_] w fun e w' => ∃ a' cap', e = .returned (.agg #[.int .u8 (k : Int), .slice a' es.length cap']) ∧ (∃ n : Int, 0 ≤ n ∧ n ≤ 1 ∧ Cw w' bc bd S T { D with reads := D.reads + n } C) ∧ Kept (fun i => i = bd) w w' ∧ EnRow w' (fun b => w.heap.size ≤ b) a' es ∧ w'.ownsRow 0 109 5 (.slice a' es.length cap') es.length (es.map enV).flatten ∧ (∀ j, (Value.slice a' es.length cap').ownBlock = some j → w.heap.size ≤ j) := by
  have hS := h.disk.lt
  have hT := h.chg.lt
  have hbd : bd < w.heap.size := hS bd h.disk.bdS
  refine (load_any w 142 192 ⟨bc, 0, none⟩ (isRd_chg _) (fun i => i = bd) (fun w1 => w.heap.size ≤ w1.heap.size ∧ ∃ n : Int, 0 ≤ n ∧ n ≤ 1 ∧ Cw w1 bc bd S T { D with reads := D.reads + n } C) at_ k es hk hes h4 hlen (fun w0 hk0 => ?_) (fun i hi => by rw [hi]; exact hbd)).mono ?_
  · refine (cread_any w0 bc bd S T D C (h.kept0 hk0) at_ (by constructor <;> omega) hr0 hr1).mono ?_
    rintro e w1 ⟨rfl, h1, h2⟩
    rw [hl]
    exact ⟨rfl, h2, Nat.le_trans hk0.size h2.size, h1⟩
  · rintro e w' ⟨w1, a', cap', rfl, h1, ⟨hz, n, n0, n1, h2⟩, h3, h4⟩
    refine ⟨a', cap', rfl, ⟨n, n0, n1, h2.kept h3 (fun i hi hc => ?_) (fun i hi hc => ?_)⟩, h1.trans h3 (fun j hj => .inr hj), h4⟩
    · have := hS i hi; omega
    · have := hT i hi; omega
/-- load, out of a disk. -/
theorem loadd_any (w : World) (bd : Nat) (S : Nat → Prop) (D : Dk) (h : Disk w bd S D) (hr0 : 0 ≤ D.reads) (hr1 : D.reads ≤ 4611686018427387904) (at_ : Nat) (hat : at_ < 65536) (k : Nat) (es : List En) (hk : k = 4 ∨ k = 5) (hes : ∀ e ∈ es, e.Ok) (h4 : k = 4 → ∀ e ∈ es, e.mark = false ∧ e.size = 0) (hlen : es.length ≤ 6) (hl : D.look at_ = pgV (nodePg k es)) :
    Calls Tryz.prog 174 #[.iface 29 (.pointer (some ⟨bd, 0, none⟩)), .int .i64 at_] w fun e w' => ∃ a' cap', e = .returned (.agg #[.int .u8 (k : Int), .slice a' es.length cap']) ∧ Disk w' bd S { D with reads := D.reads + 1 } ∧ Kept (fun i => i = bd) w w' ∧ EnRow w' (fun b => w.heap.size ≤ b) a' es ∧ w'.ownsRow 0 109 5 (.slice a' es.length cap') es.length (es.map enV).flatten ∧ (∀ j, (Value.slice a' es.length cap').ownBlock = some j → w.heap.size ≤ j) := by
  have hS := h.lt
  have hbd : bd < w.heap.size := hS bd h.bdS
  refine (load_any w 29 81 ⟨bd, 0, none⟩ (isRd_disk _) (fun i => i = bd) (fun w1 => w.heap.size ≤ w1.heap.size ∧ Disk w1 bd S { D with reads := D.reads + 1 }) at_ k es hk hes h4 hlen (fun w0 hk0 => ?_) (fun i hi => by rw [hi]; exact hbd)).mono ?_
  · refine (read_any w0 bd S D (h.kept hk0 (fun _ _ hf => hf)) at_ (by constructor <;> omega) hr0 hr1).mono ?_
    rintro e w1 ⟨rfl, h1, h2⟩
    rw [hl]
    exact ⟨rfl, h2, Nat.le_trans hk0.size h2.size, h1⟩
  · rintro e w' ⟨w1, a', cap', rfl, h1, ⟨hz, h2⟩, h3, h4⟩
    refine ⟨a', cap', rfl, h2.kept h3 (fun i hi hc => ?_), h1.trans h3 (fun j hj => .inr hj), h4⟩
    have := hS i hi; omega
theorem ck_put_len (C : Ck) (i : Nat) (b : List Value) : (C.put i b).ws.length ≤ C.ws.length + 1 := by
  cases hx : ixOf C.ws i with
  | none => rw [ck_put_miss b hx]; simp
  | some k => obtain ⟨hk, e⟩ := ck_put_hit b hx; rw [e]; simp
theorem save_n (w : World) (bc bd : Nat) (S T : Nat → Prop) (D : Dk) (C : Ck) (h : Cw w bc bd S T D C) (P : Nat → Prop) (a : Option Addr) (cap : Nat) (k : Nat) (hk : k = 4 ∨ k = 5) (es : List En) (hr : EnRow w P a es) (hes : ∀ e ∈ es, e.Ok) (hlen : es.length ≤ 6) (at_ : Nat) (hfew : C.ws.length < 1000) (n : Nat) (hn : es.length = n) :
    Calls Tryz.prog 173 #[.agg #[.int .u8 (k : Int), .slice a n cap], .pointer (some ⟨bc, 0, none⟩), .int .i64 at_] w fun r w' => r = .returned (.tuple #[]) ∧ (∃ T', Cw w' bc bd S T' D (C.put at_ (pgV (nodePg k es))) ∧ ∀ j, T' j → T j ∨ w.heap.size ≤ j) ∧ Kept T w w' := by
  subst hn
  exact save_any w bc bd S T D C h P a cap k hk es hr hes hlen at_ hfew
/-- Four blocks of memory, made one behind the other. -/
theorem four_new (w : World) (o1 o2 o3 o4 : Obj) : ((((w.alloc o1).alloc o2).alloc o3).alloc o4).drew.heap[w.heap.size]? = some o1 ∧ ((((w.alloc o1).alloc o2).alloc o3).alloc o4).drew.heap[w.heap.size + 1]? = some o2 ∧ ((((w.alloc o1).alloc o2).alloc o3).alloc o4).drew.heap[w.heap.size + 1 + 1]? = some o3 ∧ ((((w.alloc o1).alloc o2).alloc o3).alloc o4).drew.heap[w.heap.size + 1 + 1 + 1]? = some o4 ∧ Kept (fun _ => False) w ((((w.alloc o1).alloc o2).alloc o3).alloc o4).drew ∧ ((((w.alloc o1).alloc o2).alloc o3).alloc o4).drew.heap.size = w.heap.size + 4 := by
  have s1 : (w.alloc o1).heap.size = w.heap.size + 1 := by simp
  have s2 : ((w.alloc o1).alloc o2).heap.size = w.heap.size + 1 + 1 := by simp
  have s3 : (((w.alloc o1).alloc o2).alloc o3).heap.size = w.heap.size + 1 + 1 + 1 := by simp
  have s4 : ((((w.alloc o1).alloc o2).alloc o3).alloc o4).heap.size = w.heap.size + 4 := by simp
  have k1 := Kept.alloc (fun _ => False) w o1
  have k2 := Kept.alloc (fun _ => False) (w.alloc o1) o2
  have k3 := Kept.alloc (fun _ => False) ((w.alloc o1).alloc o2) o3
  have k4 := Kept.alloc (fun _ => False) (((w.alloc o1).alloc o2).alloc o3) o4
  have n1 := heap_alloc_new w o1
  have n2 := heap_alloc_new (w.alloc o1) o2
  have n3 := heap_alloc_new ((w.alloc o1).alloc o2) o3
  have n4 := heap_alloc_new (((w.alloc o1).alloc o2).alloc o3) o4
  rw [s1] at n2
  rw [s2] at n3
  rw [s3] at n4
  refine ⟨?_, ?_, ?_, n4, ?_, s4⟩
  · exact ((k4.block _ (by omega) id).trans ((k3.block _ (by omega) id).trans ((k2.block _ (by omega) id).trans n1)))
  · exact ((k4.block _ (by omega) id).trans ((k3.block _ (by omega) id).trans n2))
  · exact ((k4.block _ (by omega) id).trans n3)
  · exact (((k1.trans k2 (fun _ h => .inl h)).trans k3 (fun _ h => .inl h)).trans k4 (fun _ h => .inl h)).trans (Kept.drew _ _) (fun _ h => .inl h)
set_option maxHeartbeats 2000000 in
theorem halve_any (w : World) (bc bd : Nat) (S T : Nat → Prop) (D : Dk) (C : Ck) (h : Cw w bc bd S T D C) (P : Nat → Prop) (hPT : ∀ j, P j → ¬ T j) (a : Option Addr) (cap : Nat) (k : Nat) (hk : k = 4 ∨ k = 5) (es : List En) (hr : EnRow w P a es) (hes : ∀ e ∈ es, e.Ok) (m : Nat) (hm : m = es.length / 2) (hlen2 : m < es.length) (hlen : es.length ≤ 12) (hcap : es.length ≤ cap) (hcap2 : cap ≤ 9223372036854775807) (la ra : Nat) (hfew : C.ws.length < 900) :
    Calls Tryz.prog 200 #[.agg #[.int .u8 (k : Int), .slice a es.length cap], .pointer (some ⟨bc, 0, none⟩), .int .i64 la, .int .i64 ra] w fun r w' => r = .returned (.agg #[.string es[m].pl.key, .int .i64 es[m].pl.num]) ∧ (∃ T', Cw w' bc bd S T' D ((C.put la (pgV (nodePg k (es.take m)))).put ra (pgV (nodePg k (es.drop m)))) ∧ ∀ j, T' j → T j ∨ w.heap.size ≤ j) ∧ Kept T w w' := by
  obtain ⟨g, o, rfl⟩ := hr.base (by omega)
  have HH : Hid _ := h
  have HR : Hid _ := hr
  have HT1 : Hid (EnRow w P (some ⟨g, o, none⟩) (es.take m)) := hr.take m
  have HT2 : Hid (EnRow w P (some ⟨g, o + m * 5, none⟩) (es.drop m)) := hr.drop m
  have hl1 : (es.take m).length = m := by rw [List.length_take]; omega
  have hl2 : (es.drop m).length = es.length - m := List.length_drop ..
  have HMI : Hid ((es.length : Int) / 2 = (m : Int)) := by show (es.length : Int) / 2 = (m : Int); omega
  have hcI : (m : Int) ≤ (cap : Int) := by omega
  have hm6 : m ≤ 6 := by omega
  have hm7 : es.length - m ≤ 6 := by omega
  have HO1 : Hid (∀ e ∈ es.take m, e.Ok) := fun e he => hes e (List.mem_of_mem_take he)
  have HO2 : Hid (∀ e ∈ es.drop m, e.Ok) := fun e he => hes e (List.mem_of_mem_drop he)
  clear hes
  have hmn : ¬ cap = m := by omega
  clear h hr
  go_enter Tryz.func200, Tryz.ntmps200
  go_wp2
  rw [HMI.out]
  clear HMI hm
  have hmL : (m : Int) ≤ (es.length : Int) := by omega
  have hcL : (es.length : Int) ≤ (cap : Int) := by omega
  go_region_held3 (fun w' => w'.cell? ⟨w.heap.size, 0, none⟩ = some (.int .u8 (k : Int)) ∧ w'.cell? ⟨w.heap.size, 1, none⟩ = some (.slice (some ⟨g, o, none⟩) es.length cap)) (go_keep) (fail)
  obtain ⟨_, n8, n2, n3, kW, sW⟩ := four_new w (.cells #[.int .u8 (k : Int), .slice (some ⟨g, o, none⟩) es.length cap] 209) (.cells #[.string ⟨#[]⟩, .int .i64 0] 107) (.cells #[.int .u8 (k : Int), .slice (some ⟨g, o, none⟩) m cap] 209) (.cells #[.int .u8 (k : Int), .slice (some ⟨g, o + m * 5, none⟩) (es.length - m) (cap - m)] 209)
  have HN8 : Hid _ := n8
  have HNl : Hid _ := n2
  have HNr : Hid _ := n3
  have HKW : Hid _ := kW
  clear n8 n2 n3 kW
  generalize ((((w.alloc (.cells #[.int .u8 (k : Int), .slice (some ⟨g, o, none⟩) es.length cap] 209)).alloc (.cells #[.string ⟨#[]⟩, .int .i64 0] 107)).alloc (.cells #[.int .u8 (k : Int), .slice (some ⟨g, o, none⟩) m cap] 209)).alloc (.cells #[.int .u8 (k : Int), .slice (some ⟨g, o + m * 5, none⟩) (es.length - m) (cap - m)] 209)).drew = W at *
  generalize hbr : w.heap.size + 1 + 1 + 1 = br at *
  generalize hbl : w.heap.size + 1 + 1 = bl at *
  rotate_left
  obtain ⟨_, n8, n2, n3, kW, sW⟩ := four_new w (.cells #[.int .u8 (k : Int), .slice (some ⟨g, o, none⟩) es.length cap] 209) (.cells #[.string ⟨#[]⟩, .int .i64 0] 107) (.cells #[.int .u8 (k : Int), .slice (some ⟨g, o + m * 5, none⟩) (es.length - m) (cap - m)] 209) (.cells #[.int .u8 (k : Int), .slice (some ⟨g, o, none⟩) m cap] 209)
  have HN8 : Hid _ := n8
  have HNr : Hid _ := n2
  have HNl : Hid _ := n3
  have HKW : Hid _ := kW
  clear n8 n2 n3 kW
  generalize ((((w.alloc (.cells #[.int .u8 (k : Int), .slice (some ⟨g, o, none⟩) es.length cap] 209)).alloc (.cells #[.string ⟨#[]⟩, .int .i64 0] 107)).alloc (.cells #[.int .u8 (k : Int), .slice (some ⟨g, o + m * 5, none⟩) (es.length - m) (cap - m)] 209)).alloc (.cells #[.int .u8 (k : Int), .slice (some ⟨g, o, none⟩) m cap] 209)).drew = W at *
  generalize hbl : w.heap.size + 1 + 1 + 1 = bl at *
  generalize hbr : w.heap.size + 1 + 1 = br at *
  rotate_left
  all_goals
    have hl0 : W.cell? ⟨bl, 0, none⟩ = some (.int .u8 (k : Int)) := by rw [cell_of_row W _ 0 _ _ _ HNl.out]; rfl
    have hl1' : W.cell? ⟨bl, 1, none⟩ = some (.slice (some ⟨g, o, none⟩) m cap) := by rw [cell_of_row W _ 1 _ _ _ HNl.out]; rfl
    have HCW : Hid (Cw W bc bd S T D C) := HH.out.kept0 HKW.out
    have hTl := HH.out.chg.lt
    have hlr : bl < W.heap.size ∧ br < W.heap.size ∧ w.heap.size ≤ bl ∧ w.heap.size ≤ br := by omega
    have HE1 : Hid (EnRow W P (some ⟨g, o, none⟩) (es.take m)) := HT1.out.kept HKW.out (fun _ _ hf => hf)
    have HE2 : Hid (EnRow W P (some ⟨g, o + m * 5, none⟩) (es.drop m)) := HT2.out.kept HKW.out (fun _ _ hf => hf)
    have hnT : ∀ j, w.heap.size ≤ j → ¬ T j := fun j hj hT => by have := hTl j hT; omega
    have HNT : Hid (∀ j, w.heap.size ≤ j → ¬ T j) := hnT
    clear hTl hnT
    have HPT : Hid (∀ j, P j → ¬ T j) := hPT
    clear hPT
    have HGE : Hid ((es.drop m)[0]'(by omega) = es[m]) := by show (es.drop m)[0]'(by omega) = es[m]; rw [List.getElem_drop]; rfl
    generalize hem : es[m] = em at *
    have HEM : Hid (es[m] = em) := hem
    clear hem
    go_wp2_with (first
      | (go_at_call 173; refine (save_n w1 bc bd S T1 D _ HC1.out _ _ (cap - m) k hk (es.drop m) HER.out HO2.out (by omega) ra (by have := ck_put_len C la (pgV (nodePg k (es.take m))); omega) (es.length - m) hl2).mono ?_; rintro r w2 ⟨rfl, ⟨T2, hc2, hT2⟩, hk2⟩; have HC2 : Hid _ := hc2; have HTT2 : Hid _ := hT2; have HK2 : Hid (Kept T1 w1 w2) := hk2; have hKA : Kept T W w2 := HK1.out.trans hk2 HTT1.out; have HKA : Hid (Kept T W w2) := hKA; have HNr2 : Hid (w2.heap[br]? = _) := (hKA.block br hlr.2.1 (HNT.out br hlr.2.2.2)).trans HNr.out; have hr2 : w2.cell? ⟨br, 1, none⟩ = some (.slice (some ⟨g, o + m * 5, none⟩) (es.length - m) (cap - m)) := (by rw [cell_of_row w2 _ 1 _ _ _ HNr2.out]; rfl); have HN82 : Hid (w2.heap[w.heap.size + 1]? = _) := (hKA.block (w.heap.size + 1) (by omega) (HNT.out _ (by omega))).trans HN8.out; have hg0 : w2.cell? ⟨w.heap.size + 1, 0, none⟩ = some (.string ⟨#[]⟩) := (by rw [cell_of_row w2 _ 0 _ _ _ HN82.out]; rfl); have hg1 : w2.cell? ⟨w.heap.size + 1, 1, none⟩ = some (.int .i64 0) := (by rw [cell_of_row w2 _ 1 _ _ _ HN82.out]; rfl); have hf0 := frozen_of_row w2 (w.heap.size + 1) 0 _ _ HN82.out; have hf1 := frozen_of_row w2 (w.heap.size + 1) 1 _ _ HN82.out; obtain ⟨e0, e1, -, -, -, -, -⟩ := (HE2.out.kept hKA (fun j hj => HPT.out j hj)).cells 0 (by omega); rw [Nat.zero_mul, Nat.add_zero, HGE.out] at e0 e1; have hpos : (0 : Int) < ((es.length - m : Nat) : Int) := (by omega); clear hc2 hT2 hk2 hKA)
      | (go_at_call 173; refine (save_n W bc bd S T D C HCW.out P _ cap k hk (es.take m) HE1.out HO1.out (by omega) la (by omega) m hl1).mono ?_; rintro r w1 ⟨rfl, ⟨T1, hc1, hT1⟩, hk1⟩; have HC1 : Hid _ := hc1; have HTT1 : Hid _ := hT1; have HK1 : Hid (Kept T W w1) := hk1; have HER : Hid (EnRow w1 (fun j => P j ∧ j < W.heap.size) (some ⟨g, o + m * 5, none⟩) (es.drop m)) := (HE2.out.below.kept hk1 (fun j hj => HPT.out j hj.1)); have HNr1 : Hid (w1.heap[br]? = _) := (hk1.block br hlr.2.1 (HNT.out br hlr.2.2.2)).trans HNr.out; have hr0 : w1.cell? ⟨br, 0, none⟩ = some (.int .u8 (k : Int)) := (by rw [cell_of_row w1 _ 0 _ _ _ HNr1.out]; rfl); have hr1 : w1.cell? ⟨br, 1, none⟩ = some (.slice (some ⟨g, o + m * 5, none⟩) (es.length - m) (cap - m)) := (by rw [cell_of_row w1 _ 1 _ _ _ HNr1.out]; rfl); clear hc1 hT1 hk1))
    have hh1 := heap_setCell_same w2 (w.heap.size + 1) 0 _ _ (.string em.pl.key) HN82.out
    have hh2 := heap_setCell_same _ (w.heap.size + 1) 1 _ _ (.int .i64 em.pl.num) hh1
    have kS : Kept (fun j => j = w.heap.size + 1) w2 ((w2.setCell ⟨w.heap.size + 1, 0, none⟩ (.string em.pl.key)).setCell ⟨w.heap.size + 1, 1, none⟩ (.int .i64 em.pl.num)) := (Kept.setCell (S := fun j => j = w.heap.size + 1) w2 ⟨w.heap.size + 1, 0, none⟩ _ rfl).trans (Kept.setCell (S := fun j => j = w.heap.size + 1) _ ⟨w.heap.size + 1, 1, none⟩ _ rfl) (fun _ h => .inl h)
    have hT2 : ∀ j, T2 j → T j ∨ W.heap.size ≤ j := fun j hj => by
      rcases HTT2.out j hj with h1 | h1
      · exact HTT1.out j h1
      · right; have := HK1.out.size; omega
    have hlt2 : w.heap.size < w2.heap.size := by have := HKA.out.size; omega
    have hSl := HH.out.disk.lt
    refine bodyPost_ret (v := .agg #[.string em.pl.key, .int .i64 em.pl.num]) (results_cell_row Tryz.results200 _ _ (w.heap.size + 1) 107 _ (0, 0) _ rfl hh2 Tryz.underlying107 rfl (by kernel_rfl)) rfl ⟨by rw [HEM.out], ⟨T2, HC2.out.kept kS (fun j hj e0 => by have := hSl j hj; omega) (fun j hj e0 => ?_), fun j hj => (hT2 j hj).imp id (fun h => by omega)⟩, ?_⟩
    · subst e0
      rcases hT2 _ hj with h1 | h1
      · exact HNT.out _ (by omega) h1
      · omega
    · exact ((HKW.out.mono (fun _ hf => hf.elim)).trans HKA.out (fun _ h => .inl h)).trans kS (fun j hj => .inr (by omega))
end Go.Proofs.YtcoengihaobddaaGreatDoor.prog

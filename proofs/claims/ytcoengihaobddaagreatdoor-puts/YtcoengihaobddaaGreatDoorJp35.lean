/- Part 35 of 39 of a proof: Root2, Log2, Log3, Log4, Log5 -/
import Derived.Test.YtcoengihaobddaaGreatDoorJp30
import Derived.Test.YtcoengihaobddaaGreatDoorJp26
namespace Go.Proofs.YtcoengihaobddaaGreatDoor.prog
open Go.ChangeShapes Go.WideShapes Go.ChangeAt Go.RowKit Go.Proofs.YtcoengihaobddaaGreatDoor.disk Go.Proofs.YtcoengihaobddaaGreatDoor.ref
open Go.Proofs.YtcoengihaobddaaGreatDoor.keys (ret_int ret_bool beq_no beq_yes)
set_option linter.unusedVariables false
set_option maxRecDepth 8000

section
attribute [local go_sem ↓] loadP_eq
set_option maxHeartbeats 2000000 in
theorem rootWrite_any (w : World) (bc bd : Nat) (S T : Nat → Prop) (D : Dk) (C : Ck) (h : Cw w bc bd S T D C) (tree n : Nat) (ht : tree < 65536) (hn : n < 9223372036854775808) (hfew : C.ws.length < 1000) :
    Calls Tryz.prog 77 #[.agg #[.int .i64 (tree : Int), .int .i64 (n : Int)], .pointer (some ⟨bc, 0, none⟩)] w fun r w' => r = .returned (.tuple #[]) ∧ (∃ T', Cw w' bc bd S T' D (C.put 1 (pgV (rootPg tree n))) ∧ ∀ j, T' j → T j ∨ w.heap.size ≤ j) ∧ Kept T w w' := by
  obtain ⟨Zb, hZb, hz⟩ : ∃ Zb : List Value, Zb = zeroB ∧ ∀ w, (zeroValue 154).run Tryz.prog w = .ok (.agg Zb.toArray) w := ⟨zeroB, rfl, zero_run Tryz.infoPage⟩
  have HZb : Hid (BlkOk Zb) := by rw [hZb]; exact zeroB_ok
  clear hZb
  have HI : Hid ((Tryz.prog.info? 154).map (·.size) = some 128) := size_of Tryz.infoPage
  have HH : Hid _ := h
  have HN1 : Hid (BlkOk (pgV (Pg.new 2))) := pgV_ok (Pg.new_ok 2 (by omega))
  have HK0 : Hid (Kept (fun _ => False) w (w.alloc (.cells #[.int .i64 (tree : Int), .int .i64 (n : Int)] 145))) := Kept.alloc _ _ _
  have HTL : Hid (∀ j, T j → j < w.heap.size) := h.chg.lt
  have HSL : Hid (∀ j, S j → j < w.heap.size) := h.disk.lt
  clear h
  go_enter Tryz.func77, Tryz.ntmps77
  go_wp2_with (first
    | (go_at_call 131; refine (new_any _ 2 (by omega)).mono ?_; rintro r w1 ⟨rfl, hk1⟩; have HK1 : Hid _ := hk1; have hbx1 : w1.heap[w.heap.size]? = _ := (hk1.block w.heap.size (by simp) (fun hf => hf)).trans (heap_alloc_new w _); have HBX1 : Hid _ := hbx1; have hx0 : w1.cell? ⟨w.heap.size, 0, none⟩ = some (.int .i64 (tree : Int)) := (by rw [cell_of_row w1 _ 0 _ _ _ hbx1]; rfl); have hl1 : w.heap.size < w1.heap.size := (Array.getElem?_eq_some_iff.1 hbx1).1; clear hk1 hbx1)
    | (show wpList _ _ _ ({ dst := none, op := .store _ (.tmp 4) (.tmp 5), type := _, pos := _, after := _, guard := _ } :: _) _ _; refine wpList_store_new rfl 154 (.tmp 4) (.tmp 5) rfl _ _ (pgV (Pg.new 2)) (by simp) rfl rfl (by rw [HN1.out.1]; exact HI.out) (by rw [List.size_toArray, HZb.out.1, HN1.out.1]) HN1.out.2 ?_))
  have HP0 : Hid (PgAt (w1.alloc (.cells (pgV (Pg.new 2)).toArray 154)) w1.heap.size (Pg.new 2)) := ⟨⟨heap_alloc_new w1 _⟩, Pg.new_ok 2 (by omega)⟩
  have HKW : Hid (Kept (fun _ => False) w (w1.alloc (.cells (pgV (Pg.new 2)).toArray 154))) := (HK0.out.trans HK1.out (fun _ h => .inl h)).trans (Kept.alloc _ _ _) (fun _ h => .inl h)
  have HBXW : Hid ((w1.alloc (.cells (pgV (Pg.new 2)).toArray 154)).heap[w.heap.size]? = some (.cells #[.int .i64 (tree : Int), .int .i64 (n : Int)] 145 (0, 0))) := ((Kept.alloc (fun _ => False) w1 _).block w.heap.size hl1 (fun hf => hf)).trans HBX1.out
  have hsW : (w1.alloc (.cells (pgV (Pg.new 2)).toArray 154)).heap.size = w1.heap.size + 1 := by simp
  generalize (w1.alloc (.cells (pgV (Pg.new 2)).toArray 154)) = W at *
  refine (setLink_any W _ _ HP0.out tree ht).mono ?_
  rintro r w2 ⟨rfl, hp2, hk2⟩
  have HP2 : Hid (PgAt w2 w1.heap.size ((Pg.new 2).setLink tree)) := hp2
  have HK2 : Hid (Kept (fun i => i = w1.heap.size) W w2) := hk2
  have hsz2 := hk2.size
  have HB2 : Hid (w2.heap[w.heap.size]? = _) := (hk2.block _ (by omega) (by omega)).trans HBXW.out
  clear hp2 hk2
  have x1 : w2.cell? ⟨w.heap.size, 1, none⟩ = some (.int .i64 (n : Int)) := by rw [cell_of_row w2 _ 1 _ _ _ HB2.out]; rfl
  have hl2 : w.heap.size < w2.heap.size := by omega
  have hne : ¬ w.heap.size = w1.heap.size := by omega
  have hk' : ((Pg.new 2).setLink tree).kind = 2 := rfl
  have hi' : ((Pg.new 2).setLink tree).items.length = 0 := rfl
  go_wp2_with fail
  have HPA : Hid (PgAt w2.drew w1.heap.size ((Pg.new 2).setLink tree)) := HP2.out.kept (Kept.drew (fun _ => False) w2) id
  have HGV : Hid (growV w1.heap.size ((Pg.new 2).setLink tree).kind ((Pg.new 2).setLink tree).items.length 1 = .slice (some ⟨w1.heap.size, 4, none⟩) 8 124) := rfl
  have HPO : Hid ((Pg.new 2).setLink tree).Ok := HP2.out.ok
  have HOV : Hid (over (((Pg.new 2).setLink tree).grown 1).bytes 4 (bytesOf 8 n) = (rootPg tree n).bytes) := HPO.out.push_over (bytesOf 8 n) (by rw [bytesOf_len]; rfl) (by show (0 + 1) * 8 ≤ 124; omega)
  have HL : Hid ((((Pg.new 2).setLink tree).grown 1).bytes.length = 128) := (HPO.out.grown 1 (by show (0 + 1) * 8 ≤ 124; omega) (by show 0 + 1 ≤ 124; omega)).len
  clear hk' hi'
  go_region_held3 (fun w' => w'.cell? ⟨w.heap.size, 1, none⟩ = some (.int .i64 (n : Int))) (go_keep) (first
    | (go_at_call 133; refine (grow_any _ _ _ HPA.out 1 (by show (0 + 1) * 8 ≤ 124; omega) (by show 0 + 1 ≤ 124; omega) (by show 1 ≤ 1 * 8; omega)).mono ?_; rintro r w3 ⟨rfl, hp3, hk3⟩; rw [HGV.out]; have HP3 : Hid (PgAt w3 w1.heap.size (((Pg.new 2).setLink tree).grown 1)) := hp3; have HK3 : Hid (Kept (fun i => i = w1.heap.size) w2.drew w3) := hk3; have x3 : w3.cell? ⟨w.heap.size, 1, none⟩ = some (.int .i64 (n : Int)) := (hk3.cell (a := ⟨w.heap.size, 1, none⟩) hl2 hne).trans x1; clear hp3 hk3)
    | (go_at_call 138; refine (setNumber_any _ _ _ _ HP3.out.bs 4 8 124 (by rw [HL.out]; omega) (by omega) n hn).mono ?_; rintro r w4 ⟨rfl, hb4, hk4⟩; rw [HOV.out] at hb4; have HP4 : Hid (PgAt w4 w1.heap.size (rootPg tree n)) := ⟨hb4, rootPg_ok ht⟩; have HK4 : Hid (Kept (fun i => i = w1.heap.size) w3 w4) := hk4; have x4 : w4.cell? ⟨w.heap.size, 1, none⟩ = some (.int .i64 (n : Int)) := (hk4.cell (a := ⟨w.heap.size, 1, none⟩) (Nat.lt_of_lt_of_le hl2 HK3.out.size) hne).trans x3; clear hb4 hk4))
  have HOV4 : Hid (BlkOk (pgV (rootPg tree n))) := pgV_ok (rootPg_ok ht)
  have hrP : (loadP (.pointer (some ⟨w1.heap.size, 0, none⟩))).run Tryz.prog w4 = .ok (.agg (pgV (rootPg tree n)).toArray) w4 := run_loadP _ _ _ _ (range_of_block HP4.out.bs.at_) HOV4.out.1
  have HKW4 : Hid (Kept (fun i => w.heap.size ≤ i) w w4) := ((((HKW.out.mono (fun _ hf => hf.elim)).trans HK2.out (fun j hj => .inl (by omega))).trans (Kept.drew (fun _ => False) w2) (fun _ hf => hf.elim)).trans HK3.out (fun j hj => .inl (by omega))).trans HK4.out (fun j hj => .inl (by omega))
  have HCW : Hid (Cw w4 bc bd S T D C) := HH.out.kept HKW4.out (fun j hj hjj => by have := HSL.out j hj; omega) (fun j hj hjj => by have := HTL.out j hj; omega)
  go_wp2_with (go_at_call 135; refine (cwrite_any _ bc bd S T D C HCW.out 1 _ HOV4.out hfew).mono ?_; rintro r w5 ⟨rfl, ⟨T5, hc5, hT5⟩, hk5⟩; have HC5 : Hid _ := hc5; have HT5 : Hid _ := hT5; have HK5 : Hid _ := hk5; clear hc5 hT5 hk5)
  go_end0
  have hz4 := HKW4.out.size
  refine ⟨rfl, ⟨T5, HC5.out, fun j hj => (HT5.out j hj).imp id (fun h => by omega)⟩, ?_⟩
  have h1 : Kept T w w4 := Kept.trans (S := T) (S' := fun i => w.heap.size ≤ i) (Kept.refl _ w) HKW4.out (fun j hj => .inr hj)
  exact h1.trans HK5.out (fun _ h => .inl h)
end
end Go.Proofs.YtcoengihaobddaaGreatDoor.prog
namespace Go.Proofs.YtcoengihaobddaaGreatDoor.prog
open Go.ChangeShapes Go.WideShapes Go.ChangeAt Go.RowKit Go.Proofs.YtcoengihaobddaaGreatDoor.disk Go.Proofs.YtcoengihaobddaaGreatDoor.ref
open Go.Proofs.YtcoengihaobddaaGreatDoor.keys (ret_int ret_bool beq_no beq_yes)
set_option linter.unusedVariables false
set_option maxRecDepth 8000

/-- Some writes lie in a row, in a block of T. -/
structure WRows (w : World) (T : Nat → Prop) (a : Option Addr) (ws : List (Nat × List Value)) : Prop where
  ok : ∀ p ∈ ws, BlkOk p.2 ∧ p.1 < 65536
  at_ : ws = [] ∨ ∃ g, a = some ⟨g, 0, none⟩ ∧ T g ∧ g < w.heap.size ∧ ∀ k (hk : k < ws.length), w.rangeAt g (k * 129) (.int .i64 (ws[k].1 : Int) :: ws[k].2)
  few : ws.length ≤ 1000
theorem WRows.kept {w w' : World} {T X : Nat → Prop} {a : Option Addr} {ws : List (Nat × List Value)} (h : WRows w T a ws) (k : Kept X w w') (hn : ∀ i, T i → ¬ X i) : WRows w' T a ws :=
  ⟨h.ok, h.at_.imp id (fun ⟨g, h1, h2, h3, h4⟩ => ⟨g, h1, h2, Nat.lt_of_lt_of_le h3 k.size, fun j hj t v hv => (k.cell (a := ⟨g, j * 129 + t, none⟩) h3 (hn g h2)).trans (h4 j hj t v hv)⟩), h.few⟩
theorem ChgAt.rows {w : World} {bc bd : Nat} {T : Nat → Prop} {C : Ck} {a : Option Addr} {cap : Nat} (h : ChgAt w bc bd T C a cap) (hk : ∀ p ∈ C.ws, p.1 < 65536) : WRows w T a C.ws := by
  refine ⟨fun p hp => ⟨h.ok p hp, hk p hp⟩, ?_, h.few⟩
  rcases Nat.eq_zero_or_pos C.ws.length with h0 | h0
  · exact .inl (List.eq_nil_of_length_eq_zero h0)
  · obtain ⟨g, rfl⟩ := h.rowAt h0
    have hT : T g := (h.own g).2 (.inr rfl)
    exact .inr ⟨g, rfl, hT, h.lt g hT, fun k hk => h.range k hk⟩

theorem wrAll_drop {D : Dk} {ws : List (Nat × List Value)} {k : Nat} (hk : k < ws.length) : wrAll D (ws.drop k) = if D.writes ws[k].1 = true then wrAll (D.write ws[k].1 ws[k].2) (ws.drop (k + 1)) else (false, D) := by
  rw [List.drop_eq_getElem_cons hk, wrAll]
theorem flush_ps {D : Dk} : D.flush.ps.length ≤ D.ps.length := by
  unfold Dk.flush
  split
  · exact Nat.le_refl _
  · simp
theorem write_none {D : Dk} {a : Int} (b : List Value) (h : D.writes a = false) : D.write a b = D := by
  unfold Dk.writes at h
  unfold Dk.write
  rw [if_neg (of_decide_eq_false h)]

set_option maxHeartbeats 2000000 in
theorem settle_any (w : World) (bd : Nat) (S T : Nat → Prop) (D : Dk) (h : Disk w bd S D) (a : Option Addr) (cap : Nat) (ws : List (Nat × List Value)) (hr : WRows w T a ws) (hST : ∀ k, S k → ¬ T k) (hT : ∀ k, T k → k < w.heap.size)
    (hfu : IntOk D.fuse) (hps : D.ps.length ≤ 34359738368) :
    Calls Tryz.prog 85 #[.pointer (some ⟨bd, 0, none⟩), .slice a ws.length cap] w fun e w' => e = .returned (.bool (settleD D ws).1) ∧ Onto w w' bd S (settleD D ws).2 := by
  obtain ⟨Zw, hZw, hzw⟩ : ∃ Zw : List Value, Zw = zeroW ∧ ∀ w, (zeroValue 160).run Tryz.prog w = .ok (.agg Zw.toArray) w := ⟨zeroW, rfl, zero_run Tryz.infoCw⟩
  have HZw : Hid (Zw.length = 129) := by rw [hZw]; exact congrArg (· + 1) zeroB_ok.1
  clear hZw
  have HIw : Hid ((Tryz.prog.info? 160).map (·.size) = some 129) := size_of Tryz.infoCw
  have HI : Hid ((Tryz.prog.info? 131).map (·.size) = some 128) := size_of Tryz.infoBlock
  have HH : Hid (Disk w bd S D) := h
  have HR : Hid _ := hr
  have hfew := hr.few
  clear h hr
  go_enter Tryz.func85, Tryz.ntmps85
  go_wp2
  go_loopw [9] (fun t wr => ∃ (k : Nat) (D1 : Dk), k ≤ ws.length ∧ t = .int .i64 k ∧ wrAll D ws = wrAll D1 (ws.drop k) ∧ Onto w wr bd S D1 ∧ IntOk D1.fuse ∧ D1.ps.length ≤ D.ps.length + k) (fun t _ => ws.length - (intOf t).toNat)
  case atStart => exact ⟨0, D, Nat.zero_le _, rfl, rfl, Onto.refl HH.out, hfu, by omega⟩
  case round =>
    obtain ⟨k, D1, hk, rfl, hwr, honto, hfu1, hps1⟩ := hrel
    have HWR : Hid _ := hwr
    have HO : Hid _ := honto
    obtain ⟨⟨S1, hd1, hS1⟩, hk1⟩ := honto
    have HD1 : Hid (Disk wr bd S1 D1) := hd1
    have HS1 : Hid _ := hS1
    have HK1 : Hid _ := hk1
    have HST1 : Hid (∀ k, S1 k → ¬ T k) := fun j hj hjT => by
      rcases hS1 j hj with h1 | h1
      · exact hST j h1 hjT
      · have := hT j hjT; omega
    have HRW : Hid (WRows wr T a ws) := HR.out.kept hk1 (fun j hj hS => hST j hS hj)
    clear hwr hd1 hS1 hk1
    by_cases hlt : k < ws.length
    · rcases HRW.out.at_ with h0 | ⟨g, rfl, hgT, hgl, hrng⟩
      · rw [h0] at hlt; simp at hlt
      · have HP : Hid (wr.rangeAt g (k * 129) (.int .i64 (ws[k].1 : Int) :: ws[k].2)) := hrng k hlt
        obtain ⟨hpo, hpl⟩ := HRW.out.ok _ (List.getElem_mem hlt)
        have HPO : Hid (BlkOk ws[k].2) := hpo
        have HWD : Hid _ := wrAll_drop (D := D1) hlt
        generalize hq : ws[k] = q at *
        obtain ⟨qi, qb⟩ := q
        clear hq hpo hrng
        simp only at hpl
        have HKA : Hid (Kept (fun _ => False) wr (wr.alloc (.cells (.int .i64 (qi : Int) :: qb).toArray 160))) := Kept.alloc _ _ _
        cases hw1 : D1.writes qi with
        | true =>
          have HW1 : Hid _ := hw1
          go_wp2_with (first
            | (show wpList _ _ _ ({ dst := some 12, op := .load _ _, type := _, pos := _, after := _, guard := _ } :: _) _ _; refine wpList_load_mid rfl 160 (.tmp 11) rfl _ _ rfl (.int .i64 (qi : Int) :: qb) _ HP.out Tryz.underlying160 rfl (by rw [List.length_cons, HPO.out.1]; exact HIw.out) ?_)
            | (show wpList _ _ _ ({ dst := none, op := .store _ (.tmp 6) (.tmp 12), type := _, pos := _, after := _, guard := _ } :: _) _ _; refine wpList_store_new rfl 160 (.tmp 6) (.tmp 12) rfl _ _ (.int .i64 (qi : Int) :: qb) rfl rfl rfl (by rw [List.length_cons, HPO.out.1]; exact HIw.out) (by rw [List.length_cons, HPO.out.1]; simpa using HZw.out) (List.forall_mem_cons.2 ⟨rfl, HPO.out.2⟩) ?_)
            | (show wpList _ _ _ ({ dst := some 17, op := .load _ _, type := _, pos := _, after := _, guard := _ } :: _) _ _; refine wpList_load_mid rfl 131 (.tmp 16) rfl _ _ rfl qb _ (range_of_block1 (heap_alloc_new wr _)) Tryz.underlying131 rfl (by rw [HPO.out.1]; exact HI.out) ?_)
            | (go_at_call 146; refine (write_any _ bd S1 D1 (HD1.out.kept HKA.out (fun _ _ hf => hf)) (qi : Int) (by constructor <;> omega) qb HPO.out hfu1 (by omega)).mono ?_; rintro e w2 ⟨rfl, ⟨S2, hd2, hS2⟩, hk2⟩; rw [HW1.out]; have HD2 : Hid (Disk w2 bd S2 (D1.write qi qb)) := hd2; have HS2 : Hid _ := hS2; have HK2 : Hid _ := hk2; clear hd2 hS2 hk2))
          go_roundw
          case rel =>
            refine ⟨k + 1, D1.write qi qb, by omega, by go_num, by rw [HWR.out, HWD.out, if_pos HW1.out], ?_, write_fuse _ _ hfu1, by have := write_ps (D := D1) qi qb; omega⟩
            exact Onto.trans (D1 := D1) HS1.out HK1.out (Onto.kept0 HKA.out ⟨⟨S2, HD2.out, HS2.out⟩, HK2.out⟩)
          case measure => simp [intOf]; omega
        | false =>
          have HW1 : Hid _ := hw1
          go_wp2_with (first
            | (show wpList _ _ _ ({ dst := some 12, op := .load _ _, type := _, pos := _, after := _, guard := _ } :: _) _ _; refine wpList_load_mid rfl 160 (.tmp 11) rfl _ _ rfl (.int .i64 (qi : Int) :: qb) _ HP.out Tryz.underlying160 rfl (by rw [List.length_cons, HPO.out.1]; exact HIw.out) ?_)
            | (show wpList _ _ _ ({ dst := none, op := .store _ (.tmp 6) (.tmp 12), type := _, pos := _, after := _, guard := _ } :: _) _ _; refine wpList_store_new rfl 160 (.tmp 6) (.tmp 12) rfl _ _ (.int .i64 (qi : Int) :: qb) rfl rfl rfl (by rw [List.length_cons, HPO.out.1]; exact HIw.out) (by rw [List.length_cons, HPO.out.1]; simpa using HZw.out) (List.forall_mem_cons.2 ⟨rfl, HPO.out.2⟩) ?_)
            | (show wpList _ _ _ ({ dst := some 17, op := .load _ _, type := _, pos := _, after := _, guard := _ } :: _) _ _; refine wpList_load_mid rfl 131 (.tmp 16) rfl _ _ rfl qb _ (range_of_block1 (heap_alloc_new wr _)) Tryz.underlying131 rfl (by rw [HPO.out.1]; exact HI.out) ?_)
            | (go_at_call 146; refine (write_any _ bd S1 D1 (HD1.out.kept HKA.out (fun _ _ hf => hf)) (qi : Int) (by constructor <;> omega) qb HPO.out hfu1 (by omega)).mono ?_; rintro e w2 ⟨rfl, ⟨S2, hd2, hS2⟩, hk2⟩; rw [HW1.out]; have HD2 : Hid (Disk w2 bd S2 (D1.write qi qb)) := hd2; have HS2 : Hid _ := hS2; have HK2 : Hid _ := hk2; clear hd2 hS2 hk2))
          go_ret
          have e0 : wrAll D ws = (false, D1) := by rw [HWR.out, HWD.out, if_neg (by rw [HW1.out]; simp)]
          have e1 : settleD D ws = (false, D1) := by
            unfold settleD endHd
            rw [e0]; simp
          rw [e1]
          have hd2 := HD2.out
          rw [write_none qb HW1.out] at hd2
          exact ⟨rfl, Onto.trans (D1 := D1) HS1.out HK1.out (Onto.kept0 HKA.out ⟨⟨S2, hd2, HS2.out⟩, HK2.out⟩)⟩
    · have HE : Hid (wrAll D ws = (true, D1)) := by show _ = _; rw [HWR.out, List.drop_of_length_le (by omega)]; rfl
      cases hz : (D1.fuse == 0) with
      | false =>
        have HZ : Hid _ := hz
        go_wp2_with (first
          | (go_at_call 40; refine (flush_any _ bd S1 D1 HD1.out hfu1).mono ?_; rintro e w2 ⟨rfl, ⟨S2, hd2, hS2⟩, hk2⟩; rw [HZ.out]; have HD2 : Hid (Disk w2 bd S2 D1.flush) := hd2; have HS2 : Hid _ := hS2; have HK2 : Hid _ := hk2; clear hd2 hS2 hk2)
          | (go_at_call 131; refine (new_any _ 1 (by omega)).mono ?_; rintro e w3 ⟨rfl, hk3⟩; have HK3 : Hid _ := hk3; clear hk3)
          | (go_at_call 147; refine (setHead_any _ bd S2 D1.flush (HD2.out.kept HK3.out (fun _ _ hf => hf)) (pgV (Pg.new 1)) (pgV_ok (Pg.new_ok 1 (by omega))) (flush_fuse hfu1) (by have := flush_ps (D := D1); omega)).mono ?_; rintro e w4 ⟨rfl, hon4⟩; have HO4 : Hid _ := hon4; clear hon4))
        go_ret
        have e1 : settleD D ws = setHd D1.flush noHead := by
          have hz2 : D1.fuse ≠ 0 := by have := HZ.out; simpa using this
          unfold settleD endHd
          rw [HE.out, if_pos ⟨rfl, hz2⟩]
        rw [e1]
        exact ⟨by simp [noHead], Onto.trans (D1 := D1) HS1.out HK1.out (Onto.trans (D1 := D1) (fun k hk => .inl (HS2.out k hk)) HK2.out (Onto.kept0 HK3.out HO4.out))⟩
      | true =>
        have HZ : Hid _ := hz
        go_wp2_with (go_at_call 40; refine (flush_any _ bd S1 D1 HD1.out hfu1).mono ?_; rintro e w2 ⟨rfl, ⟨S2, hd2, hS2⟩, hk2⟩; rw [HZ.out]; have HD2 : Hid (Disk w2 bd S2 D1.flush) := hd2; have HS2 : Hid _ := hS2; have HK2 : Hid _ := hk2; clear hd2 hS2 hk2)
        go_ret
        have hz2 : D1.fuse = 0 := by have := HZ.out; simpa using this
        have e1 : settleD D ws = (false, D1) := by
          unfold settleD endHd
          rw [HE.out, if_neg (by simp [hz2])]
        have e2 : D1.flush = D1 := if_pos hz2
        rw [e1]
        have hd2 := HD2.out
        rw [e2] at hd2
        exact ⟨rfl, Onto.trans (D1 := D1) HS1.out HK1.out ⟨⟨S2, hd2, fun k hk => .inl (HS2.out k hk)⟩, HK2.out⟩⟩
end Go.Proofs.YtcoengihaobddaaGreatDoor.prog
namespace Go.Proofs.YtcoengihaobddaaGreatDoor.prog
open Go.ChangeShapes Go.WideShapes Go.ChangeAt Go.RowKit Go.Proofs.YtcoengihaobddaaGreatDoor.disk Go.Proofs.YtcoengihaobddaaGreatDoor.ref
open Go.Proofs.YtcoengihaobddaaGreatDoor.keys (ret_int ret_bool beq_no beq_yes)
set_option linter.unusedVariables false
set_option maxRecDepth 8000

theorem headPg_ok {ws : List (Nat × List Value)} (hl : ws.length ≤ 62) : (headPg ws).Ok where
  kind := by simp [headPg]
  link := by simp [headPg]
  wide := fun i hi => by
    obtain ⟨p, _, rfl⟩ := List.mem_map.1 hi
    rw [bytesOf_len]; rfl
  fits := by simp [headPg, width]; omega
  few := by simp [headPg]; omega
theorem headPg_snoc (ws : List (Nat × List Value)) (k : Nat) (hk : k < ws.length) : (headPg (ws.take k)).push (bytesOf 2 ws[k].1) = headPg (ws.take (k + 1)) := by
  unfold headPg Pg.push
  rw [List.take_succ_eq_append_getElem hk, List.map_append]; rfl
theorem logged_len (ws : List (Nat × List Value)) : (logged ws).length = ws.length := by simp [logged]
theorem logged_at (ws : List (Nat × List Value)) (k : Nat) (hk : k < ws.length) : (logged ws)[k]'(by rw [logged_len]; exact hk) = (3 + k, ws[k].2) := by simp [logged]

theorem note_onto {w W wr w5 : World} {bd b5 : Nat} {S S1 : Nat → Prop} {D : Dk} (hSL : ∀ k, S k → k < w.heap.size) (hb : w.heap.size ≤ b5) (hsz : W.heap.size = b5 + 1) (k0 : Kept (fun _ => False) w W) (k1 : Kept (fun j => S j ∨ j = b5) W wr) (hS : ∀ j, S1 j → S j ∨ W.heap.size ≤ j) (h : Onto wr w5 bd S1 D) : Onto w w5 bd S D := by
  refine Onto.trans (D1 := D) (S1 := S1) (fun j hj => ?_) ((k0.mono (fun _ hf => hf.elim)).trans k1 (fun j hj => ?_)) h
  · rcases hS j hj with h1 | h1
    · exact .inl h1
    · right; omega
  · rcases hj with h1 | h1
    · exact .inl h1
    · right; omega

section
attribute [local go_sem ↓] loadP_eq
set_option maxHeartbeats 2000000 in
theorem note_any (w : World) (bd : Nat) (S T : Nat → Prop) (D : Dk) (h : Disk w bd S D) (a : Option Addr) (cap : Nat) (ws : List (Nat × List Value)) (hr : WRows w T a ws) (hST : ∀ k, S k → ¬ T k) (hT : ∀ k, T k → k < w.heap.size)
    (hfu : IntOk D.fuse) (hps : D.ps.length ≤ 34359738368) (hlen : ws.length ≤ 18) :
    Calls Tryz.prog 179 #[.pointer (some ⟨bd, 0, none⟩), .slice a ws.length cap] w fun e w' => e = .returned (.bool (noteD D ws).1) ∧ Onto w w' bd S (noteD D ws).2 := by
  obtain ⟨Zw, hZw, hzw⟩ : ∃ Zw : List Value, Zw = zeroW ∧ ∀ w, (zeroValue 160).run Tryz.prog w = .ok (.agg Zw.toArray) w := ⟨zeroW, rfl, zero_run Tryz.infoCw⟩
  have HZw : Hid (Zw.length = 129) := by rw [hZw]; exact congrArg (· + 1) zeroB_ok.1
  clear hZw
  obtain ⟨Zb, hZb, hz⟩ : ∃ Zb : List Value, Zb = zeroB ∧ ∀ w, (zeroValue 154).run Tryz.prog w = .ok (.agg Zb.toArray) w := ⟨zeroB, rfl, zero_run Tryz.infoPage⟩
  have HZb : Hid (BlkOk Zb) := by rw [hZb]; exact zeroB_ok
  clear hZb
  have HIw : Hid ((Tryz.prog.info? 160).map (·.size) = some 129) := size_of Tryz.infoCw
  have HI : Hid ((Tryz.prog.info? 131).map (·.size) = some 128) := size_of Tryz.infoBlock
  have HIp : Hid ((Tryz.prog.info? 154).map (·.size) = some 128) := size_of Tryz.infoPage
  have HN1 : Hid (BlkOk (pgV (Pg.new 1))) := pgV_ok (Pg.new_ok 1 (by omega))
  have HH : Hid (Disk w bd S D) := h
  have HR : Hid _ := hr
  have HSL : Hid (∀ k, S k → k < w.heap.size) := h.lt
  clear h hr
  go_enter Tryz.func179, Tryz.ntmps179
  go_wp2_with (first
    | (go_at_call 131; refine (new_any _ 1 (by omega)).mono ?_; rintro e w1 ⟨rfl, hk1⟩; have HK1 : Hid _ := hk1; clear hk1)
    | (show wpList _ _ _ ({ dst := none, op := .store _ (.tmp 5) (.tmp 8), type := _, pos := _, after := _, guard := _ } :: _) _ _; refine wpList_store_new rfl 154 (.tmp 5) (.tmp 8) rfl _ _ (pgV (Pg.new 1)) (by simp) rfl rfl (by rw [HN1.out.1]; exact HIp.out) (by rw [List.size_toArray, HZb.out.1, HN1.out.1]) HN1.out.2 ?_))
  have HP0 : Hid (PgAt (w1.alloc (.cells (pgV (Pg.new 1)).toArray 154)) w1.heap.size (headPg (ws.take 0))) := ⟨⟨heap_alloc_new w1 _⟩, Pg.new_ok 1 (by omega)⟩
  have HKK : Hid (Kept (fun _ => False) w (w1.alloc (.cells (pgV (Pg.new 1)).toArray 154))) := HK1.out.trans (Kept.alloc _ _ _) (fun _ h => .inl h)
  have hsz : (w1.alloc (.cells (pgV (Pg.new 1)).toArray 154)).heap.size = w1.heap.size + 1 := by simp
  have hs1 := HK1.out.size
  generalize (w1.alloc (.cells (pgV (Pg.new 1)).toArray 154)) = W at *
  generalize w1.heap.size = b5 at *
  go_loopw [11] (fun t wr => ∃ (k : Nat) (D1 : Dk) (S1 : Nat → Prop), k ≤ ws.length ∧ t = .int .i64 k ∧ wrAll D (logged ws) = wrAll D1 ((logged ws).drop k) ∧ Disk wr bd S1 D1 ∧ (∀ j, S1 j → S j ∨ W.heap.size ≤ j) ∧ Kept (fun j => S j ∨ j = b5) W wr ∧ PgAt wr b5 (headPg (ws.take k)) ∧ IntOk D1.fuse ∧ D1.ps.length ≤ D.ps.length + k) (fun t _ => ws.length - (intOf t).toNat)
  case atStart => exact ⟨0, D, S, Nat.zero_le _, rfl, rfl, HH.out.kept HKK.out (fun _ _ hf => hf), fun _ h => .inl h, Kept.refl _ _, HP0.out, hfu, by omega⟩
  case round =>
    obtain ⟨k, D1, S1, hk, rfl, hwr, hd1, hS1, hk1, hpg, hfu1, hps1⟩ := hrel
    have HWR : Hid _ := hwr
    have HD1 : Hid (Disk wr bd S1 D1) := hd1
    have HS1 : Hid _ := hS1
    have HK2 : Hid _ := hk1
    have HPG : Hid _ := hpg
    have hpl0 : (headPg (ws.take k)).items.length = k := by simp [headPg]; omega
    have HSB : Hid (¬ S1 b5) := fun hb => by
      rcases HS1.out b5 hb with h1 | h1
      · have := HSL.out b5 h1; omega
      · omega
    have HRW : Hid (WRows wr T a ws) := (HR.out.kept HKK.out (fun _ _ hf => hf)).kept hk1 (fun j hj hS => by
      rcases hS with hS | hS
      · exact hST j hS hj
      · have := hT j hj; omega)
    clear hwr hd1 hS1 hk1 hpg
    by_cases hlt : k < ws.length
    · rcases HRW.out.at_ with h0 | ⟨g, rfl, hgT, hgl, hrng⟩
      · rw [h0] at hlt; simp at hlt
      · have HP : Hid (wr.rangeAt g (k * 129) (.int .i64 (ws[k].1 : Int) :: ws[k].2)) := hrng k hlt
        obtain ⟨hpo, hpl⟩ := HRW.out.ok _ (List.getElem_mem hlt)
        have HPO : Hid (BlkOk ws[k].2) := hpo
        have HWD : Hid (wrAll D1 ((logged ws).drop k) = if D1.writes (3 + (k : Int)) = true then wrAll (D1.write (3 + (k : Int)) ws[k].2) ((logged ws).drop (k + 1)) else (false, D1)) := by
          have := wrAll_drop (D := D1) (ws := logged ws) (k := k) (by rw [logged_len]; exact hlt)
          rw [logged_at ws k hlt] at this
          have e3 : ((3 + k : Nat) : Int) = 3 + (k : Int) := by omega
          simp only [e3] at this
          exact this
        have HSN : Hid _ := headPg_snoc ws k hlt
        generalize hq : ws[k] = q at *
        obtain ⟨qi, qb⟩ := q
        clear hq hpo hrng
        simp only at hpl
        have HKA : Hid (Kept (fun _ => False) wr (wr.alloc (.cells (.int .i64 (qi : Int) :: qb).toArray 160))) := Kept.alloc _ _ _
        go_wp2_with (first
          | (show wpList _ _ _ ({ dst := some 15, op := .load _ _, type := _, pos := _, after := _, guard := _ } :: _) _ _; refine wpList_load_mid rfl 160 (.tmp 14) rfl _ _ rfl (.int .i64 (qi : Int) :: qb) _ HP.out Tryz.underlying160 rfl (by rw [List.length_cons, HPO.out.1]; exact HIw.out) ?_)
          | (show wpList _ _ _ ({ dst := none, op := .store _ (.tmp 7) (.tmp 15), type := _, pos := _, after := _, guard := _ } :: _) _ _; refine wpList_store_new rfl 160 (.tmp 7) (.tmp 15) rfl _ _ (.int .i64 (qi : Int) :: qb) rfl rfl rfl (by rw [List.length_cons, HPO.out.1]; exact HIw.out) (by rw [List.length_cons, HPO.out.1]; simpa using HZw.out) (List.forall_mem_cons.2 ⟨rfl, HPO.out.2⟩) ?_))
        have hcw : (wr.alloc (.cells (.int .i64 (qi : Int) :: qb).toArray 160)).cell? ⟨wr.heap.size, 0, none⟩ = some (.int .i64 (qi : Int)) := by simp
        have HP1 : Hid (PgAt (wr.alloc (.cells (.int .i64 (qi : Int) :: qb).toArray 160)) b5 (headPg (ws.take k))) := HPG.out.kept HKA.out (fun hf => hf)
        have HB1 : Hid ((wr.alloc (.cells (.int .i64 (qi : Int) :: qb).toArray 160)).heap[wr.heap.size]? = some (.cells (.int .i64 (qi : Int) :: qb).toArray 160 (0, 0))) := heap_alloc_new wr _
        have hb5 := HPG.out.bs.lt
        have hszw : (wr.alloc (.cells (.int .i64 (qi : Int) :: qb).toArray 160)).heap.size = wr.heap.size + 1 := by simp
        have HGV : Hid (growV b5 (headPg (ws.take k)).kind (headPg (ws.take k)).items.length 1 = .slice (some ⟨b5, 4 + k * 2, none⟩) 2 (124 - k * 2)) := by show growV b5 (headPg (ws.take k)).kind (headPg (ws.take k)).items.length 1 = _; rw [hpl0]; rfl
        have hpw : (headPg (ws.take k)).items.length * width (headPg (ws.take k)).kind = k * 2 := by rw [hpl0]; rfl
        generalize (wr.alloc (.cells (.int .i64 (qi : Int) :: qb).toArray 160)) = W2 at *
        go_region_held3 (fun w' => w'.cell? ⟨wr.heap.size, 0, none⟩ = some (.int .i64 (qi : Int))) (go_keep) ((first
          | (go_at_call 133; refine (grow_any _ b5 _ (by exact HP1.out.kept (Kept.drew (fun _ => False) W2) (fun hf => hf)) 1 (by rw [hpl0]; show (k + 1) * 2 ≤ 124; omega) (by rw [hpl0]; omega) (by show 1 ≤ 1 * 2; omega)).mono ?_; rintro e w3 ⟨rfl, hp3, hk3⟩; rw [HGV.out]; have HP3 : Hid _ := hp3; have HK3 : Hid (Kept (fun i => i = b5) W2.drew w3) := hk3; have hcw3 : w3.cell? ⟨wr.heap.size, 0, none⟩ = some (.int .i64 (qi : Int)) := (hk3.cell (a := ⟨wr.heap.size, 0, none⟩) (by show wr.heap.size < W2.drew.heap.size; have : W2.drew.heap.size = W2.heap.size := rfl; omega) (by show ¬ wr.heap.size = b5; omega)).trans hcw; clear hp3 hk3)
          | (go_at_call 138; refine (setNumber_any _ b5 _ _ HP3.out.bs (4 + k * 2) 2 (124 - k * 2) (by rw [HP3.out.ok.len]; omega) (by omega) qi (by omega)).mono ?_; rintro e w4 ⟨rfl, hp4, hk4⟩; have HP4 : Hid _ := hp4; have HK4 : Hid _ := hk4; have hcw4 : w4.cell? ⟨wr.heap.size, 0, none⟩ = some (.int .i64 (qi : Int)) := (hk4.cell (a := ⟨wr.heap.size, 0, none⟩) (by show wr.heap.size < w3.heap.size; have h1 := HK3.out.size; have : W2.drew.heap.size = W2.heap.size := rfl; omega) (by show ¬ wr.heap.size = b5; omega)).trans hcw3; clear hp4 hk4)))
        have hk24 : Kept (fun i => i = b5) W2 w4 := ((Kept.drew _ W2).trans HK3.out (fun _ h => .inl h)).trans HK4.out (fun _ h => .inl h)
        have HP5 : Hid (PgAt w4 b5 (headPg (ws.take (k + 1)))) := by
          have h1 := HP4.out
          have hov := HP1.out.ok.push_over (bytesOf 2 qi) (by rw [bytesOf_len]; rfl) (by rw [hpl0]; show (k + 1) * 2 ≤ 124; omega)
          rw [hpw] at hov
          rw [hov, HSN.out] at h1
          exact ⟨h1, headPg_ok (by simp; omega)⟩
        have HB4 : Hid (w4.heap[wr.heap.size]? = some (.cells (.int .i64 (qi : Int) :: qb).toArray 160 (0, 0))) := (hk24.block wr.heap.size (by omega) (by show ¬ wr.heap.size = b5; omega)).trans HB1.out
        have HD4 : Hid (Disk w4 bd S1 D1) := (HD1.out.kept HKA.out (fun _ _ hf => hf)).kept hk24 (fun j hj e => HSB.out (by rw [← e]; exact hj))
        have hkW4 : Kept (fun j => S j ∨ j = b5) W w4 := (HK2.out.trans HKA.out (fun _ hf => hf.elim)).trans hk24 (fun j hj => .inl (.inr hj))
        have HKW4 : Hid _ := hkW4
        clear hcw hk24 hkW4
        cases hw1 : D1.writes (3 + (k : Int)) with
        | true =>
          have HW1 : Hid _ := hw1
          clear hw1
          go_wp2_with (first
            | (show wpList _ _ _ ({ dst := some 24, op := .load _ _, type := _, pos := _, after := _, guard := _ } :: _) _ _; refine wpList_load_mid rfl 131 (.tmp 23) rfl _ _ rfl qb _ (range_of_block1 HB4.out) Tryz.underlying131 rfl (by rw [HPO.out.1]; exact HI.out) ?_)
            | (go_at_call 146; refine (write_any _ bd S1 D1 HD4.out (3 + (k : Int)) (by constructor <;> omega) qb HPO.out hfu1 (by omega)).mono ?_; rintro e w5 ⟨rfl, ⟨S2, hd2, hS2⟩, hk2⟩; rw [HW1.out]; have HD2 : Hid (Disk w5 bd S2 (D1.write (3 + (k : Int)) qb)) := hd2; have HS2 : Hid _ := hS2; have HK5 : Hid _ := hk2; clear hd2 hS2 hk2))
          go_roundw
          case rel =>
            refine ⟨k + 1, D1.write (3 + (k : Int)) qb, S2, by omega, by go_num, by rw [HWR.out, HWD.out, if_pos HW1.out], HD2.out, fun j hj => ?_, HKW4.out.trans HK5.out (fun j hj => ?_), HP5.out.kept HK5.out HSB.out, write_fuse _ _ hfu1, by have := write_ps (D := D1) (3 + (k : Int)) qb; omega⟩
            · rcases HS2.out j hj with h1 | h1
              · exact HS1.out j h1
              · right; have := HKW4.out.size; omega
            · rcases HS1.out j hj with h1 | h1
              · exact .inl (.inl h1)
              · exact .inr h1
          case measure => simp [intOf]; omega
        | false =>
          have HW1 : Hid _ := hw1
          clear hw1
          go_wp2_with (first
            | (show wpList _ _ _ ({ dst := some 24, op := .load _ _, type := _, pos := _, after := _, guard := _ } :: _) _ _; refine wpList_load_mid rfl 131 (.tmp 23) rfl _ _ rfl qb _ (range_of_block1 HB4.out) Tryz.underlying131 rfl (by rw [HPO.out.1]; exact HI.out) ?_)
            | (go_at_call 146; refine (write_any _ bd S1 D1 HD4.out (3 + (k : Int)) (by constructor <;> omega) qb HPO.out hfu1 (by omega)).mono ?_; rintro e w5 ⟨rfl, ⟨S2, hd2, hS2⟩, hk2⟩; rw [HW1.out]; have HD2 : Hid (Disk w5 bd S2 (D1.write (3 + (k : Int)) qb)) := hd2; have HS2 : Hid _ := hS2; have HK5 : Hid _ := hk2; clear hd2 hS2 hk2))
          go_ret
          have e0 : wrAll D (logged ws) = (false, D1) := by rw [HWR.out, HWD.out, if_neg (by rw [HW1.out]; simp)]
          have e1 : noteD D ws = (false, D1) := by
            unfold noteD endHd
            rw [e0]; simp
          rw [e1]
          have hd2 := HD2.out
          rw [write_none qb HW1.out] at hd2
          exact ⟨rfl, note_onto HSL.out hs1 hsz HKK.out HKW4.out HS1.out ⟨⟨S2, hd2, HS2.out⟩, HK5.out⟩⟩
    · have HE : Hid (wrAll D (logged ws) = (true, D1)) := by show _ = _; rw [HWR.out, List.drop_of_length_le (by rw [logged_len]; omega)]; rfl
      have HPE : Hid (PgAt wr b5 (headPg ws)) := by
        have := HPG.out
        rw [List.take_of_length_le (by omega)] at this
        exact this
      have HPV : Hid (BlkOk (pgV (headPg ws))) := pgV_ok (headPg_ok (by omega))
      cases hz2 : (D1.fuse == 0) with
      | false =>
        have HZ : Hid _ := hz2
        clear hz2
        go_wp2_with (first
          | (go_at_call 40; refine (flush_any _ bd S1 D1 HD1.out hfu1).mono ?_; rintro e w2 ⟨rfl, ⟨S2, hd2, hS2⟩, hk2⟩; rw [HZ.out]; have HD2 : Hid (Disk w2 bd S2 D1.flush) := hd2; have HS2 : Hid _ := hS2; have HK5 : Hid _ := hk2; have hrP : (loadP (.pointer (some ⟨b5, 0, none⟩))).run Tryz.prog w2 = .ok (.agg (pgV (headPg ws)).toArray) w2 := run_loadP _ _ _ _ (range_of_block (HPE.out.kept hk2 HSB.out).bs.at_) HPV.out.1; clear hd2 hS2 hk2)
          | (go_at_call 147; refine (setHead_any _ bd S2 D1.flush HD2.out (pgV (headPg ws)) HPV.out (flush_fuse hfu1) (by have := flush_ps (D := D1); omega)).mono ?_; rintro e w4 ⟨rfl, hon4⟩; have HO4 : Hid _ := hon4; clear hon4))
        go_ret
        have e1 : noteD D ws = setHd D1.flush (pgV (headPg ws)) := by
          have hz2 : D1.fuse ≠ 0 := by have := HZ.out; simpa using this
          unfold noteD endHd
          rw [HE.out, if_pos ⟨rfl, hz2⟩]
        rw [e1]
        exact ⟨by simp, note_onto HSL.out hs1 hsz HKK.out HK2.out HS1.out (Onto.trans (D1 := D1) (fun k hk => .inl (HS2.out k hk)) HK5.out HO4.out)⟩
      | true =>
        have HZ : Hid _ := hz2
        clear hz2
        go_wp2_with (go_at_call 40; refine (flush_any _ bd S1 D1 HD1.out hfu1).mono ?_; rintro e w2 ⟨rfl, ⟨S2, hd2, hS2⟩, hk2⟩; rw [HZ.out]; have HD2 : Hid (Disk w2 bd S2 D1.flush) := hd2; have HS2 : Hid _ := hS2; have HK5 : Hid _ := hk2; clear hd2 hS2 hk2)
        go_ret
        have hz2 : D1.fuse = 0 := by have := HZ.out; simpa using this
        have e1 : noteD D ws = (false, D1) := by
          unfold noteD endHd
          rw [HE.out, if_neg (by simp [hz2])]
        have e2 : D1.flush = D1 := if_pos hz2
        rw [e1]
        have hd2 := HD2.out
        rw [e2] at hd2
        exact ⟨rfl, note_onto HSL.out hs1 hsz HKK.out HK2.out HS1.out ⟨⟨S2, hd2, fun j hj => .inl (HS2.out j hj)⟩, HK5.out⟩⟩
end
end Go.Proofs.YtcoengihaobddaaGreatDoor.prog
namespace Go.Proofs.YtcoengihaobddaaGreatDoor.prog
open Go.ChangeShapes Go.WideShapes Go.ChangeAt Go.RowKit Go.Proofs.YtcoengihaobddaaGreatDoor.disk Go.Proofs.YtcoengihaobddaaGreatDoor.ref
open Go.Proofs.YtcoengihaobddaaGreatDoor.keys (ret_int ret_bool beq_no beq_yes)
set_option linter.unusedVariables false
set_option maxRecDepth 8000

theorem wrAll_fuse : ∀ (ws : List (Nat × List Value)) (D : Dk), IntOk D.fuse → IntOk (wrAll D ws).2.fuse
  | [], D, h => h
  | p :: ws, D, h => by
    unfold wrAll
    split
    · exact wrAll_fuse ws _ (write_fuse _ _ h)
    · exact h
theorem wrAll_ps : ∀ (ws : List (Nat × List Value)) (D : Dk), (wrAll D ws).2.ps.length ≤ D.ps.length + ws.length
  | [], D => Nat.le_refl _
  | p :: ws, D => by
    unfold wrAll
    split
    · have h1 := wrAll_ps ws (D.write p.1 p.2)
      have h2 := write_ps (D := D) p.1 p.2
      simp only [List.length_cons]; omega
    · simp only [List.length_cons]; omega
theorem setHd_fuse {D : Dk} {b : List Value} (h : IntOk D.fuse) : IntOk (setHd D b).2.fuse := by
  unfold setHd
  split
  · exact flush_fuse (write_fuse _ _ h)
  · exact h
theorem setHd_ps {D : Dk} {b : List Value} : (setHd D b).2.ps.length ≤ D.ps.length + 1 := by
  unfold setHd
  split
  · have h1 := flush_ps (D := D.write 0 b)
    have h2 := write_ps (D := D) 0 b
    show (D.write 0 b).flush.ps.length ≤ _
    omega
  · show D.ps.length ≤ _
    omega
theorem endHd_fuse {r : Bool × Dk} {b : List Value} (h : IntOk r.2.fuse) : IntOk (endHd r b).2.fuse := by
  unfold endHd
  split
  · exact setHd_fuse (flush_fuse h)
  · exact h
theorem endHd_ps {r : Bool × Dk} {b : List Value} : (endHd r b).2.ps.length ≤ r.2.ps.length + 1 := by
  unfold endHd
  split
  · have h1 := setHd_ps (D := r.2.flush) (b := b)
    have h2 := flush_ps (D := r.2)
    omega
  · show r.2.ps.length ≤ _
    omega
theorem noteD_fuse {D : Dk} {ws : List (Nat × List Value)} (h : IntOk D.fuse) : IntOk (noteD D ws).2.fuse := endHd_fuse (wrAll_fuse _ _ h)
theorem noteD_ps {D : Dk} {ws : List (Nat × List Value)} : (noteD D ws).2.ps.length ≤ D.ps.length + ws.length + 1 := by
  have h1 := endHd_ps (r := wrAll D (logged ws)) (b := pgV (headPg ws))
  have h2 := wrAll_ps (logged ws) D
  rw [logged_len] at h2
  unfold noteD
  omega

set_option maxHeartbeats 2000000 in
theorem commit_live (w : World) (bc bd : Nat) (S T : Nat → Prop) (D : Dk) (C : Ck) (h : Cw w bc bd S T D C) (hkey : ∀ p ∈ C.ws, p.1 < 65536) (hlen : C.ws.length ≤ 18) (hfu : IntOk D.fuse) (hps : D.ps.length ≤ 17179869184) (hn : (noteD D C.ws).1 = true) :
    Calls Tryz.prog 140 #[.pointer (some ⟨bc, 0, none⟩)] w fun e w' => e = .returned (.bool (commitD D C.ws).1) ∧ Onto w w' bd S (commitD D C.ws).2 := by
  have HH : Hid _ := h
  obtain ⟨a, cap, hc⟩ := h.chg
  have HC : Hid _ := hc
  have hc0 := hc.c0
  have hc1 := hc.c1
  have HR : Hid (WRows w T a C.ws) := hc.rows hkey
  have HT : Hid (∀ k, T k → k < w.heap.size) := hc.lt
  have hbT := hc.bcT
  have hbc := hc.lt bc hbT
  have HA : Hid (∀ k, S k → ¬ T k) := h.apart
  clear h hc
  · have HN : Hid _ := hn
    clear hn
    go_enter Tryz.func140, Tryz.ntmps140
    go_wp2
    go_region_held3 (fun w' => w'.cell? ⟨bc, 0, none⟩ = some (.pointer (some ⟨bd, 0, none⟩)) ∧ w'.cell? ⟨bc, 1, none⟩ = some (.slice a C.ws.length cap)) (go_keep) ((first
      | (go_at_call 179; refine (note_any _ bd S T D (by exact HH.out.disk.kept (Kept.drew (fun _ => False) w) (fun _ _ hf => hf)) a cap C.ws (by exact HR.out.kept (Kept.drew (fun _ => False) w) (fun _ _ hf => hf)) HA.out (by exact HT.out) hfu (by omega) hlen).mono ?_; rintro e w1 ⟨rfl, ⟨⟨S1, hd1, hS1⟩, hk1⟩⟩; rw [HN.out]; have HD1 : Hid (Disk w1 bd S1 (noteD D C.ws).2) := hd1; have HS1 : Hid _ := hS1; have HK1 : Hid (Kept S w.drew w1) := hk1; have hcc : ChgAt w1 bc bd T C a cap := (HC.out.kept (Kept.drew (fun _ => False) w) (fun _ _ hf => hf)).kept hk1 (fun k hk hS => HA.out k hS hk); have hc01 := hcc.c0; have hc11 := hcc.c1; clear hd1 hS1 hk1 hcc)
      | (go_at_call 85; refine (settle_any _ bd S1 T (noteD D C.ws).2 HD1.out a cap C.ws ((HR.out.kept (Kept.drew (fun _ => False) w) (fun _ _ hf => hf)).kept HK1.out (fun k hk hS => HA.out k hS hk)) (fun k hk hkT => by rcases HS1.out k hk with h1 | h1; exact HA.out k h1 hkT; have h2 := HT.out k hkT; have : w.drew.heap.size = w.heap.size := rfl; omega) (fun k hk => Nat.lt_of_lt_of_le (HT.out k hk) HK1.out.size) (noteD_fuse hfu) (by have := noteD_ps (D := D) (ws := C.ws); omega)).mono ?_; rintro e w2 ⟨rfl, hon⟩; have HON : Hid _ := hon; have hc02 : w2.cell? ⟨bc, 0, none⟩ = some (.pointer (some ⟨bd, 0, none⟩)) := (hon.kept.cell (a := ⟨bc, 0, none⟩) (Nat.lt_of_lt_of_le hbc HK1.out.size) (fun hb => by rcases HS1.out bc hb with h1 | h1; exact HA.out bc h1 hbT; have : w.drew.heap.size = w.heap.size := rfl; omega)).trans hc01; have hc12 : w2.cell? ⟨bc, 1, none⟩ = some (.slice a C.ws.length cap) := (hon.kept.cell (a := ⟨bc, 1, none⟩) (Nat.lt_of_lt_of_le hbc HK1.out.size) (fun hb => by rcases HS1.out bc hb with h1 | h1; exact HA.out bc h1 hbT; have : w.drew.heap.size = w.heap.size := rfl; omega)).trans hc11; clear hon)))
    go_wp2
    go_ret
    have e1 : commitD D C.ws = settleD (noteD D C.ws).2 C.ws := if_pos HN.out
    rw [e1]
    exact ⟨rfl, Onto.trans (D1 := D) (S1 := S1) (fun k hk => HS1.out k hk) (Kept.trans (S' := S) (b := w.drew) ⟨rfl, rfl, rfl, Nat.le_refl _, fun _ _ _ => rfl⟩ HK1.out (fun _ h => .inl h)) HON.out⟩
end Go.Proofs.YtcoengihaobddaaGreatDoor.prog
namespace Go.Proofs.YtcoengihaobddaaGreatDoor.prog
open Go.ChangeShapes Go.WideShapes Go.ChangeAt Go.RowKit Go.Proofs.YtcoengihaobddaaGreatDoor.disk Go.Proofs.YtcoengihaobddaaGreatDoor.ref
open Go.Proofs.YtcoengihaobddaaGreatDoor.keys (ret_int ret_bool beq_no beq_yes)
set_option linter.unusedVariables false
set_option maxRecDepth 8000

set_option maxHeartbeats 1000000 in
theorem finish_dead (w : World) (bd : Nat) (S : Nat → Prop) (D : Dk) (h : Disk w bd S D) (hfu : IntOk D.fuse) (hz : (D.fuse == 0) = true) :
    Calls Tryz.prog 55 #[.pointer (some ⟨bd, 0, none⟩)] w fun e w' => e = .returned (.bool false) ∧ Onto w w' bd S D := by
  have HH : Hid (Disk w bd S D) := h
  have HZ : Hid _ := hz
  clear h hz
  go_enter Tryz.func55, Tryz.ntmps55
  go_wp2_with (go_at_call 40; refine (flush_any _ bd S D HH.out hfu).mono ?_; rintro e w2 ⟨rfl, ⟨S2, hd2, hS2⟩, hk2⟩; rw [HZ.out]; have HD2 : Hid (Disk w2 bd S2 D.flush) := hd2; have HS2 : Hid _ := hS2; have HK2 : Hid _ := hk2; clear hd2 hS2 hk2)
  go_ret
  have hz2 : D.fuse = 0 := by have := HZ.out; simpa using this
  have e2 : D.flush = D := if_pos hz2
  have hd2 := HD2.out
  rw [e2] at hd2
  exact ⟨rfl, ⟨S2, hd2, fun k hk => .inl (HS2.out k hk)⟩, HK2.out⟩

set_option maxHeartbeats 1000000 in
theorem finish_none (w : World) (bd : Nat) (S : Nat → Prop) (D : Dk) (h : Disk w bd S D) (hfu : IntOk D.fuse) (hz : (D.fuse == 0) = false) (hr0 : 0 ≤ D.reads) (hr1 : D.reads ≤ 4611686018427387904) (p : Pg) (hp : p.Ok) (hl : D.flush.look 0 = pgV p) (hn : p.items.length = 0) :
    Calls Tryz.prog 55 #[.pointer (some ⟨bd, 0, none⟩)] w fun e w' => e = .returned (.bool true) ∧ Onto w w' bd S { D.flush with reads := D.reads + 1 } := by
  obtain ⟨Zb, hZb, hzz⟩ : ∃ Zb : List Value, Zb = zeroB ∧ ∀ w, (zeroValue 154).run Tryz.prog w = .ok (.agg Zb.toArray) w := ⟨zeroB, rfl, zero_run Tryz.infoPage⟩
  have HZb : Hid (BlkOk Zb) := by rw [hZb]; exact zeroB_ok
  clear hZb
  have HIp : Hid ((Tryz.prog.info? 154).map (·.size) = some 128) := size_of Tryz.infoPage
  have HH : Hid (Disk w bd S D) := h
  have HZ : Hid _ := hz
  have HL : Hid _ := hl
  have HN : Hid _ := hn
  have HPO : Hid (BlkOk (pgV p)) := pgV_ok hp
  have hfr : D.flush.reads = D.reads := by unfold Dk.flush; split <;> rfl
  have HFR : Hid _ := hfr
  have HP : Hid p.Ok := hp
  clear h hz hl hn hp
  go_enter Tryz.func55, Tryz.ntmps55
  go_wp2_with (first
    | (go_at_call 40; refine (flush_any _ bd S D HH.out hfu).mono ?_; rintro e w2 ⟨rfl, ⟨S2, hd2, hS2⟩, hk2⟩; rw [HZ.out]; have HD2 : Hid (Disk w2 bd S2 D.flush) := hd2; have HS2 : Hid _ := hS2; have HK2 : Hid _ := hk2; clear hd2 hS2 hk2)
    | (go_at_call 81; refine (read_any _ bd S2 D.flush HD2.out 0 (by constructor <;> omega) (by rw [HFR.out]; exact hr0) (by rw [HFR.out]; exact hr1)).mono ?_; rintro e w3 ⟨rfl, hd3, hk3⟩; rw [HL.out]; have HD3 : Hid (Disk w3 bd S2 { D.flush with reads := D.flush.reads + 1 }) := hd3; have HK3 : Hid _ := hk3; clear hd3 hk3)
    | (show wpList _ _ _ ({ dst := none, op := .store _ (.tmp 3) (.tmp 10), type := _, pos := _, after := _, guard := _ } :: _) _ _; refine wpList_store_new rfl 154 (.tmp 3) (.tmp 10) rfl _ _ (pgV p) (by simp) rfl rfl (by rw [HPO.out.1]; exact HIp.out) (by rw [List.size_toArray, HZb.out.1, HPO.out.1]) HPO.out.2 ?_; have HPA : Hid (PgAt (w3.alloc (.cells (pgV p).toArray 154)) w3.heap.size p) := ⟨⟨heap_alloc_new w3 _⟩, HP.out⟩)
    | (go_at_call 82; refine (count_any _ _ _ HPA.out).mono ?_; rintro e w4 ⟨rfl, rfl⟩; rw [HN.out]))
  go_ret
  have hd := HD3.out.kept (Kept.alloc (fun _ => False) w3 (.cells (pgV p).toArray 154)) (fun _ _ hf => hf)
  rw [HFR.out] at hd
  refine ⟨rfl, ⟨S2, hd, fun k hk => .inl (HS2.out k hk)⟩, (HK2.out.trans HK3.out (fun k hk => .inl (HS2.out k (by rw [hk]; exact HD2.out.bdS)))).trans (Kept.alloc _ _ _) (fun _ h => .inl h)⟩
end Go.Proofs.YtcoengihaobddaaGreatDoor.prog

/- Part 24 of 39 of a proof: Ins7 -/
import Derived.Test.YtcoengihaobddaaGreatDoorJp23
namespace Go.Proofs.YtcoengihaobddaaGreatDoor.prog
open Go.ChangeShapes Go.WideShapes Go.ChangeAt Go.RowKit Go.Proofs.YtcoengihaobddaaGreatDoor.disk Go.Proofs.YtcoengihaobddaaGreatDoor.ref
open Go.Proofs.YtcoengihaobddaaGreatDoor.keys (ret_int ret_bool beq_no beq_yes)
set_option linter.unusedVariables false
set_option maxRecDepth 8000

/-- What insert below a child makes. -/
structure Below (bc bd : Nat) (S T : Nat → Prop) (D : Dk) (C : Ck) (at_ : Nat) (e : En) (M : Nat) (f : Bool) (v : List Value) (C' : Ck) : Prop where
  go : ∀ (w0 : World) (n0 : Int), 0 ≤ n0 → n0 ≤ 1 → Cw w0 bc bd S T { D with reads := D.reads + n0 } C → Calls Tryz.prog 137 #[.pointer (some ⟨bc, 0, none⟩), .int .i64 at_, .agg (enV e).toArray] w0 fun r w' => r = .returned (.tuple #[.agg v.toArray, .bool f]) ∧ (∃ (n : Int) (T' : Nat → Prop), 0 ≤ n ∧ n ≤ M ∧ Cw w' bc bd S T' { D with reads := D.reads + n0 + n } C' ∧ ∀ j, T' j → T j ∨ w0.heap.size ≤ j) ∧ Kept (fun j => j = bd ∨ T j) w0 w'
set_option maxHeartbeats 4000000 in
theorem insert_no (w : World) (bc bd : Nat) (S T : Nat → Prop) (D : Dk) (C : Ck) (h : Cw w bc bd S T D C) (m : List UInt8) (hm : IsMap (C.look D 2) m) (hr0 : 0 ≤ D.reads) (hr1 : D.reads ≤ 4611686018427380000) (at_ : Nat) (hat : at_ < 65536) (es : List En) (hes : ∀ e ∈ es, e.Ok) (h4 : ∀ e ∈ es, e.mark = false ∧ e.size = 0) (hlen : es.length ≤ 6) (hs : Srt es) (hl : C.look D at_ = pgV (nodePg 4 es)) (e : En) (he : e.Ok) (hfew : C.ws.length < 700) (M : Nat) (C' : Ck) (c : Nat) (hc : childI es e.pl = c) (hcl : c < es.length) (hrec : Below bc bd S T D C es[c].at_ e M false zeroE C') :
    Calls Tryz.prog 137 #[.pointer (some ⟨bc, 0, none⟩), .int .i64 at_, .agg (enV e).toArray] w fun r w' => r = .returned (.tuple #[.agg zeroE.toArray, .bool false]) ∧ (∃ (n : Int) (T' : Nat → Prop), 0 ≤ n ∧ n ≤ M + 1 ∧ Cw w' bc bd S T' { D with reads := D.reads + n } C' ∧ ∀ j, T' j → T j ∨ w.heap.size ≤ j) ∧ Kept (fun j => j = bd ∨ T j) w w' := by
  have HH : Hid _ := h
  have HM : Hid _ := hm
  have H4 : Hid (∀ e ∈ es, e.mark = false ∧ e.size = 0) := h4
  have HREC : Hid _ := hrec
  have HES : Hid (∀ e ∈ es, e.Ok) := hes
  have HS : Hid (Srt es) := hs
  have HL : Hid _ := hl
  have HE : Hid e.Ok := he
  clear h hm hes hs hl he h4 hrec
  have hbd : bd < w.heap.size := HH.out.disk.lt bd HH.out.disk.bdS
  have HTL : Hid (∀ j, T j → j < w.heap.size) := HH.out.chg.lt
  have HSL : Hid (∀ j, S j → j < w.heap.size) := HH.out.disk.lt
  have HK0 : Hid (Kept (fun _ => False) w ((w.alloc (.cells (enV e).toArray 109)).alloc (.cells zeroE.toArray 109))) := Kept.alloc2 _ _ _
  have HBr : Hid (((w.alloc (.cells (enV e).toArray 109)).alloc (.cells zeroE.toArray 109)).heap[w.heap.size + 1]? = some (.cells zeroE.toArray 109 (0, 0))) := heap_alloc2_new w _ _
  have HBe : Hid (((w.alloc (.cells (enV e).toArray 109)).alloc (.cells zeroE.toArray 109)).heap[w.heap.size]? = some (.cells (enV e).toArray 109 (0, 0))) := ((Kept.alloc (fun _ => False) _ _).block w.heap.size (by simp) id).trans (heap_alloc_new w _)
  have hsW : ((w.alloc (.cells (enV e).toArray 109)).alloc (.cells zeroE.toArray 109)).heap.size = w.heap.size + 2 := by simp
  unfold zeroE at HK0 HBr HBe hsW
  unfold enV at HK0 HBr HBe hsW ⊢
  go_enter Tryz.func137, Tryz.ntmps137
  go_wp2_with fail
  change Hid (Kept _ w ((w.alloc (.cells #[.string e.pl.key, .int .i64 e.pl.num, .bool e.mark, .int .i64 (e.size : Int), .int .i64 (e.at_ : Int)] 109)).alloc (.cells #[.string ⟨#[]⟩, .int .i64 0, .bool false, .int .i64 0, .int .i64 0] 109))) at HK0
  generalize ((w.alloc (.cells #[.string e.pl.key, .int .i64 e.pl.num, .bool e.mark, .int .i64 (e.size : Int), .int .i64 (e.at_ : Int)] 109)).alloc (.cells #[.string ⟨#[]⟩, .int .i64 0, .bool false, .int .i64 0, .int .i64 0] 109)) = W at *
  refine (loadc_any W bc bd S T D C (HH.out.kept0 HK0.out) hr0 (by omega) at_ hat 4 es (.inl rfl) HES.out (fun _ => H4.out) hlen HL.out).mono ?_
  rintro r w1 ⟨a, cap, rfl, ⟨n1, hn0, hn1, hc1⟩, hk1, hrow1, hown1, hfr1⟩
  have HC1 : Hid _ := hc1
  have HK1 : Hid (Kept (fun j => j = bd) W w1) := hk1
  have HO1 : Hid (w1.ownsRow 0 109 5 (.slice a es.length cap) es.length (flatV es)) := hown1
  have HF1 : Hid _ := hfr1
  have HRW1 : Hid _ := hrow1
  have hsz1 := hk1.size
  have HBe1 : Hid (w1.heap[w.heap.size]? = _) := (hk1.block _ (by omega) (by omega)).trans HBe.out
  have HBr1 : Hid (w1.heap[w.heap.size + 1]? = _) := (hk1.block _ (by omega) (by omega)).trans HBr.out
  clear hc1 hk1 hown1 hfr1 hrow1
  have x0 : w1.cell? ⟨w.heap.size, 0, none⟩ = some (.string e.pl.key) := by rw [cell_of_row w1 _ 0 _ _ _ HBe1.out]; rfl
  have x1 : w1.cell? ⟨w.heap.size, 1, none⟩ = some (.int .i64 e.pl.num) := by rw [cell_of_row w1 _ 1 _ _ _ HBe1.out]; rfl
  have hlw1 : w.heap.size < w1.heap.size := by omega
  have hlo1 : ∀ j, (Value.slice a es.length cap).ownBlock = some j → W.heap.size ≤ j ∧ j < w1.heap.size := fun j hj => ⟨HF1.out j hj, (HO1.out.lt j hj).2⟩
  have HLO : Hid (∀ j, (Value.slice a es.length cap).ownBlock = some j → W.heap.size ≤ j ∧ j < w1.heap.size) := hlo1
  clear hlo1
  go_wp2_with fail
  have HKN : Hid (Kept (fun _ => False) w1 (w1.alloc (.cells #[.int .u8 4, .slice a es.length cap] 209))) := Kept.alloc _ _ _
  have HBN : Hid ((w1.alloc (.cells #[.int .u8 4, .slice a es.length cap] 209)).heap[w1.heap.size]? = some (.cells #[.int .u8 4, .slice a es.length cap] 209 (0, 0))) := heap_alloc_new w1 _
  have hsN : (w1.alloc (.cells #[.int .u8 4, .slice a es.length cap] 209)).heap.size = w1.heap.size + 1 := by simp
  generalize (w1.alloc (.cells #[.int .u8 4, .slice a es.length cap] 209)) = WN at *
  refine (from_any WN _ a cap es (HRW1.out.kept HKN.out (fun _ _ hf => hf)) HS.out 4 e.pl).mono ?_
  rintro r w2 ⟨rfl, hk2⟩
  have HK2 : Hid (Kept (fun _ => False) w1 w2) := HKN.out.trans hk2 (fun _ h => .inl h)
  have hsz2 := hk2.size
  have HBN2 : Hid (w2.heap[w1.heap.size]? = _) := (hk2.block _ (by omega) id).trans HBN.out
  clear hk2
  have HBe2 : Hid (w2.heap[w.heap.size]? = _) := (HK2.out.block _ (by omega) id).trans HBe1.out
  have HBr2 : Hid (w2.heap[w.heap.size + 1]? = _) := (HK2.out.block _ (by omega) id).trans HBr1.out
  have y0 : w2.cell? ⟨w.heap.size, 0, none⟩ = some (.string e.pl.key) := by rw [cell_of_row w2 _ 0 _ _ _ HBe2.out]; rfl
  have y1 : w2.cell? ⟨w.heap.size, 1, none⟩ = some (.int .i64 e.pl.num) := by rw [cell_of_row w2 _ 1 _ _ _ HBe2.out]; rfl
  have y2 : w2.cell? ⟨w.heap.size, 2, none⟩ = some (.bool e.mark) := by rw [cell_of_row w2 _ 2 _ _ _ HBe2.out]; rfl
  have y3 : w2.cell? ⟨w.heap.size, 3, none⟩ = some (.int .i64 (e.size : Int)) := by rw [cell_of_row w2 _ 3 _ _ _ HBe2.out]; rfl
  have y4 : w2.cell? ⟨w.heap.size, 4, none⟩ = some (.int .i64 (e.at_ : Int)) := by rw [cell_of_row w2 _ 4 _ _ _ HBe2.out]; rfl
  have z0 : w2.cell? ⟨w1.heap.size, 0, none⟩ = some (.int .u8 4) := by rw [cell_of_row w2 _ 0 _ _ _ HBN2.out]; rfl
  have z1 : w2.cell? ⟨w1.heap.size, 1, none⟩ = some (.slice a es.length cap) := by rw [cell_of_row w2 _ 1 _ _ _ HBN2.out]; rfl
  have HCI : Hid (childI es e.pl = c) := hc
  generalize fromI es e.pl = i at *
  clear hc
  go_wp2_with fail
  refine (child_any w2 _ a cap es (HRW1.out.kept HK2.out (fun _ _ hf => hf)) HS.out 4 e.pl).mono ?_
  rintro r w3 ⟨rfl, hk3⟩
  rw [HCI.out]
  have HK3 : Hid (Kept (fun _ => False) w1 w3) := HK2.out.trans hk3 (fun _ h => .inl h)
  have hsz3 := hk3.size
  have HBN3 : Hid (w3.heap[w1.heap.size]? = _) := (hk3.block _ (by omega) id).trans HBN2.out
  have HBe3 : Hid (w3.heap[w.heap.size]? = _) := (hk3.block _ (by omega) id).trans HBe2.out
  have HBr3 : Hid (w3.heap[w.heap.size + 1]? = _) := (hk3.block _ (by omega) id).trans HBr2.out
  have HR3 : Hid (EnRow w3 (fun b => W.heap.size ≤ b) a es) := HRW1.out.kept HK3.out (fun _ _ hf => hf)
  have HO3 : Hid (w3.ownsRow 0 109 5 (.slice a es.length cap) es.length (flatV es)) := HK3.out.owns HO1.out (fun _ _ hf => hf)
  have HCW3 : Hid (Cw w3.drew bc bd S T { D with reads := D.reads + n1 } C) := (HC1.out.kept0 HK3.out).kept0 (Kept.drew _ w3)
  have HKW3 : Hid (Kept (fun j => j = bd ∨ T j) w w3) := ((HK0.out.mono (fun _ hf => hf.elim)).trans HK1.out (fun _ h => .inl (.inl h))).trans HK3.out (fun _ hf => hf.elim)
  clear hk3 y0 y1 y2 y3 y4 z0 z1 x0 x1
  obtain ⟨g, o, rfl⟩ := HR3.out.base (by omega)
  obtain ⟨-, -, -, -, ec, -, hgl⟩ := HR3.out.cells c hcl
  have hgW : W.heap.size ≤ g ∧ g < w1.heap.size := HLO.out g rfl
  have HBL : Hid (∀ w0 : World, Cw w0 bc bd S T { D with reads := D.reads + n1 } C → _) := fun w0 hw0 => HREC.out.go w0 n1 hn0 hn1 hw0
  generalize es[c].at_ = ca at *
  have y0 : w3.cell? ⟨w.heap.size, 0, none⟩ = some (.string e.pl.key) := by rw [cell_of_row w3 _ 0 _ _ _ HBe3.out]; rfl
  have y1 : w3.cell? ⟨w.heap.size, 1, none⟩ = some (.int .i64 e.pl.num) := by rw [cell_of_row w3 _ 1 _ _ _ HBe3.out]; rfl
  have y2 : w3.cell? ⟨w.heap.size, 2, none⟩ = some (.bool e.mark) := by rw [cell_of_row w3 _ 2 _ _ _ HBe3.out]; rfl
  have y3 : w3.cell? ⟨w.heap.size, 3, none⟩ = some (.int .i64 (e.size : Int)) := by rw [cell_of_row w3 _ 3 _ _ _ HBe3.out]; rfl
  have y4 : w3.cell? ⟨w.heap.size, 4, none⟩ = some (.int .i64 (e.at_ : Int)) := by rw [cell_of_row w3 _ 4 _ _ _ HBe3.out]; rfl
  have z1 : w3.cell? ⟨w1.heap.size, 1, none⟩ = some (.slice (some ⟨g, o, none⟩) es.length cap) := by rw [cell_of_row w3 _ 1 _ _ _ HBN3.out]; rfl
  have hclI : (c : Int) < (es.length : Int) := by omega
  have hnd : ∀ j, w.heap.size ≤ j → ¬ (j = bd ∨ T j) := fun j hj hc => hc.elim (fun h => by omega) (fun h => by have := HTL.out j h; omega)
  have HND : Hid (∀ j, w.heap.size ≤ j → ¬ (j = bd ∨ T j)) := hnd
  clear hnd
  unfold zeroE at HBL
  have ne1 : ¬ w1.heap.size = w3.heap.size := by omega
  have ne2 : ¬ g = w3.heap.size := by omega
  have ne3 : ¬ w.heap.size = w3.heap.size := by omega
  have ne1' : ¬ w3.heap.size = w1.heap.size := by omega
  have ne2' : ¬ w3.heap.size = g := by omega
  have ne3' : ¬ w3.heap.size = w.heap.size := by omega
  have HKXHCW3 : Hid (Kept (fun _ => False) w3 w3.drew) := Kept.drew _ w3
  have HKXHCW3a : Hid (Kept (fun _ => False) w3 (w3.alloc (.cells #[.string ⟨#[]⟩, .int .i64 0, .bool false, .int .i64 0, .int .i64 0] 109)).drew) := (Kept.alloc _ _ _).trans (Kept.drew _ _) (fun _ h => .inl h)
  have HCW3a : Hid (Cw (w3.alloc (.cells #[.string ⟨#[]⟩, .int .i64 0, .bool false, .int .i64 0, .int .i64 0] 109)).drew bc bd S T { D with reads := D.reads + n1 } C) := (HC1.out.kept0 HK3.out).kept0 HKXHCW3a.out
  have hsX : (w3.alloc (.cells #[.string ⟨#[]⟩, .int .i64 0, .bool false, .int .i64 0, .int .i64 0] 109)).heap.size = w3.heap.size + 1 := by simp
  go_wp2_with fail
  go_region_held3 (fun w' => w'.cell? ⟨w1.heap.size, 1, none⟩ = some (.slice (some ⟨g, o, none⟩) es.length cap) ∧ w'.cell? ⟨g, o + c * 5 + 4, none⟩ = some (.int .i64 (ca : Int)) ∧ w'.cell? ⟨w.heap.size, 0, none⟩ = some (.string e.pl.key) ∧ w'.cell? ⟨w.heap.size, 1, none⟩ = some (.int .i64 e.pl.num) ∧ w'.cell? ⟨w.heap.size, 2, none⟩ = some (.bool e.mark) ∧ w'.cell? ⟨w.heap.size, 3, none⟩ = some (.int .i64 (e.size : Int)) ∧ w'.cell? ⟨w.heap.size, 4, none⟩ = some (.int .i64 (e.at_ : Int))) (go_keep) ((go_at_call 137; first
    | (refine (HBL.out _ (by exact HCW3.out)).mono ?_; rintro r w4 ⟨rfl, ⟨n4, T4, hn40, hn4M, hc4, hT4⟩, hk4⟩; have HC4 : Hid _ := hc4; have HT4 : Hid (∀ j, T4 j → T j ∨ w3.drew.heap.size ≤ j) := hT4; have HK4 : Hid (Kept (fun j => j = bd ∨ T j) w3.drew w4) := hk4; have HK34 : Hid (Kept (fun j => j = bd ∨ T j) w3 w4) := (HKXHCW3.out.mono (fun _ hf => hf.elim)).trans hk4 (fun _ h => .inl h); have HBN4 : Hid (w4.heap[w1.heap.size]? = _) := (HK34.out.block _ (show w1.heap.size < w3.heap.size by omega) (HND.out _ (by omega))).trans HBN3.out; have HBe4 : Hid (w4.heap[w.heap.size]? = _) := (HK34.out.block _ (show w.heap.size < w3.heap.size by omega) (HND.out _ (by omega))).trans HBe3.out; have HBr4 : Hid (w4.heap[w.heap.size + 1]? = _) := (HK34.out.block _ (show w.heap.size + 1 < w3.heap.size by omega) (HND.out _ (by omega))).trans HBr3.out; have z41 : w4.cell? ⟨w1.heap.size, 1, none⟩ = some (.slice (some ⟨g, o, none⟩) es.length cap) := (by rw [cell_of_row w4 _ 1 _ _ _ HBN4.out]; rfl); have ec4 : w4.cell? ⟨g, o + c * 5 + 4, none⟩ = some (.int .i64 (ca : Int)) := (HK34.out.cell (a := ⟨g, o + c * 5 + 4, none⟩) (show g < w3.heap.size by omega) (HND.out g (by omega))).trans ec; have y40 : w4.cell? ⟨w.heap.size, 0, none⟩ = some (.string e.pl.key) := (by rw [cell_of_row w4 _ 0 _ _ _ HBe4.out]; rfl); have y41 : w4.cell? ⟨w.heap.size, 1, none⟩ = some (.int .i64 e.pl.num) := (by rw [cell_of_row w4 _ 1 _ _ _ HBe4.out]; rfl); have y42 : w4.cell? ⟨w.heap.size, 2, none⟩ = some (.bool e.mark) := (by rw [cell_of_row w4 _ 2 _ _ _ HBe4.out]; rfl); have y43 : w4.cell? ⟨w.heap.size, 3, none⟩ = some (.int .i64 (e.size : Int)) := (by rw [cell_of_row w4 _ 3 _ _ _ HBe4.out]; rfl); have y44 : w4.cell? ⟨w.heap.size, 4, none⟩ = some (.int .i64 (e.at_ : Int)) := (by rw [cell_of_row w4 _ 4 _ _ _ HBe4.out]; rfl); have hsz4 : w3.heap.size ≤ w4.heap.size := HK34.out.size; have ne4 : ¬ w1.heap.size = w4.heap.size := (by omega); have ne5 : ¬ g = w4.heap.size := (by omega); have ne6 : ¬ w.heap.size = w4.heap.size := (by omega); clear hc4 hT4 hk4)
    | (refine (HBL.out _ (by exact HCW3a.out)).mono ?_; rintro r w4 ⟨rfl, ⟨n4, T4, hn40, hn4M, hc4, hT4⟩, hk4⟩; have HC4 : Hid _ := hc4; have HT4 : Hid (∀ j, T4 j → T j ∨ (w3.alloc (.cells #[.string ⟨#[]⟩, .int .i64 0, .bool false, .int .i64 0, .int .i64 0] 109)).drew.heap.size ≤ j) := hT4; have HK4 : Hid (Kept (fun j => j = bd ∨ T j) (w3.alloc (.cells #[.string ⟨#[]⟩, .int .i64 0, .bool false, .int .i64 0, .int .i64 0] 109)).drew w4) := hk4; have HK34 : Hid (Kept (fun j => j = bd ∨ T j) w3 w4) := (HKXHCW3a.out.mono (fun _ hf => hf.elim)).trans hk4 (fun _ h => .inl h); have HBN4 : Hid (w4.heap[w1.heap.size]? = _) := (HK34.out.block _ (show w1.heap.size < w3.heap.size by omega) (HND.out _ (by omega))).trans HBN3.out; have HBe4 : Hid (w4.heap[w.heap.size]? = _) := (HK34.out.block _ (show w.heap.size < w3.heap.size by omega) (HND.out _ (by omega))).trans HBe3.out; have HBr4 : Hid (w4.heap[w.heap.size + 1]? = _) := (HK34.out.block _ (show w.heap.size + 1 < w3.heap.size by omega) (HND.out _ (by omega))).trans HBr3.out; have z41 : w4.cell? ⟨w1.heap.size, 1, none⟩ = some (.slice (some ⟨g, o, none⟩) es.length cap) := (by rw [cell_of_row w4 _ 1 _ _ _ HBN4.out]; rfl); have ec4 : w4.cell? ⟨g, o + c * 5 + 4, none⟩ = some (.int .i64 (ca : Int)) := (HK34.out.cell (a := ⟨g, o + c * 5 + 4, none⟩) (show g < w3.heap.size by omega) (HND.out g (by omega))).trans ec; have y40 : w4.cell? ⟨w.heap.size, 0, none⟩ = some (.string e.pl.key) := (by rw [cell_of_row w4 _ 0 _ _ _ HBe4.out]; rfl); have y41 : w4.cell? ⟨w.heap.size, 1, none⟩ = some (.int .i64 e.pl.num) := (by rw [cell_of_row w4 _ 1 _ _ _ HBe4.out]; rfl); have y42 : w4.cell? ⟨w.heap.size, 2, none⟩ = some (.bool e.mark) := (by rw [cell_of_row w4 _ 2 _ _ _ HBe4.out]; rfl); have y43 : w4.cell? ⟨w.heap.size, 3, none⟩ = some (.int .i64 (e.size : Int)) := (by rw [cell_of_row w4 _ 3 _ _ _ HBe4.out]; rfl); have y44 : w4.cell? ⟨w.heap.size, 4, none⟩ = some (.int .i64 (e.at_ : Int)) := (by rw [cell_of_row w4 _ 4 _ _ _ HBe4.out]; rfl); have hsz4 : w3.heap.size ≤ w4.heap.size := HK34.out.size; have ne4 : ¬ w1.heap.size = w4.heap.size := (by omega); have ne5 : ¬ g = w4.heap.size := (by omega); have ne6 : ¬ w.heap.size = w4.heap.size := (by omega); have HZ4 : Hid (w4.heap[w3.heap.size]? = some (.cells #[.string ⟨#[]⟩, .int .i64 0, .bool false, .int .i64 0, .int .i64 0] 109 (0, 0))) := (hk4.block w3.heap.size (show w3.heap.size < (w3.alloc (.cells #[.string ⟨#[]⟩, .int .i64 0, .bool false, .int .i64 0, .int .i64 0] 109)).heap.size by rw [hsX]; omega) (HND.out _ (by omega))).trans (heap_alloc_new w3 _); have zz0 : w4.cell? ⟨w3.heap.size, 0, none⟩ = some (.string ⟨#[]⟩) := (by rw [cell_of_row w4 _ 0 _ _ _ HZ4.out]; rfl); have zf0 := frozen_of_row w4 w3.heap.size 0 _ _ HZ4.out; have zz1 : w4.cell? ⟨w3.heap.size, 1, none⟩ = some (.int .i64 0) := (by rw [cell_of_row w4 _ 1 _ _ _ HZ4.out]; rfl); have zf1 := frozen_of_row w4 w3.heap.size 1 _ _ HZ4.out; have zz2 : w4.cell? ⟨w3.heap.size, 2, none⟩ = some (.bool false) := (by rw [cell_of_row w4 _ 2 _ _ _ HZ4.out]; rfl); have zf2 := frozen_of_row w4 w3.heap.size 2 _ _ HZ4.out; have zz3 : w4.cell? ⟨w3.heap.size, 3, none⟩ = some (.int .i64 0) := (by rw [cell_of_row w4 _ 3 _ _ _ HZ4.out]; rfl); have zf3 := frozen_of_row w4 w3.heap.size 3 _ _ HZ4.out; have zz4 : w4.cell? ⟨w3.heap.size, 4, none⟩ = some (.int .i64 0) := (by rw [cell_of_row w4 _ 4 _ _ _ HZ4.out]; rfl); have zf4 := frozen_of_row w4 w3.heap.size 4 _ _ HZ4.out; clear hc4 hT4 hk4)))
  have HBrX : Hid ((w4.alloc (.cells #[.string ⟨#[]⟩, .int .i64 0, .bool false, .int .i64 0, .int .i64 0] 109)).heap[w.heap.size + 1]? = _) := ((Kept.alloc (fun _ => False) w4 _).block _ (by omega) id).trans HBr4.out
  have HCX : Hid (Cw (w4.alloc (.cells #[.string ⟨#[]⟩, .int .i64 0, .bool false, .int .i64 0, .int .i64 0] 109)) bc bd S T4 { D with reads := D.reads + n1 + n4 } C') := HC4.out.kept0 (Kept.alloc _ _ _)
  have HKWX : Hid (Kept (fun j => j = bd ∨ T j) w (w4.alloc (.cells #[.string ⟨#[]⟩, .int .i64 0, .bool false, .int .i64 0, .int .i64 0] 109))) := (HKW3.out.trans HK34.out (fun _ h => .inl h)).trans (Kept.alloc (fun _ => False) _ _) (fun _ hf => hf.elim)
  have HTX : Hid (∀ j, T4 j → T j ∨ w3.heap.size ≤ j) := HT4.out
  have hsX4 : w4.heap.size ≤ (w4.alloc (.cells #[.string ⟨#[]⟩, .int .i64 0, .bool false, .int .i64 0, .int .i64 0] 109)).heap.size := by simp
  generalize (w4.alloc (.cells #[.string ⟨#[]⟩, .int .i64 0, .bool false, .int .i64 0, .int .i64 0] 109)) = X at *
  rotate_left
  obtain ⟨hh5, kS5⟩ := set5 w4 w3.heap.size 109 _ _ _ _ _ (.string ⟨#[]⟩) (.int .i64 0) (.bool false) (.int .i64 0) (.int .i64 0) HZ4.out
  have HBrX : Hid ((((((w4.setCell ⟨w3.heap.size, 0, none⟩ (.string ⟨#[]⟩)).setCell ⟨w3.heap.size, 1, none⟩ (.int .i64 0)).setCell ⟨w3.heap.size, 2, none⟩ (.bool false)).setCell ⟨w3.heap.size, 3, none⟩ (.int .i64 0)).setCell ⟨w3.heap.size, 4, none⟩ (.int .i64 0)).heap[w.heap.size + 1]? = _) := (kS5.block _ (by omega) (by omega)).trans HBr4.out
  have HTX : Hid (∀ j, T4 j → T j ∨ w3.heap.size ≤ j) := fun j hj => (HT4.out j hj).imp id (fun h => by have h' : (w3.alloc (.cells #[.string ⟨#[]⟩, .int .i64 0, .bool false, .int .i64 0, .int .i64 0] 109)).heap.size ≤ j := h; omega)
  have HCX : Hid (Cw (((((w4.setCell ⟨w3.heap.size, 0, none⟩ (.string ⟨#[]⟩)).setCell ⟨w3.heap.size, 1, none⟩ (.int .i64 0)).setCell ⟨w3.heap.size, 2, none⟩ (.bool false)).setCell ⟨w3.heap.size, 3, none⟩ (.int .i64 0)).setCell ⟨w3.heap.size, 4, none⟩ (.int .i64 0)) bc bd S T4 { D with reads := D.reads + n1 + n4 } C') := HC4.out.kept kS5 (fun j hj e0 => by have := HSL.out j hj; omega) (fun j hj e0 => by
    rcases HT4.out j hj with h1 | h1
    · have := HTL.out j h1; omega
    · have h' : (w3.alloc (.cells #[.string ⟨#[]⟩, .int .i64 0, .bool false, .int .i64 0, .int .i64 0] 109)).heap.size ≤ j := h1; omega)
  have HKWX : Hid (Kept (fun j => j = bd ∨ T j) w (((((w4.setCell ⟨w3.heap.size, 0, none⟩ (.string ⟨#[]⟩)).setCell ⟨w3.heap.size, 1, none⟩ (.int .i64 0)).setCell ⟨w3.heap.size, 2, none⟩ (.bool false)).setCell ⟨w3.heap.size, 3, none⟩ (.int .i64 0)).setCell ⟨w3.heap.size, 4, none⟩ (.int .i64 0))) := (HKW3.out.trans HK34.out (fun _ h => .inl h)).trans kS5 (fun j hj => .inr (by omega))
  have hsX4 : w4.heap.size ≤ (((((w4.setCell ⟨w3.heap.size, 0, none⟩ (.string ⟨#[]⟩)).setCell ⟨w3.heap.size, 1, none⟩ (.int .i64 0)).setCell ⟨w3.heap.size, 2, none⟩ (.bool false)).setCell ⟨w3.heap.size, 3, none⟩ (.int .i64 0)).setCell ⟨w3.heap.size, 4, none⟩ (.int .i64 0)).heap.size := kS5.size
  clear hh5 kS5
  generalize (((((w4.setCell ⟨w3.heap.size, 0, none⟩ (.string ⟨#[]⟩)).setCell ⟨w3.heap.size, 1, none⟩ (.int .i64 0)).setCell ⟨w3.heap.size, 2, none⟩ (.bool false)).setCell ⟨w3.heap.size, 3, none⟩ (.int .i64 0)).setCell ⟨w3.heap.size, 4, none⟩ (.int .i64 0)) = X at *
  rotate_left
  all_goals
    have q0 : X.cell? ⟨w.heap.size + 1, 0, none⟩ = some (.string ⟨#[]⟩) := by rw [cell_of_row X _ 0 _ _ _ HBrX.out]; rfl
    have f0 := frozen_of_row X (w.heap.size + 1) 0 _ _ HBrX.out
    have q1 : X.cell? ⟨w.heap.size + 1, 1, none⟩ = some (.int .i64 0) := by rw [cell_of_row X _ 1 _ _ _ HBrX.out]; rfl
    have f1 := frozen_of_row X (w.heap.size + 1) 1 _ _ HBrX.out
    have q2 : X.cell? ⟨w.heap.size + 1, 2, none⟩ = some (.bool false) := by rw [cell_of_row X _ 2 _ _ _ HBrX.out]; rfl
    have f2 := frozen_of_row X (w.heap.size + 1) 2 _ _ HBrX.out
    have q3 : X.cell? ⟨w.heap.size + 1, 3, none⟩ = some (.int .i64 0) := by rw [cell_of_row X _ 3 _ _ _ HBrX.out]; rfl
    have f3 := frozen_of_row X (w.heap.size + 1) 3 _ _ HBrX.out
    have q4 : X.cell? ⟨w.heap.size + 1, 4, none⟩ = some (.int .i64 0) := by rw [cell_of_row X _ 4 _ _ _ HBrX.out]; rfl
    have f4 := frozen_of_row X (w.heap.size + 1) 4 _ _ HBrX.out
    go_wp2
    obtain ⟨hh, kS⟩ := set5 X (w.heap.size + 1) 109 _ _ _ _ _ (.string ⟨#[]⟩) (.int .i64 0) (.bool false) (.int .i64 0) (.int .i64 0) HBrX.out
    refine bodyPost_ret (v := .tuple #[.agg zeroE.toArray, .bool false]) (results_row_tmp Tryz.results137 _ _ (w.heap.size + 1) 109 _ (0, 0) _ rfl hh Tryz.underlying109 rfl (by kernel_rfl)) rfl ⟨rfl, ⟨n1 + n4, T4, by omega, by omega, ?_, fun j hj => (HTX.out j hj).imp id (fun h => by omega)⟩, ?_⟩
    · have := HCX.out.kept kS (fun j hj e0 => by have := HSL.out j hj; omega) (fun j hj e0 => by
        rcases HTX.out j hj with h1 | h1
        · have := HTL.out j h1; omega
        · omega)
      rw [Int.add_assoc] at this
      exact this
    · exact HKWX.out.trans kS (fun j hj => .inr (by omega))
end Go.Proofs.YtcoengihaobddaaGreatDoor.prog

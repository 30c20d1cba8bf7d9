/- Part 20 of 39 of a proof: Tree8, Map1, Chg5 -/
import Derived.Test.YtcoengihaobddaaGreatDoorJp18
import Derived.Test.YtcoengihaobddaaGreatDoorJp19
import Derived.Test.YtcoengihaobddaaGreatDoorJp15
namespace Go.Proofs.YtcoengihaobddaaGreatDoor.prog
open Go.ChangeShapes Go.WideShapes Go.ChangeAt Go.RowKit Go.Proofs.YtcoengihaobddaaGreatDoor.disk Go.Proofs.YtcoengihaobddaaGreatDoor.ref
open Go.Proofs.YtcoengihaobddaaGreatDoor.keys (ret_int ret_bool beq_no beq_yes)
set_option linter.unusedVariables false
set_option maxRecDepth 8000

theorem writeEntry_any (w : World) (b : Nat) (t : TypeId) (l : List UInt8) (h : BsAt w b t l) (k o cap : Nat) (hk : k = 4 ∨ k = 5) (ho : o + width k ≤ l.length) (hcap : width k ≤ cap) (e : En) (he : e.Ok) (hz : (l.drop o).take 8 = List.replicate 8 0) :
    Calls Tryz.prog 193 #[.int .u8 (k : Int), .slice (some ⟨b, o, none⟩) (width k) cap, .agg #[.string e.pl.key, .int .i64 e.pl.num, .bool e.mark, .int .i64 (e.size : Int), .int .i64 (e.at_ : Int)]] w fun r w' => r = .returned (.tuple #[]) ∧ BsAt w' b t (over l o (itemOf k e)) ∧ Kept (fun i => i = b) w w' := by
  rcases hk with rfl | rfl
  · exact writeEntry_branch w b t l h o cap ho hcap e he hz
  · exact writeEntry_leaf w b t l h o cap ho hcap e he hz
theorem nodePg_snoc (k : Nat) (es : List En) (i : Nat) (hi : i < es.length) : (nodePg k (es.take i)).push (itemOf k es[i]) = nodePg k (es.take (i + 1)) := by
  unfold nodePg Pg.push
  rw [List.take_succ_eq_append_getElem hi, List.map_append]; rfl
theorem grown_zero {p : Pg} (h : p.Ok) (hf : (p.items.length + 1) * width p.kind ≤ 124) (hl : p.items.length + 1 ≤ 124) (hw : 8 ≤ width p.kind) : (((p.grown 1).bytes.drop (4 + p.items.length * width p.kind)).take 8) = List.replicate 8 0 := by
  have hg := h.grown 1 hf hl
  have hi : p.items.length < (p.grown 1).items.length := by rw [Pg.grown_len]; omega
  have h1 := hg.item p.items.length hi
  have h2 : (p.grown 1).items[p.items.length] = List.replicate (width p.kind) 0 := by simp [Pg.grown]
  have h3 : (p.grown 1).kind = p.kind := rfl
  rw [h2, h3] at h1
  have h4 := congrArg (List.take 8) h1
  rw [List.take_take, Nat.min_eq_left hw, List.take_replicate, Nat.min_eq_left hw] at h4
  exact h4

theorem EnRow.below {w : World} {P : Nat → Prop} {a : Option Addr} {es : List En} (h : EnRow w P a es) : EnRow w (fun j => P j ∧ j < w.heap.size) a es :=
  ⟨h.at_.imp id (fun ⟨g, o, h1, h2, h3, h4⟩ => ⟨g, o, h1, ⟨h2, h3⟩, h3, h4⟩), h.few⟩
section
attribute [local go_sem ↓] loadP_eq
set_option maxHeartbeats 2000000 in
theorem save_any (w : World) (bc bd : Nat) (S T : Nat → Prop) (D : Dk) (C : Ck) (h : Cw w bc bd S T D C) (P : Nat → Prop) (a : Option Addr) (cap : Nat) (k : Nat) (hk : k = 4 ∨ k = 5) (es : List En) (hr : EnRow w P a es) (hes : ∀ e ∈ es, e.Ok) (hlen : es.length ≤ 6) (at_ : Nat) (hfew : C.ws.length < 1000) :
    Calls Tryz.prog 173 #[.agg #[.int .u8 (k : Int), .slice a es.length cap], .pointer (some ⟨bc, 0, none⟩), .int .i64 at_] w fun r w' => r = .returned (.tuple #[]) ∧ (∃ T', Cw w' bc bd S T' D (C.put at_ (pgV (nodePg k es))) ∧ ∀ j, T' j → T j ∨ w.heap.size ≤ j) ∧ Kept T w w' := by
  obtain ⟨Zb, hZb, hz⟩ : ∃ Zb : List Value, Zb = zeroB ∧ ∀ w, (zeroValue 154).run Tryz.prog w = .ok (.agg Zb.toArray) w := ⟨zeroB, rfl, zero_run Tryz.infoPage⟩
  have HZb : Hid (BlkOk Zb) := by rw [hZb]; exact zeroB_ok
  clear hZb
  have HI : Hid ((Tryz.prog.info? 154).map (·.size) = some 128) := size_of Tryz.infoPage
  have HH : Hid _ := h
  have HR : Hid _ := hr
  have hk6 : k ≤ 6 := by rcases hk with rfl | rfl <;> omega
  have HN1 : Hid (BlkOk (pgV (Pg.new k))) := pgV_ok (Pg.new_ok k hk6)
  have HK0 : Hid (Kept (fun _ => False) w (w.alloc (.cells #[.int .u8 (k : Int), .slice a es.length cap] 209))) := Kept.alloc _ _ _
  have hwk : 8 ≤ width k ∧ width k ≤ 20 := by rcases hk with rfl | rfl <;> decide
  clear h hr
  go_enter Tryz.func173, Tryz.ntmps173
  go_wp2_with (first
    | (go_at_call 131; refine (new_any _ k hk6).mono ?_; rintro r w1 ⟨rfl, hk1⟩; have HK1 : Hid _ := hk1; have hbx1 : w1.heap[w.heap.size]? = _ := (hk1.block w.heap.size (by simp) (fun hf => hf)).trans (heap_alloc_new w _); have HBX1 : Hid _ := hbx1; have hx1 : w1.cell? ⟨w.heap.size, 1, none⟩ = some (.slice a es.length cap) := (by rw [cell_of_row w1 _ 1 _ _ _ hbx1]; rfl); have hl1 : w.heap.size < w1.heap.size := (Array.getElem?_eq_some_iff.1 hbx1).1; clear hk1 hbx1)
    | (show wpList _ _ _ ({ dst := none, op := .store _ (.tmp 6) (.tmp 11), type := _, pos := _, after := _, guard := _ } :: _) _ _; refine wpList_store_new rfl 154 (.tmp 6) (.tmp 11) rfl _ _ (pgV (Pg.new k)) (by simp) rfl rfl (by rw [HN1.out.1]; exact HI.out) (by rw [List.size_toArray, HZb.out.1, HN1.out.1]) HN1.out.2 ?_))
  have HP0 : Hid (PgAt (w1.alloc (.cells (pgV (Pg.new k)).toArray 154)) w1.heap.size (nodePg k (es.take 0))) := ⟨⟨heap_alloc_new w1 _⟩, Pg.new_ok k hk6⟩
  have HKW : Hid (Kept (fun _ => False) w (w1.alloc (.cells (pgV (Pg.new k)).toArray 154))) := (HK0.out.trans HK1.out (fun _ h => .inl h)).trans (Kept.alloc _ _ _) (fun _ h => .inl h)
  have HBXW : Hid ((w1.alloc (.cells (pgV (Pg.new k)).toArray 154)).heap[w.heap.size]? = some (.cells #[.int .u8 (k : Int), .slice a es.length cap] 209 (0, 0))) := ((Kept.alloc (fun _ => False) w1 _).block w.heap.size hl1 (fun hf => hf)).trans HBX1.out
  have hsW : (w1.alloc (.cells (pgV (Pg.new k)).toArray 154)).heap.size = w1.heap.size + 1 := by simp
  generalize (w1.alloc (.cells (pgV (Pg.new k)).toArray 154)) = W at *
  go_loopw [15] (fun t wr => ∃ (i : Nat), i ≤ es.length ∧ t = .int .i64 i ∧ Kept (fun j => j = w1.heap.size) W wr ∧ PgAt wr w1.heap.size (nodePg k (es.take i))) (fun t _ => es.length - (intOf t).toNat)
  case atStart => exact ⟨0, Nat.zero_le _, rfl, Kept.refl _ _, HP0.out⟩
  case round =>
    obtain ⟨i, hi, rfl, hkept, hpg⟩ := hrel
    have HK : Hid _ := hkept
    have HP : Hid _ := hpg
    have hplen : (nodePg k (es.take i)).items.length = i := by simp [nodePg]; omega
    have hbxr : wr.heap[w.heap.size]? = _ := (hkept.block w.heap.size (by omega) (by omega)).trans HBXW.out
    have HBXR : Hid _ := hbxr
    have hk0 : wr.cell? ⟨w.heap.size, 0, none⟩ = some (.int .u8 (k : Int)) := by rw [cell_of_row wr _ 0 _ _ _ hbxr]; rfl
    have hlr : w.heap.size < wr.heap.size := (Array.getElem?_eq_some_iff.1 hbxr).1
    have hpb := hpg.bs.lt
    have HRR : Hid (EnRow wr (fun j => P j ∧ j < w.heap.size) a es) := (HR.out.below.kept HKW.out (fun _ _ hf => hf)).kept hkept (fun j hj hjj => by omega)
    clear hkept hpg hbxr
    by_cases hlt : i < es.length
    · obtain ⟨g, o, rfl⟩ := HRR.out.base (by omega)
      obtain ⟨c0, c1, c2, c3, c4, hPg, hgl⟩ := HRR.out.cells i hlt
      have HEO : Hid es[i].Ok := hes _ (List.getElem_mem hlt)
      have HSN : Hid _ := nodePg_snoc k es i hlt
      generalize es[i] = e at *
      have hmI : (i : Int) < (es.length : Int) := by omega
      go_wp2
      have hWW : (wr.alloc (.cells (enV e).toArray 109)) = (wr.alloc (.cells #[.string e.pl.key, .int .i64 e.pl.num, .bool e.mark, .int .i64 (e.size : Int), .int .i64 (e.at_ : Int)] 109)) := rfl
      have HW2 : Hid ((wr.alloc (.cells (enV e).toArray 109)).heap[wr.heap.size]? = some (.cells (enV e).toArray 109 (0, 0))) := heap_alloc_new wr _
      have HKA : Hid (Kept (fun _ => False) wr (wr.alloc (.cells (enV e).toArray 109))) := Kept.alloc _ _ _
      have hsA : (wr.alloc (.cells (enV e).toArray 109)).heap.size = wr.heap.size + 1 := by simp
      rw [hWW] at HW2 HKA hsA
      clear hWW
      generalize (wr.alloc (.cells #[.string e.pl.key, .int .i64 e.pl.num, .bool e.mark, .int .i64 (e.size : Int), .int .i64 (e.at_ : Int)] 109)) = W2 at *
      have hj0 : W2.cell? ⟨wr.heap.size, 0, none⟩ = some (.string e.pl.key) := by rw [cell_of_row W2 _ 0 _ _ _ HW2.out]; rfl
      have hj1 : W2.cell? ⟨wr.heap.size, 1, none⟩ = some (.int .i64 e.pl.num) := by rw [cell_of_row W2 _ 1 _ _ _ HW2.out]; rfl
      have hj2 : W2.cell? ⟨wr.heap.size, 2, none⟩ = some (.bool e.mark) := by rw [cell_of_row W2 _ 2 _ _ _ HW2.out]; rfl
      have hj3 : W2.cell? ⟨wr.heap.size, 3, none⟩ = some (.int .i64 (e.size : Int)) := by rw [cell_of_row W2 _ 3 _ _ _ HW2.out]; rfl
      have hj4 : W2.cell? ⟨wr.heap.size, 4, none⟩ = some (.int .i64 (e.at_ : Int)) := by rw [cell_of_row W2 _ 4 _ _ _ HW2.out]; rfl
      have hkk : W2.cell? ⟨w.heap.size, 0, none⟩ = some (.int .u8 (k : Int)) := (HKA.out.cell (a := ⟨w.heap.size, 0, none⟩) hlr (fun hf => hf)).trans hk0
      have HPA : Hid (PgAt W2.drew w1.heap.size (nodePg k (es.take i))) := (HP.out.kept HKA.out (fun hf => hf)).kept (Kept.drew (fun _ => False) W2) (fun hf => hf)
      have hfit : (i + 1) * width k ≤ 124 := by
        have h6 : i + 1 ≤ 6 := by omega
        have := Nat.mul_le_mul h6 hwk.2
        omega
      have HGV : Hid (growV w1.heap.size (nodePg k (es.take i)).kind (nodePg k (es.take i)).items.length 1 = .slice (some ⟨w1.heap.size, 4 + i * width k, none⟩) (width k) (124 - i * width k)) := by
        show growV _ _ _ _ = _
        rw [hplen]
        unfold growV
        rw [Nat.one_mul]
        rfl
      have HPO : Hid (nodePg k (es.take i)).Ok := HP.out.ok
      have HZ8 : Hid _ := grown_zero (p := nodePg k (es.take i)) HPO.out (by rw [hplen]; exact hfit) (by rw [hplen]; omega) hwk.1
      have HIL : Hid ((itemOf k e).length = width k) := item_len HEO.out hk
      have HPS : Hid _ := HPO.out.push_over (itemOf k e) HIL.out (by rw [hplen]; exact hfit)
      have HOK : Hid (nodePg k (es.take (i + 1))).Ok := nodePg_ok hk (fun x hx => hes x (List.mem_of_mem_take hx)) (by rw [List.length_take]; omega)
      have hmul : (i + 1) * width k = i * width k + width k := Nat.succ_mul ..
      rw [HSN.out] at HPS
      rw [hplen] at HZ8 HPS
      have hnk : (nodePg k (es.take i)).kind = k := rfl
      rw [hnk] at HZ8 HPS
      have HGL : Hid (((nodePg k (es.take i)).grown 1).bytes.length = 128) := (HPO.out.grown 1 (by rw [hplen]; exact hfit) (by rw [hplen]; omega)).len
      generalize hP0 : nodePg k (es.take i) = p at *
      go_region_held3 (fun w' => w'.cell? ⟨w.heap.size, 0, none⟩ = some (.int .u8 (k : Int)) ∧ w'.cell? ⟨wr.heap.size, 0, none⟩ = some (.string e.pl.key) ∧ w'.cell? ⟨wr.heap.size, 1, none⟩ = some (.int .i64 e.pl.num) ∧ w'.cell? ⟨wr.heap.size, 2, none⟩ = some (.bool e.mark) ∧ w'.cell? ⟨wr.heap.size, 3, none⟩ = some (.int .i64 (e.size : Int)) ∧ w'.cell? ⟨wr.heap.size, 4, none⟩ = some (.int .i64 (e.at_ : Int))) (go_keep) (first
        | (go_at_call 133; refine (grow_any _ _ _ (by exact HPA.out) 1 (by rw [hplen, hnk]; exact hfit) (by rw [hplen]; omega) (by rw [hnk]; omega)).mono ?_; rintro r w3 ⟨hr3, hp3, hk3⟩; rw [HGV.out] at hr3; subst hr3; have HP3 : Hid _ := hp3; have HK3 : Hid (Kept (fun j => j = w1.heap.size) W2.drew w3) := hk3; have hkk3 : w3.cell? ⟨w.heap.size, 0, none⟩ = some (.int .u8 (k : Int)) := (hk3.cell (a := ⟨w.heap.size, 0, none⟩) (show w.heap.size < W2.heap.size by omega) (by show ¬ w.heap.size = w1.heap.size; omega)).trans hkk; have hb3 : w3.heap[wr.heap.size]? = _ := (hk3.block wr.heap.size (show wr.heap.size < W2.heap.size by omega) (by omega)).trans HW2.out; have hj03 : w3.cell? ⟨wr.heap.size, 0, none⟩ = some (.string e.pl.key) := (by rw [cell_of_row w3 _ 0 _ _ _ hb3]; rfl); have hj13 : w3.cell? ⟨wr.heap.size, 1, none⟩ = some (.int .i64 e.pl.num) := (by rw [cell_of_row w3 _ 1 _ _ _ hb3]; rfl); have hj23 : w3.cell? ⟨wr.heap.size, 2, none⟩ = some (.bool e.mark) := (by rw [cell_of_row w3 _ 2 _ _ _ hb3]; rfl); have hj33 : w3.cell? ⟨wr.heap.size, 3, none⟩ = some (.int .i64 (e.size : Int)) := (by rw [cell_of_row w3 _ 3 _ _ _ hb3]; rfl); have hj43 : w3.cell? ⟨wr.heap.size, 4, none⟩ = some (.int .i64 (e.at_ : Int)) := (by rw [cell_of_row w3 _ 4 _ _ _ hb3]; rfl); have HB3 : Hid _ := hb3; have hl3 : wr.heap.size < w3.heap.size := (Array.getElem?_eq_some_iff.1 hb3).1; clear hp3 hk3 hb3)
        | (go_at_call 193; refine (writeEntry_any _ _ _ _ (by exact HP3.out.bs) k (4 + i * width k) (124 - i * width k) hk (by rw [HGL.out]; omega) (by omega) e HEO.out (by exact HZ8.out)).mono ?_; rintro r w4 ⟨rfl, hb4, hk4⟩; rw [HPS.out] at hb4; have HB4 : Hid _ := hb4; have HK4 : Hid (Kept (fun j => j = w1.heap.size) w3 w4) := hk4; have hkk4 : w4.cell? ⟨w.heap.size, 0, none⟩ = some (.int .u8 (k : Int)) := (hk4.cell (a := ⟨w.heap.size, 0, none⟩) (show w.heap.size < w3.heap.size by omega) (by show ¬ w.heap.size = w1.heap.size; omega)).trans hkk3; have hb5 : w4.heap[wr.heap.size]? = _ := (hk4.block wr.heap.size hl3 (by omega)).trans HB3.out; have hj04 : w4.cell? ⟨wr.heap.size, 0, none⟩ = some (.string e.pl.key) := (by rw [cell_of_row w4 _ 0 _ _ _ hb5]; rfl); have hj14 : w4.cell? ⟨wr.heap.size, 1, none⟩ = some (.int .i64 e.pl.num) := (by rw [cell_of_row w4 _ 1 _ _ _ hb5]; rfl); have hj24 : w4.cell? ⟨wr.heap.size, 2, none⟩ = some (.bool e.mark) := (by rw [cell_of_row w4 _ 2 _ _ _ hb5]; rfl); have hj34 : w4.cell? ⟨wr.heap.size, 3, none⟩ = some (.int .i64 (e.size : Int)) := (by rw [cell_of_row w4 _ 3 _ _ _ hb5]; rfl); have hj44 : w4.cell? ⟨wr.heap.size, 4, none⟩ = some (.int .i64 (e.at_ : Int)) := (by rw [cell_of_row w4 _ 4 _ _ _ hb5]; rfl); clear hb4 hk4 hb5))
      have HKF : Hid (Kept (fun j => j = w1.heap.size) W w4) := ((HK.out.trans (HKA.out) (fun _ hf => hf.elim)).trans (Kept.trans (b := W2.drew) (Kept.drew _ W2) HK3.out (fun _ h => .inl h)) (fun _ h => .inl h)).trans HK4.out (fun _ h => .inl h)
      have HPF : Hid (PgAt w4 w1.heap.size (nodePg k (es.take (i + 1)))) := ⟨HB4.out, HOK.out⟩
      go_wp2
      go_roundw
      · exact ⟨i + 1, by omega, rfl, HKF.out, HPF.out⟩
      · show es.length - ((i : Int) + 1).toNat < es.length - (i : Int).toNat
        omega
    · have hie : i = es.length := by omega
      subst hie
      have hmI : ¬ (es.length : Int) < (es.length : Int) := by omega
      have HPE : Hid (PgAt wr w1.heap.size (nodePg k es)) := by have := HP.out; rw [List.take_length] at this; exact this
      have HOV : Hid (BlkOk (pgV (nodePg k es))) := pgV_ok HPE.out.ok
      have hrP : (loadP (.pointer (some ⟨w1.heap.size, 0, none⟩))).run Tryz.prog wr = .ok (.agg (pgV (nodePg k es)).toArray) wr := run_loadP _ _ _ _ (range_of_block HPE.out.bs.at_) HOV.out.1
      have HCW : Hid (Cw wr bc bd S T D C) := by
        have hS := HH.out.disk.lt
        have hT := HH.out.chg.lt
        exact (HH.out.kept0 HKW.out).kept HK.out (fun j hj hjj => by have := hS j hj; omega) (fun j hj hjj => by have := hT j hj; omega)
      go_wp2_with (go_at_call 135; refine (cwrite_any _ bc bd S T D C HCW.out at_ _ HOV.out hfew).mono ?_; rintro r w5 ⟨rfl, ⟨T5, hc5, hT5⟩, hk5⟩; have HC5 : Hid _ := hc5; have HT5 : Hid _ := hT5; have HK5 : Hid _ := hk5; clear hc5 hT5 hk5)
      go_end0
      have hz1 := HKW.out.size
      have hz2 := HK.out.size
      refine ⟨rfl, ⟨T5, HC5.out, fun j hj => (HT5.out j hj).imp id (fun h => by omega)⟩, ?_⟩
      have h1 : Kept T w wr := (HKW.out.mono (fun _ hf => hf.elim)).trans HK.out (fun j hj => .inr (by omega))
      exact h1.trans HK5.out (fun _ h => .inl h)
end
end Go.Proofs.YtcoengihaobddaaGreatDoor.prog
namespace Go.Proofs.YtcoengihaobddaaGreatDoor.prog
set_option linter.unusedVariables false

/-- The page of a map. -/
def mapPg (m : List UInt8) : Pg := ⟨3, 0, m.map fun b => [b]⟩
theorem flat_ones (m : List UInt8) : (m.map fun b => [b]).flatten = m := by
  induction m with
  | nil => rfl
  | cons b m ih => simp [ih]
theorem mapPg_ok {m : List UInt8} (h : m.length = 124) : (mapPg m).Ok where
  kind := by simp [mapPg]
  link := by simp [mapPg]
  wide := fun i hi => by obtain ⟨b, _, rfl⟩ := List.mem_map.1 hi; rfl
  fits := by simp [mapPg, width, h]
  few := by simp [mapPg, h]
theorem mapPg_bytes {m : List UInt8} (h : m.length = 124) : (mapPg m).bytes = [3, 124, 0, 0] ++ m := by
  simp [Pg.bytes, mapPg, width, h, flat_ones, bytesOf]
/-- No block is taken. -/
def noMap : List UInt8 := List.replicate 124 0
theorem noMap_len : noMap.length = 124 := by simp [noMap]
theorem new_grown : (Pg.new 3).grown 124 = mapPg noMap := by
  simp [Pg.grown, Pg.new, mapPg, noMap, width]

/-- Is block i (counted from the first that may be taken) taken? -/
def takenB (m : List UInt8) (i : Nat) : Bool := (m.getD (i / 8) 0).toNat.testBit (i % 8)
def setB (m : List UInt8) (i : Nat) : List UInt8 := m.set (i / 8) (UInt8.ofNat ((m.getD (i / 8) 0).toNat ||| 2 ^ (i % 8)))
def clrB (m : List UInt8) (i : Nat) : List UInt8 := m.set (i / 8) (UInt8.ofNat ((m.getD (i / 8) 0).toNat &&& (255 ^^^ 2 ^ (i % 8))))
theorem setB_len (m : List UInt8) (i : Nat) : (setB m i).length = m.length := by simp [setB]
theorem clrB_len (m : List UInt8) (i : Nat) : (clrB m i).length = m.length := by simp [clrB]
theorem pow_lt (i : Nat) : 2 ^ (i % 8) < 256 := by
  have h : i % 8 ≤ 7 := by omega
  have := Nat.pow_le_pow_right (show 0 < 2 by omega) h
  omega
theorem test_pow (r s : Nat) : (2 ^ r).testBit s = decide (r = s) := Nat.testBit_two_pow
theorem test_255 (s : Nat) (h : s < 8) : (255 : Nat).testBit s = true := by
  have : (255 : Nat) = 2 ^ 8 - 1 := rfl
  rw [this, Nat.testBit_two_pow_sub_one]; simpa using h
theorem taken_at {m : List UInt8} {i : Nat} {v : Nat} (hv : v < 256) (hi : i / 8 < m.length) (j : Nat) :
    takenB (m.set (i / 8) (UInt8.ofNat v)) j = if j / 8 = i / 8 then v.testBit (j % 8) else takenB m j := by
  unfold takenB
  by_cases e : j / 8 = i / 8
  · rw [if_pos e, e, List.getD_eq_getElem?_getD, List.getElem?_set_self hi, Option.getD_some]
    simp [Nat.mod_eq_of_lt hv]
  · rw [if_neg e, List.getD_eq_getElem?_getD, List.getElem?_set_ne (Ne.symm e), ← List.getD_eq_getElem?_getD]
theorem taken_set {m : List UInt8} {i : Nat} (hi : i / 8 < m.length) (j : Nat) : takenB (setB m i) j = (takenB m j || decide (j = i)) := by
  have hv : (m.getD (i / 8) 0).toNat ||| 2 ^ (i % 8) < 256 := Nat.or_lt_two_pow (n := 8) (m.getD (i / 8) 0).toNat_lt (pow_lt i)
  unfold setB
  rw [taken_at hv hi]
  split
  next e =>
    rw [Nat.testBit_or, test_pow]
    unfold takenB
    rw [e]
    congr 1
    simp; omega
  next e => rw [decide_eq_false (by intro h; rw [h] at e; exact e rfl), Bool.or_false]
theorem taken_clr {m : List UInt8} {i : Nat} (hi : i / 8 < m.length) (j : Nat) : takenB (clrB m i) j = (takenB m j && decide (j ≠ i)) := by
  have hv : (m.getD (i / 8) 0).toNat &&& (255 ^^^ 2 ^ (i % 8)) < 256 := Nat.lt_of_le_of_lt Nat.and_le_left (m.getD (i / 8) 0).toNat_lt
  unfold clrB
  rw [taken_at hv hi]
  split
  next e =>
    rw [Nat.testBit_and, Nat.testBit_xor, test_pow, test_255 _ (by omega)]
    unfold takenB
    rw [e]
    congr 1
    by_cases h : j = i
    · subst h; simp
    · have : i % 8 ≠ j % 8 := by omega
      simp [h, this]
  next e => rw [decide_eq_true (by intro h; rw [h] at e; exact e rfl), Bool.and_true]
theorem taken_none (i : Nat) : takenB noMap i = false := by
  unfold takenB noMap
  rw [List.getD_eq_getElem?_getD, List.getElem?_replicate]
  split <;> simp
end Go.Proofs.YtcoengihaobddaaGreatDoor.prog
namespace Go.Proofs.YtcoengihaobddaaGreatDoor.prog
open Go.ChangeShapes Go.WideShapes Go.ChangeAt Go.RowKit Go.Proofs.YtcoengihaobddaaGreatDoor.disk Go.Proofs.YtcoengihaobddaaGreatDoor.ref
open Go.Proofs.YtcoengihaobddaaGreatDoor.keys (ret_int ret_bool beq_no beq_yes)
set_option linter.unusedVariables false
set_option maxRecDepth 8000

def bitI (r : Nat) : Int := ((2 ^ r : Nat) : Int)
set_option maxHeartbeats 400000 in
theorem bitOf_any (w : World) (i : Nat) (hi : i ≤ 1000000) : Calls Tryz.prog 171 #[.int .i64 ((i : Int) + 21)] w fun e w' => e = .returned (.tuple #[.int .i64 (i / 8 : Nat), .int .u8 (bitI (i % 8))]) ∧ ∃ n, w' = w.drewN n := by
  go_enter Tryz.func171, Tryz.ntmps171
  go_wp2
  go_region
  go_wp2
  go_ret2
  have hp := pow_lt i
  have e : ((2 : Int) ^ (i % 8)) % 256 = bitI (i % 8) := by
    unfold bitI
    have : ((2 : Int) ^ (i % 8)) = ((2 ^ (i % 8) : Nat) : Int) := by simp
    rw [this]
    generalize 2 ^ (i % 8) = x at *
    omega
  exact ⟨by rw [← e]; simp, 1, rfl⟩

theorem heap_over {w : World} {r : Nat} {t : TypeId} {zb qb : List Value} (h : w.heap[r]? = some (.cells zb.toArray t (0, 0))) (hl : qb.length = zb.length) : (w.setCells r 0 qb).heap[r]? = some (.cells qb.toArray t (0, 0)) := by
  rw [heap_setCells_same r t qb 0 w _ h (by simp [hl])]
  congr 3; rw [List.take_zero, List.nil_append, List.drop_of_length_le (by simp [hl]), List.append_nil]

/-- A block of the disk is the map m. -/
structure IsMap (b : List Value) (m : List UInt8) : Prop where
  len : m.length = 124
  is : b = pgV (mapPg m) ∨ (b = pgV (Pg.new 0) ∧ m = noMap)

set_option maxHeartbeats 2000000 in
theorem takenMap_any (w : World) (bc bd : Nat) (S T : Nat → Prop) (D : Dk) (C : Ck) (h : Cw w bc bd S T D C) (m : List UInt8) (hm : IsMap (C.look D 2) m) (hr0 : 0 ≤ D.reads) (hr1 : D.reads ≤ 4611686018427387904) :
    Calls Tryz.prog 170 #[.pointer (some ⟨bc, 0, none⟩)] w fun e w' => e = .returned (.agg (pgV (mapPg m)).toArray) ∧ (∃ n : Int, 0 ≤ n ∧ n ≤ 1 ∧ Cw w' bc bd S T { D with reads := D.reads + n } C) ∧ Kept (fun k => k = bd) w w' := by
  obtain ⟨Zb, hZb, hz⟩ : ∃ Zb : List Value, Zb = zeroB ∧ ∀ w, (zeroValue 154).run Tryz.prog w = .ok (.agg Zb.toArray) w := ⟨zeroB, rfl, zero_run Tryz.infoPage⟩
  have HZb : Hid (BlkOk Zb) := by rw [hZb]; exact zeroB_ok
  clear hZb
  have HI : Hid ((Tryz.prog.info? 154).map (·.size) = some 128) := size_of Tryz.infoPage
  have HW : Hid _ := h
  have hbd := h.disk.lt bd h.disk.bdS
  have HM : Hid _ := hm
  have HOK : Hid (BlkOk (pgV (mapPg m))) := pgV_ok (mapPg_ok hm.len)
  have HS1 : Hid (∀ k, S k → k < w.heap.size) := h.disk.lt
  have HT1 : Hid (∀ k, T k → k < w.heap.size) := h.chg.lt
  clear h
  have HK1 : Hid (Kept (fun _ => False) w (w.alloc (.cells Zb.toArray 154))) := Kept.alloc _ _ _
  rcases hm.is with he | ⟨he, hn⟩
  · have HE : Hid _ := he
    clear he hm
    go_enter Tryz.func170, Tryz.ntmps170
    go_wp2_with (first
      | (go_at_call 192; refine (cread_any _ bc bd S T D C (HW.out.kept0 HK1.out) 2 (by constructor <;> omega) hr0 hr1).mono ?_; rintro e w1 ⟨rfl, hcw, hk1⟩; rw [HE.out]; have HCW : Hid _ := hcw; have HK2 : Hid _ := hk1; have HB : Hid (w1.heap[w.heap.size]? = some (.cells Zb.toArray 154 (0, 0))) := (hk1.block w.heap.size (by simp) (by omega)).trans (heap_alloc_new w _); clear hcw hk1)
      | (show wpList _ _ _ ({ dst := none, op := .store _ (.tmp 3) (.tmp 5), type := _, pos := _, after := _, guard := _ } :: _) _ _; refine wpList_store_new rfl 154 (.tmp 3) (.tmp 5) rfl _ _ (pgV (mapPg m)) (by simp) rfl rfl (by rw [HOK.out.1]; exact HI.out) (by rw [List.size_toArray, HZb.out.1, HOK.out.1]) HOK.out.2 ?_; have HP : Hid (PgAt (w1.alloc (.cells (pgV (mapPg m)).toArray 154)) w1.heap.size (mapPg m)) := ⟨⟨heap_alloc_new w1 _⟩, mapPg_ok HM.out.len⟩)
      | (go_at_call 144; refine (kind_any _ _ _ HP.out).mono ?_; rintro e w2 ⟨rfl, rfl⟩; have hkd : (mapPg m).kind = 3 := rfl; rw [hkd])
      | (show wpList _ _ _ ({ dst := some 11, op := .load _ _, type := _, pos := _, after := _, guard := _ } :: _) _ _; refine wpList_load_mid rfl 154 (.tmp 3) rfl _ _ rfl (pgV (mapPg m)) _ (range_of_block HP.out.bs.at_) arr_under rfl (by rw [HOK.out.1]; exact HI.out) ?_; have HB2 : Hid ((w1.alloc (.cells (pgV (mapPg m)).toArray 154)).heap[w.heap.size]? = some (.cells Zb.toArray 154 (0, 0))) := ((Kept.alloc (fun _ => False) w1 _).block w.heap.size (Array.getElem?_eq_some_iff.1 HB.out).1 (fun hf => hf)).trans HB.out)
      | (show wpList _ _ _ ({ dst := none, op := .store _ (.tmp 2) (.tmp 11), type := _, pos := _, after := _, guard := _ } :: _) _ _; refine wpList_store_mid rfl 154 (.tmp 2) (.tmp 11) rfl _ _ _ rfl rfl (by have := there_of_block HB2.out; rw [HZb.out.1] at this; simpa [HOK.out.1] using this) (by rw [List.size_toArray, HOK.out.1]; exact HI.out) (all_oneCell_toArray HOK.out.2) ?_))
    have hkf : Kept (fun k => k = bd) w ((w1.alloc (.cells (pgV (mapPg m)).toArray 154)).setCells w.heap.size 0 (pgV (mapPg m))) :=
      (((HK1.out.mono (fun _ hf => hf.elim)).trans HK2.out (fun _ h => .inl h)).trans (Kept.alloc _ _ _) (fun _ h => .inl h)).trans (Kept.setCells (S := fun k => k = w.heap.size) w.heap.size rfl _ 0 _) (fun j hj => .inr (by rw [hj]; exact Nat.le_refl _))
    have hb2 := heap_over HB2.out (show (pgV (mapPg m)).length = Zb.length by rw [HOK.out.1, HZb.out.1])
    refine bodyPost_ret (v := .agg (pgV (mapPg m)).toArray) (results_cell_row Tryz.results170 _ _ w.heap.size 154 _ (0, 0) _ rfl hb2 arr_under rfl (by rw [List.size_toArray, HOK.out.1]; exact HI.out)) rfl ⟨rfl, ?_, hkf⟩
    obtain ⟨n, hn0, hn1, hcw⟩ := HCW.out
    exact ⟨n, hn0, hn1, (hcw.kept0 (Kept.alloc _ _ _)).kept (Kept.setCells (S := fun k => k = w.heap.size) w.heap.size rfl _ 0 _) (fun k hk e => by have := HS1.out k hk; omega) (fun k hk e => by have := HT1.out k hk; omega)⟩
  · have HE : Hid _ := he
    subst hn
    clear he hm
    have HN : Hid (BlkOk (pgV (Pg.new 0))) := pgV_ok (Pg.new_ok 0 (by omega))
    have HN3 : Hid (BlkOk (pgV (Pg.new 3))) := pgV_ok (Pg.new_ok 3 (by omega))
    go_enter Tryz.func170, Tryz.ntmps170
    go_wp2_with (first
      | (go_at_call 192; refine (cread_any _ bc bd S T D C (HW.out.kept0 HK1.out) 2 (by constructor <;> omega) hr0 hr1).mono ?_; rintro e w1 ⟨rfl, hcw, hk1⟩; rw [HE.out]; have HCW : Hid _ := hcw; have HK2 : Hid _ := hk1; have HB : Hid (w1.heap[w.heap.size]? = some (.cells Zb.toArray 154 (0, 0))) := (hk1.block w.heap.size (by simp) (by omega)).trans (heap_alloc_new w _); clear hcw hk1)
      | (show wpList _ _ _ ({ dst := none, op := .store _ (.tmp 3) (.tmp 5), type := _, pos := _, after := _, guard := _ } :: _) _ _; refine wpList_store_new rfl 154 (.tmp 3) (.tmp 5) rfl _ _ (pgV (Pg.new 0)) (by simp) rfl rfl (by rw [HN.out.1]; exact HI.out) (by rw [List.size_toArray, HZb.out.1, HN.out.1]) HN.out.2 ?_; have HP : Hid (PgAt (w1.alloc (.cells (pgV (Pg.new 0)).toArray 154)) w1.heap.size (Pg.new 0)) := ⟨⟨heap_alloc_new w1 _⟩, Pg.new_ok 0 (by omega)⟩)
      | (go_at_call 144; refine (kind_any _ _ _ HP.out).mono ?_; rintro e w2 ⟨rfl, rfl⟩; have hkd : (Pg.new 0).kind = 0 := rfl; rw [hkd])
      | (go_at_call 131; refine (new_any _ 3 (by omega)).mono ?_; rintro e w2 ⟨rfl, hk2⟩; have HK3 : Hid _ := hk2; have HP2 : Hid (w2.heap[w1.heap.size]? = some (.cells (pgV (Pg.new 0)).toArray 154 (0, 0))) := (HP.out.kept hk2 (fun hf => hf)).bs.at_; clear hk2)
      | (show wpList _ _ _ ({ dst := none, op := .store _ (.tmp 3) (.tmp 8), type := _, pos := _, after := _, guard := _ } :: _) _ _; refine wpList_store_mid rfl 154 (.tmp 3) (.tmp 8) rfl _ _ _ rfl rfl (by have := there_of_block HP2.out; rw [HN.out.1] at this; simpa [HN3.out.1] using this) (by rw [List.size_toArray, HN3.out.1]; exact HI.out) (all_oneCell_toArray HN3.out.2) ?_; have HP3 : Hid (PgAt (w2.setCells w1.heap.size 0 (pgV (Pg.new 3))) w1.heap.size (Pg.new 3)) := ⟨⟨heap_over HP2.out (by rw [HN3.out.1, HN.out.1])⟩, Pg.new_ok 3 (by omega)⟩)
      | (go_at_call 129; refine (room_any _ 3 (by omega)).mono ?_; rintro e w3 ⟨rfl, rfl⟩; have hrm : room 3 = 124 := rfl; rw [hrm])
      | (go_at_call 133; refine (grow_any _ _ _ HP3.out 124 (by decide) (by decide) (by decide)).mono ?_; rintro e w3 ⟨rfl, hp3, hk3⟩; rw [new_grown] at hp3; have HP4 : Hid _ := hp3; have HK4 : Hid _ := hk3; clear hp3 hk3)
      | (show wpList _ _ _ ({ dst := some 11, op := .load _ _, type := _, pos := _, after := _, guard := _ } :: _) _ _; refine wpList_load_mid rfl 154 (.tmp 3) rfl _ _ rfl (pgV (mapPg noMap)) _ (range_of_block HP4.out.bs.at_) arr_under rfl (by rw [HOK.out.1]; exact HI.out) ?_; have HB2 : Hid (w3.heap[w.heap.size]? = some (.cells Zb.toArray 154 (0, 0))) := by { have hs1 : w.heap.size + 1 ≤ w1.heap.size := (by have := HK2.out.size; simpa using this); exact (((((((Kept.alloc (fun _ => False) w1 _).trans HK3.out (fun _ h => .inl h))).mono (fun _ hf => hf.elim)).trans (Kept.setCells (S := fun k => k = w1.heap.size) w1.heap.size rfl _ 0 _) (fun j hj => .inl (by omega))).trans HK4.out (fun j hj => .inl (by omega)) : Kept (fun k => w1.heap.size ≤ k) w1 w3).block w.heap.size (by omega) (by omega)).trans HB.out })
      | (show wpList _ _ _ ({ dst := none, op := .store _ (.tmp 2) (.tmp 11), type := _, pos := _, after := _, guard := _ } :: _) _ _; refine wpList_store_mid rfl 154 (.tmp 2) (.tmp 11) rfl _ _ _ rfl rfl (by have := there_of_block HB2.out; rw [HZb.out.1] at this; simpa [HOK.out.1] using this) (by rw [List.size_toArray, HOK.out.1]; exact HI.out) (all_oneCell_toArray HOK.out.2) ?_))
    have hs1 : w.heap.size + 1 ≤ w1.heap.size := by have := HK2.out.size; simpa using this
    have hk1 : Kept (fun k => k = bd) w w1 := (HK1.out.mono (fun _ hf => hf.elim)).trans HK2.out (fun _ h => .inl h)
    have hk3 : Kept (fun k => k = bd) w w3 := ((hk1.trans ((Kept.alloc (fun _ => False) w1 _).trans HK3.out (fun _ h => .inl h)) (fun _ hf => hf.elim)).trans (Kept.setCells (S := fun k => k = w1.heap.size) w1.heap.size rfl _ 0 _) (fun j hj => .inr (by omega))).trans HK4.out (fun j hj => .inr (by omega))
    have hk13 : Kept (fun k => w1.heap.size ≤ k) w1 w3 := (((((Kept.alloc (fun _ => False) w1 _).trans HK3.out (fun _ h => .inl h))).mono (fun _ hf => hf.elim)).trans (Kept.setCells (S := fun k => k = w1.heap.size) w1.heap.size rfl _ 0 _) (fun j hj => .inl (by omega))).trans HK4.out (fun j hj => .inl (by omega))
    have hkf : Kept (fun k => k = bd) w (w3.setCells w.heap.size 0 (pgV (mapPg noMap))) := hk3.trans (Kept.setCells (S := fun k => k = w.heap.size) w.heap.size rfl _ 0 _) (fun j hj => .inr (by rw [hj]; exact Nat.le_refl _))
    have hb2 := heap_over HB2.out (show (pgV (mapPg noMap)).length = Zb.length by rw [HOK.out.1, HZb.out.1])
    refine bodyPost_ret (v := .agg (pgV (mapPg noMap)).toArray) (results_cell_row Tryz.results170 _ _ w.heap.size 154 _ (0, 0) _ rfl hb2 arr_under rfl (by rw [List.size_toArray, HOK.out.1]; exact HI.out)) rfl ⟨rfl, ?_, hkf⟩
    obtain ⟨n, hn0, hn1, hcw⟩ := HCW.out
    exact ⟨n, hn0, hn1, (hcw.kept hk13 (fun k hk e => by have := HS1.out k hk; omega) (fun k hk e => by have := HT1.out k hk; omega)).kept (Kept.setCells (S := fun k => k = w.heap.size) w.heap.size rfl _ 0 _) (fun k hk e => by have := HS1.out k hk; omega) (fun k hk e => by have := HT1.out k hk; omega)⟩
end Go.Proofs.YtcoengihaobddaaGreatDoor.prog

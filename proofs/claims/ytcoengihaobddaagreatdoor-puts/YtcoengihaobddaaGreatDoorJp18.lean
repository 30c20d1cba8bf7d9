/- Part 18 of 39 of a proof: Tree6, Tree7 -/
import Derived.Test.YtcoengihaobddaaGreatDoorJp17
import Derived.Deep.RegionLaw
import Derived.Deep.RegionWith
import Derived.Shelf.Abstract
import Derived.Deep.AppendLies
import Derived.Deep.DrawnRows
import Derived.Lib.BufferWrite
namespace Go.Proofs.YtcoengihaobddaaGreatDoor.prog
open Go.ChangeShapes Go.WideShapes Go.ChangeAt Go.RowKit Go.Proofs.YtcoengihaobddaaGreatDoor.disk Go.Proofs.YtcoengihaobddaaGreatDoor.ref
open Go.Proofs.YtcoengihaobddaaGreatDoor.keys (ret_int ret_bool beq_no beq_yes)
set_option linter.unusedVariables false
set_option maxRecDepth 8000

theorem Tryz.infoEntry : (Tryz.prog.info? 109).map (fun i => (i.zero, i.size, i.bytes)) = some (some (.agg #[.string ⟨#[]⟩, .int .i64 0, .bool false, .int .i64 0, .int .i64 0]), 5, 48) := by kernel_rfl
/-- Entries that are a row of one's own. -/
theorem EnRow.of_own {w : World} {a : Option Addr} {cap : Nat} {es : List En} {P : Nat → Prop} (h : w.ownsRow 0 109 5 (.slice a es.length cap) es.length (es.map enV).flatten) (hP : ∀ j, (Value.slice a es.length cap).ownBlock = some j → P j) (hl : es.length ≤ 1000) : EnRow w P a es := by
  refine ⟨?_, hl⟩
  rcases h.2 with ⟨_, h1⟩ | ⟨g, cap', cur, hv, _, hg, _⟩
  · exact .inl (List.eq_nil_of_length_eq_zero h1)
  · cases hv
    refine .inr ⟨g, 0, rfl, hP g rfl, (Array.getElem?_eq_some_iff.1 hg).1, fun k hk => ?_⟩
    have hr := h
    rw [show es.length = (es.map enV).length from by simp] at hr
    have := owns_range hr (fun b hb => by obtain ⟨e, _, rfl⟩ := List.mem_map.1 hb; rfl) k (by simpa using hk)
    simpa using this
/-- An append of entries, as one word of the walk. -/
def appE (args : Array Value) : Sem Value := Builtin.append_ #[207, 207] 207 args
theorem appE_eq (args : Array Value) : Builtin.append_ #[207, 207] 207 args = appE args := rfl
/-- One entry more, in a row of one's own. -/
theorem run_appE (w : World) (a' : Option Addr) (i cap' : Nat) (xs : List Value) (hown : w.ownsRow 0 109 5 (.slice a' i cap') i xs) (b : Nat) (e : En) (hb : w.heap[b]? = some (.cells (enV e).toArray 109 (0, 0))) (hi : i ≤ 1000) :
    ∃ g cap w', (appE #[.slice a' i cap', .slice (some ⟨b, 0, none⟩) 1 1]).run Tryz.prog w = .ok (.slice (some ⟨g, 0, none⟩) (i + 1) cap) w' ∧ w'.ownsRow 0 109 5 (.slice (some ⟨g, 0, none⟩) (i + 1) cap) (i + 1) (xs ++ enV e) ∧ w.grownBy w' (Value.slice a' i cap').ownBlock ∧ ((Value.slice a' i cap').ownBlock = some g ∨ g = w.heap.size) ∧ g < w'.heap.size := by
  obtain ⟨i0, hi0, hz0, hz1, hz2⟩ := info_parts Tryz.infoEntry
  exact run_append_lies (P := Tryz.prog) (w := w) 207 207 0 109 i0 _ 5 48 Tryz.underlying207 hi0 hz0 hz1 hz2 rfl (by omega) (.slice a' i cap') i xs hown ⟨b, 0, none⟩ 1 1 (enV e) rfl (World.news_of_block hb) (by simp [enV, Value.oneCell']) (by omega) (by unfold maxLen; omega) (by omega) (Nat.zero_le _) _ rfl
/-- The method Read of a reader is function f. -/
structure IsRd (T : TypeId) (f : FuncId) (a : Addr) : Prop where
  meth : ∀ w, (method 392 T (.pointer (some a)) "Read").run Tryz.prog w = .ok (f, .pointer (some a)) w
  ent : ∀ args w, (callFunc f args).run Tryz.prog w = .ok (.enter f args) w
theorem isRd_disk (a : Addr) : IsRd 29 81 a := ⟨fun w => by kernel_rfl, enters_of Tryz.func81 (by kernel_rfl) rfl⟩
theorem isRd_chg (a : Addr) : IsRd 142 192 a := ⟨fun w => by kernel_rfl, enters_of Tryz.func192 (by kernel_rfl) rfl⟩

/-- In the midst of a round of load: behind readEntry. -/
theorem ld_mid {wr w3 : World} {b6 i cap' B k : Nat} {a' : Option Addr} {xs : List Value} (hb6 : wr.heap[b6]? = some (.cells #[.int .u8 (k : Int), .slice a' i cap'] 209 (0, 0))) (hrow : wr.ownsRow 0 109 5 (.slice a' i cap') i xs) (hfresh : ∀ j, (Value.slice a' i cap').ownBlock = some j → B ≤ j) (hB : b6 < B) (hk3 : Kept (fun _ => False) wr.drew w3) (e : En) (hi : i ≤ 1000) :
    w3.cell? ⟨b6, 0, none⟩ = some (.int .u8 (k : Int)) ∧ w3.cell? ⟨b6, 1, none⟩ = some (.slice a' i cap') ∧ w3.frozen? ⟨b6, 1, none⟩ = false ∧ b6 < w3.heap.size ∧
      ∃ g cp w4, (appE #[.slice a' i cap', .slice (some ⟨w3.heap.size, 0, none⟩) 1 1]).run Tryz.prog (w3.alloc (.cells (enV e).toArray 109)) = .ok (.slice (some ⟨g, 0, none⟩) (i + 1) cp) w4 ∧ w4.cell? ⟨b6, 1, none⟩ = some (.slice a' i cap') ∧ w4.frozen? ⟨b6, 1, none⟩ = false ∧
        (Kept (fun j => j = b6 ∨ B ≤ j) wr (w4.setCell ⟨b6, 1, none⟩ (.slice (some ⟨g, 0, none⟩) (i + 1) cp)) ∧ (w4.setCell ⟨b6, 1, none⟩ (.slice (some ⟨g, 0, none⟩) (i + 1) cp)).heap[b6]? = some (.cells #[.int .u8 (k : Int), .slice (some ⟨g, 0, none⟩) (i + 1) cp] 209 (0, 0)) ∧
          (w4.setCell ⟨b6, 1, none⟩ (.slice (some ⟨g, 0, none⟩) (i + 1) cp)).ownsRow 0 109 5 (.slice (some ⟨g, 0, none⟩) (i + 1) cp) (i + 1) (xs ++ enV e) ∧ ∀ j, (Value.slice (some ⟨g, 0, none⟩) (i + 1) cp).ownBlock = some j → B ≤ j ∨ wr.heap.size ≤ j) := by
  have hlt := (Array.getElem?_eq_some_iff.1 hb6).1
  have k03 : Kept (fun _ => False) wr w3 := Kept.trans (b := wr.drew) (Kept.drew _ wr) hk3 (fun _ h => .inl h)
  have hb3 : w3.heap[b6]? = _ := (k03.block b6 hlt (fun hf => hf)).trans hb6
  have hlt3 := (Array.getElem?_eq_some_iff.1 hb3).1
  have kA : Kept (fun _ => False) w3 (w3.alloc (.cells (enV e).toArray 109)) := Kept.alloc _ _ _
  have hbA : (w3.alloc (.cells (enV e).toArray 109)).heap[b6]? = _ := (kA.block b6 hlt3 (fun hf => hf)).trans hb3
  refine ⟨by rw [cell_of_row w3 b6 0 _ _ _ hb3]; rfl, by rw [cell_of_row w3 b6 1 _ _ _ hb3]; rfl, frozen_of_row w3 b6 1 _ _ hb3, hlt3, ?_⟩
  obtain ⟨g, cp, w4, hrun, hown, hgrow, hat, hgl⟩ := run_appE (w3.alloc (.cells (enV e).toArray 109)) a' i cap' xs ((k03.trans kA (fun _ h => .inl h)).owns hrow (fun _ _ hf => hf)) w3.heap.size e (heap_alloc_new w3 _) hi
  have kG : Kept (fun j => (Value.slice a' i cap').ownBlock = some j) (w3.alloc (.cells (enV e).toArray 109)) w4 := Kept.grown hgrow (fun j hj => hj)
  have hb4 : w4.heap[b6]? = _ := (kG.block b6 (Array.getElem?_eq_some_iff.1 hbA).1 (fun hc => by have := hfresh b6 hc; omega)).trans hbA
  have kS := Kept.setCell (S := fun j => j = b6) w4 ⟨b6, 1, none⟩ (.slice (some ⟨g, 0, none⟩) (i + 1) cp) rfl
  have hsA : (w3.alloc (.cells (enV e).toArray 109)).heap.size = w3.heap.size + 1 := by simp
  have hg : B ≤ g ∨ wr.heap.size ≤ g := by
    rcases hat with h1 | h1
    · exact .inl (hfresh g h1)
    · right; have := k03.size; omega
  refine ⟨g, cp, w4, hrun, by rw [cell_of_row w4 b6 1 _ _ _ hb4]; rfl, frozen_of_row w4 b6 1 _ _ hb4, ?_, ?_, ?_, fun j hj => by simp [Value.ownBlock] at hj; rw [← hj]; exact hg⟩
  · exact (((k03.trans kA (fun _ h => .inl h)).mono (fun _ hf => hf.elim)).trans kG (fun j hj => .inl (.inr (hfresh j hj)))).trans kS (fun j hj => .inl (.inl hj))
  · rw [heap_setCell_same w4 b6 1 _ _ _ hb4]; rfl
  · refine kS.owns hown (fun j hj e0 => ?_)
    simp [Value.ownBlock] at hj
    rcases hg with h1 | h1 <;> omega
theorem readEntry_any (w : World) (b : Nat) (t : TypeId) (l : List UInt8) (h : BsAt w b t l) (k o cap : Nat) (hk : k = 4 ∨ k = 5) (ho : o + width k ≤ l.length) (hcap : width k ≤ cap) (e : En) (he : e.Ok) (hi : (l.drop o).take (width k) = itemOf k e) (h4 : k = 4 → e.mark = false ∧ e.size = 0) :
    Calls Tryz.prog 194 #[.int .u8 (k : Int), .slice (some ⟨b, o, none⟩) (width k) cap] w fun r w' => r = .returned (.agg (enV e).toArray) ∧ Kept (fun _ => False) w w' := by
  rcases hk with rfl | rfl
  · exact readEntry_branch w b t l h o cap ho hcap e he hi (h4 rfl).1 (h4 rfl).2
  · exact readEntry_leaf w b t l h o cap ho hcap e he hi
section
attribute [local go_sem ↓] appE_eq
set_option maxHeartbeats 2000000 in
theorem load_any (w : World) (T : TypeId) (f : FuncId) (a : Addr) (hrd : IsRd T f a) (X : Nat → Prop) (R : World → Prop) (at_ : Nat) (k : Nat) (es : List En) (hk : k = 4 ∨ k = 5) (hes : ∀ e ∈ es, e.Ok) (h4 : k = 4 → ∀ e ∈ es, e.mark = false ∧ e.size = 0) (hlen : es.length ≤ 6)
    (hcall : ∀ w0, Kept (fun _ => False) w w0 → Calls Tryz.prog f #[.pointer (some a), .int .i64 at_] w0 fun e w1 => e = .returned (.agg (pgV (nodePg k es)).toArray) ∧ Kept X w0 w1 ∧ R w1) (hX : ∀ i, X i → i < w.heap.size) :
    Calls Tryz.prog 174 #[.iface T (.pointer (some a)), .int .i64 at_] w fun e w' => ∃ w1 a' cap', e = .returned (.agg #[.int .u8 (k : Int), .slice a' es.length cap']) ∧ Kept X w w1 ∧ R w1 ∧ Kept (fun i => w.heap.size ≤ i) w1 w' ∧ EnRow w' (fun b => w.heap.size ≤ b) a' es ∧ w'.ownsRow 0 109 5 (.slice a' es.length cap') es.length (es.map enV).flatten ∧ (∀ j, (Value.slice a' es.length cap').ownBlock = some j → w.heap.size ≤ j) := by
  obtain ⟨Zb, hZb, hz⟩ : ∃ Zb : List Value, Zb = zeroB ∧ ∀ w, (zeroValue 154).run Tryz.prog w = .ok (.agg Zb.toArray) w := ⟨zeroB, rfl, zero_run Tryz.infoPage⟩
  have HZb : Hid (BlkOk Zb) := by rw [hZb]; exact zeroB_ok
  clear hZb
  have HI : Hid ((Tryz.prog.info? 154).map (·.size) = some 128) := size_of Tryz.infoPage
  have hmeth := hrd.meth
  have hent := hrd.ent
  have HPO : Hid (nodePg k es).Ok := nodePg_ok hk hes hlen
  have HBO : Hid (BlkOk (pgV (nodePg k es))) := pgV_ok HPO.out
  have HC : Hid _ := hcall
  have HK0 : Hid (Kept (fun _ => False) w (w.alloc (.cells #[.int .u8 0, .slice none 0 0] 209))) := Kept.alloc _ _ _
  clear hcall
  go_enter Tryz.func174, Tryz.ntmps174
  go_wp2_with fail
  refine (HC.out _ HK0.out).mono ?_
  rintro e w1 ⟨rfl, hk1, hR⟩
  have HK1 : Hid _ := hk1
  have HR : Hid (R w1) := hR
  clear hk1 hR
  go_wp2_with (first
    | (show wpList _ _ _ ({ dst := none, op := .store _ (.tmp 5) (.tmp 10), type := _, pos := _, after := _, guard := _ } :: _) _ _; refine wpList_store_new rfl 154 (.tmp 5) (.tmp 10) rfl _ _ (pgV (nodePg k es)) (by simp) rfl rfl (by rw [HBO.out.1]; exact HI.out) (by rw [List.size_toArray, HZb.out.1, HBO.out.1]) HBO.out.2 ?_; have HP : Hid (PgAt (w1.alloc (.cells (pgV (nodePg k es)).toArray 154)) w1.heap.size (nodePg k es)) := ⟨⟨heap_alloc_new w1 _⟩, HPO.out⟩)
    | (go_at_call 144; refine (kind_any _ _ _ HP.out).mono ?_; rintro e w2 ⟨rfl, rfl⟩; have hkd : (nodePg k es).kind = k := rfl; rw [hkd]))
  have HPW : Hid (PgAt ((w1.alloc (.cells (pgV (nodePg k es)).toArray 154)).alloc (.cells #[.int .u8 (k : Int), .slice none 0 0] 209)) w1.heap.size (nodePg k es)) := HP.out.kept (Kept.alloc (fun _ => False) _ _) (fun hf => hf)
  refine (count_any _ _ _ HPW.out).mono ?_
  rintro e w2 ⟨rfl, hw⟩
  rw [hw]
  have hcnt : (nodePg k es).items.length = es.length := by simp [nodePg]
  rw [hcnt]
  clear hw w2 hkd
  have HB6 : Hid (((w1.alloc (.cells (pgV (nodePg k es)).toArray 154)).alloc (.cells #[.int .u8 (k : Int), .slice none 0 0] 209)).heap[w1.heap.size + 1]? = some (.cells #[.int .u8 (k : Int), .slice none 0 0] 209 (0, 0))) := heap_alloc2_new w1 _ _
  have HK2 : Hid (Kept (fun _ => False) w1 ((w1.alloc (.cells (pgV (nodePg k es)).toArray 154)).alloc (.cells #[.int .u8 (k : Int), .slice none 0 0] 209))) := Kept.alloc2 _ _ _
  have hWs : ((w1.alloc (.cells (pgV (nodePg k es)).toArray 154)).alloc (.cells #[.int .u8 (k : Int), .slice none 0 0] 209)).heap.size = w1.heap.size + 2 := by simp
  have hs1 : w.heap.size + 1 ≤ w1.heap.size := by have := HK1.out.size; simpa using this
  generalize ((w1.alloc (.cells (pgV (nodePg k es)).toArray 154)).alloc (.cells #[.int .u8 (k : Int), .slice none 0 0] 209)) = W at *
  obtain ⟨i0, hi0, hz0, hz1, hz2⟩ := info_parts Tryz.infoEntry
  have HI0 : Hid (Tryz.prog.info? 109 = some i0 ∧ i0.zero = some (.agg #[.string ⟨#[]⟩, .int .i64 0, .bool false, .int .i64 0, .int .i64 0]) ∧ i0.size = 5 ∧ i0.bytes = 48) := ⟨hi0, hz0, hz1, hz2⟩
  clear hi0 hz0 hz1 hz2 hmeth hent
  go_wp2
  go_loopw [14] (fun t wr => ∃ (i : Nat) (a' : Option Addr) (cap' : Nat), i ≤ es.length ∧ t = .int .i64 i ∧ Kept (fun j => j = w1.heap.size + 1 ∨ W.heap.size ≤ j) W wr ∧ wr.heap[w1.heap.size + 1]? = some (.cells #[.int .u8 (k : Int), .slice a' i cap'] 209 (0, 0)) ∧ wr.ownsRow 0 109 5 (.slice a' i cap') i ((es.take i).map enV).flatten ∧ ∀ j, (Value.slice a' i cap').ownBlock = some j → W.heap.size ≤ j) (fun t _ => es.length - (intOf t).toNat)
  case atStart => exact ⟨0, none, 0, Nat.zero_le _, rfl, Kept.refl _ _, HB6.out, World.ownsRow_nil _ 0 109 5, fun j hj => by cases hj⟩
  case round =>
    obtain ⟨i, a', cap', hi, rfl, hkept, hb6, hrow, hfresh⟩ := hrel
    have HK : Hid _ := hkept
    have HB : Hid _ := hb6
    have HW : Hid _ := hrow
    have HF : Hid _ := hfresh
    have hc0 : wr.cell? ⟨w1.heap.size + 1, 0, none⟩ = some (.int .u8 (k : Int)) := by rw [cell_of_row wr _ 0 _ _ _ hb6]; rfl
    have hc1 : wr.cell? ⟨w1.heap.size + 1, 1, none⟩ = some (.slice a' i cap') := by rw [cell_of_row wr _ 1 _ _ _ hb6]; rfl
    have hf1 := frozen_of_row wr (w1.heap.size + 1) 1 _ _ hb6
    have hlt6 := (Array.getElem?_eq_some_iff.1 hb6).1
    have HPR : Hid (PgAt wr w1.heap.size (nodePg k es)) := HPW.out.kept hkept (fun hc => by omega)
    clear hkept hb6 hrow hfresh
    by_cases hlt : i < es.length
    · have hitem : (nodePg k es).items.length = es.length := hcnt
      have HIT : Hid ((nodePg k es).items[i]'(by rw [hcnt]; exact hlt) = itemOf k es[i]) := by show (nodePg k es).items[i]'(by rw [hcnt]; exact hlt) = _; simp [nodePg]
      have HEO : Hid es[i].Ok := hes _ (List.getElem_mem hlt)
      have HIB := HPO.out.item i (by rw [hcnt]; exact hlt)
      rw [HIT.out] at HIB
      have HSN : Hid ((es.take (i + 1)).map enV = (es.take i).map enV ++ [enV es[i]]) := by show _ = _; rw [List.take_succ_eq_append_getElem hlt, List.map_append]; rfl
      have HIT2 : Hid (itemV w1.heap.size (nodePg k es).kind i = .slice (some ⟨w1.heap.size, 4 + i * width k, none⟩) (width k) (124 - i * width k)) := rfl
      have HIB2 : Hid (((nodePg k es).bytes.drop (4 + i * width k)).take (width k) = itemOf k es[i]) := HIB
      have hpl := HPO.out.len
      have hfit : i * width k + width k ≤ 124 := by
        have h1 : (i + 1) * width k ≤ (nodePg k es).items.length * width k := Nat.mul_le_mul_right _ (by rw [hcnt]; exact hlt)
        have h2 := HPO.out.fits
        have h3 : (nodePg k es).kind = k := rfl
        rw [h3] at h2
        rw [Nat.add_mul, Nat.one_mul] at h1
        omega
      have hw1 : 1 ≤ width k := by rcases hk with rfl | rfl <;> decide
      have H4 : Hid (k = 4 → es[i].mark = false ∧ es[i].size = 0) := fun h => h4 h _ (List.getElem_mem hlt)
      clear HIB
      generalize es[i] = e at *
      generalize hx : i * width k = x at *
      go_wp2
      go_region_law ((first
          | (go_simp; go_at_call 84; refine (item_any _ w1.heap.size (nodePg k es) (by exact HPR.out.kept (Kept.drew (fun _ => False) wr) (fun hf => hf)) i (by rw [hcnt]; exact hlt) (by exact hw1)).mono ?_; rintro r w3 ⟨rfl, hw3⟩; rw [hw3, HIT2.out]; clear hw3 w3; dsimp only)
          | (go_simp; go_at_call 194; refine (readEntry_any _ w1.heap.size _ _ (by exact (HPR.out.kept (Kept.drew (fun _ => False) wr) (fun hf => hf)).bs) k (4 + x) (124 - x) hk (by omega) (by omega) e HEO.out HIB2.out H4.out).mono ?_; rintro r w3 ⟨rfl, hk3⟩; have HLM : Hid _ := ld_mid HB.out HW.out HF.out (by omega) hk3 e (by omega); obtain ⟨hc03, hc13, hf13, hlt63, g, cp, w4, hrun, hc14, hf14, hdone⟩ := HLM.out; have HDN : Hid _ := hdone; clear hk3 hdone HLM; unfold enV at hrun ⊢; dsimp only)))
      all_goals
        go_wp2
        go_roundw
        case rel =>
          obtain ⟨d1, d2, d3, d4⟩ := HDN.out
          refine ⟨i + 1, some ⟨g, 0, none⟩, cp, by omega, by go_num, HK.out.trans d1 (fun j hj => .inl hj), d2, ?_, fun j hj => ?_⟩
          · rw [HSN.out, List.flatten_append]; simpa using d3
          · rcases d4 j hj with h1 | h1
            · exact h1
            · have := HK.out.size; omega
        case measure => simp [intOf]; omega
    · have hie : i = es.length := by omega
      subst hie
      have HRES : Hid (wr.heap[w.heap.size]? = some (.cells #[.int .u8 0, .slice none 0 0] 209 (0, 0))) := by
        show wr.heap[w.heap.size]? = _
        rw [HK.out.block w.heap.size (by omega) (by omega), HK2.out.block w.heap.size (by omega) (fun hf => hf), HK1.out.block w.heap.size (by simp) (fun hc => by have := hX _ hc; omega)]
        exact heap_alloc_new w _
      have hr0 : wr.cell? ⟨w.heap.size, 0, none⟩ = some (.int .u8 0) := by rw [cell_of_row wr _ 0 _ _ _ HRES.out]; rfl
      have hr1 : wr.cell? ⟨w.heap.size, 1, none⟩ = some (.slice none 0 0) := by rw [cell_of_row wr _ 1 _ _ _ HRES.out]; rfl
      have hrf0 := frozen_of_row wr w.heap.size 0 _ _ HRES.out
      have hrf1 := frozen_of_row wr w.heap.size 1 _ _ HRES.out
      go_wp2
      have hh1 := heap_setCell_same wr w.heap.size 0 _ _ (.int .u8 (k : Int)) HRES.out
      have hh2 := heap_setCell_same _ w.heap.size 1 _ _ (.slice a' es.length cap') hh1
      have hkS : Kept (fun j => j = w.heap.size) wr ((wr.setCell ⟨w.heap.size, 0, none⟩ (.int .u8 (k : Int))).setCell ⟨w.heap.size, 1, none⟩ (.slice a' es.length cap')) := (Kept.setCell (S := fun j => j = w.heap.size) wr ⟨w.heap.size, 0, none⟩ _ rfl).trans (Kept.setCell (S := fun j => j = w.heap.size) _ ⟨w.heap.size, 1, none⟩ _ rfl) (fun _ h => .inl h)
      refine bodyPost_ret (v := .agg #[.int .u8 (k : Int), .slice a' es.length cap']) (results_cell_row Tryz.results174 _ _ w.heap.size 209 _ (0, 0) _ rfl hh2 Tryz.underlying209 rfl (by kernel_rfl)) rfl ⟨w1, a', cap', rfl, ?_, HR.out, ?_, ?_⟩
      · exact (HK0.out.mono (fun _ hf => hf.elim)).trans HK1.out (fun _ h => .inl h)
      · exact ((HK2.out.mono (fun _ hf => hf.elim)).trans HK.out (fun j hj => .inl (by omega))).trans hkS (fun j hj => .inl (by omega))
      · have hw := HW.out
        rw [List.take_length] at hw
        have hrow := hkS.owns (v := .slice a' es.length cap') hw (fun j hj e0 => by have := HF.out j hj; omega)
        exact ⟨EnRow.of_own hrow (fun j hj => by have := HF.out j hj; omega) (by omega), hrow, fun j hj => by have := HF.out j hj; omega⟩
end
end Go.Proofs.YtcoengihaobddaaGreatDoor.prog
namespace Go.Proofs.YtcoengihaobddaaGreatDoor.prog
open Go.ChangeShapes Go.WideShapes Go.ChangeAt Go.RowKit Go.Proofs.YtcoengihaobddaaGreatDoor.disk Go.Proofs.YtcoengihaobddaaGreatDoor.ref
open Go.Proofs.YtcoengihaobddaaGreatDoor.keys (ret_int ret_bool beq_no beq_yes)
set_option linter.unusedVariables false
set_option maxRecDepth 8000

def cpK (args : Array Value) : Sem Value := Builtin.copy_ #[35, 9] 3 args
theorem cpK_eq (args : Array Value) : Builtin.copy_ #[35, 9] 3 args = cpK args := rfl
theorem u8_size : (Tryz.prog.info? 5).map (·.size) = some 1 := by kernel_rfl
theorem run_cpK (w : World) (b : Nat) (t : TypeId) (l : List UInt8) (h : BsAt w b t l) (o cap : Nat) (ho : o + 8 ≤ l.length) (key : ByteArray) (hk : key.size ≤ 8) :
    ∃ w', (cpK #[.slice (some ⟨b, o, none⟩) 8 cap, .string key]).run Tryz.prog w = .ok (goInt key.size) w' ∧ BsAt w' b t (over l o key.data.toList) ∧ Kept (fun i => i = b) w w' := by
  have hr := Lib.run_copy_row_string (P := Tryz.prog) w 35 9 3 5 b o 8 cap key (l.map byteV).toArray t Tryz.underlying35 u8_size h.at_ hk (by simp; omega)
  refine ⟨_, hr, ⟨?_⟩, ⟨rfl, rfl, rfl, by simp, fun k _ hk => setRow_other w b k _ (fun e => hk (by rw [e]))⟩⟩
  rw [setRow_heap w b _ _ t _ h.at_]
  congr 2
  have hs : key.data.toList.length = key.size := by simp
  unfold over Lib.byteCells
  rw [hs]
  simp [byteV, List.map_take, List.map_drop]

/-- A key over noughts. -/
theorem over_key (l : List UInt8) (o : Nat) (key : ByteArray) (hk : key.data.toList.length ≤ 8) (hz : (l.drop o).take 8 = List.replicate 8 0) (ho : o + 8 ≤ l.length) : over l o key.data.toList = over l o (keyBytes key) := by
  have e1 : l.drop (o + key.data.toList.length) = List.replicate (8 - key.data.toList.length) 0 ++ l.drop (o + 8) := by
    have h1 : l.drop o = List.replicate 8 0 ++ l.drop (o + 8) := by rw [← List.drop_drop, ← hz, List.take_append_drop]
    rw [← List.drop_drop, h1, List.drop_append_of_le_length (by simpa using hk), List.drop_replicate]
  unfold over
  rw [e1, keyBytes_len _ hk, keyBytes]
  simp
/-- An item's parts, one behind the other. -/
theorem over_item (l : List UInt8) (o : Nat) (e : En) (he : e.Ok) (hz : (l.drop o).take 8 = List.replicate 8 0) (ho : o + 18 ≤ l.length) :
    over (over (over l o e.pl.key.data.toList) (o + 8) (bytesOf 8 e.pl.num.toNat)) (o + 16) (bytesOf 2 e.at_) = over l o (branchItem e) := by
  have h1 := keyBytes_len _ he.key
  have h2 := bytesOf_len 8 e.pl.num.toNat
  have h3 := bytesOf_len 2 e.at_
  have a1 := over_over l o (keyBytes e.pl.key) (bytesOf 8 e.pl.num.toNat) (by omega)
  have a2 := over_over l o (keyBytes e.pl.key ++ bytesOf 8 e.pl.num.toNat) (bytesOf 2 e.at_) (by rw [List.length_append]; omega)
  rw [h1] at a1
  rw [List.length_append, h1, h2] at a2
  rw [over_key l o e.pl.key he.key hz (by omega), a1, show o + 16 = o + (8 + 8) from by omega, a2]
  rfl
theorem over_leaf (l : List UInt8) (o : Nat) (e : En) (he : e.Ok) (ho : o + 20 ≤ l.length) : over (over l o (branchItem e)) (o + 18) (bytesOf 2 (sizeOf' e)) = over l o (leafItem e) := by
  have h1 := branchItem_len he
  have h2 := bytesOf_len 2 (sizeOf' e)
  have a1 := over_over l o (branchItem e) (bytesOf 2 (sizeOf' e)) (by omega)
  rw [h1] at a1
  exact a1

section
attribute [local go_sem ↓] cpK_eq
set_option maxHeartbeats 2000000 in
theorem writeEntry_branch (w : World) (b : Nat) (t : TypeId) (l : List UInt8) (h : BsAt w b t l) (o cap : Nat) (ho : o + 18 ≤ l.length) (hcap : 18 ≤ cap) (e : En) (he : e.Ok) (hz : (l.drop o).take 8 = List.replicate 8 0) :
    Calls Tryz.prog 193 #[.int .u8 4, .slice (some ⟨b, o, none⟩) 18 cap, .agg #[.string e.pl.key, .int .i64 e.pl.num, .bool e.mark, .int .i64 (e.size : Int), .int .i64 (e.at_ : Int)]] w fun r w' => r = .returned (.tuple #[]) ∧ BsAt w' b t (over l o (branchItem e)) ∧ Kept (fun i => i = b) w w' := by
  obtain ⟨m, hm⟩ : ∃ m : Nat, e.pl.num = m := ⟨e.pl.num.toNat, by have := he.num0; omega⟩
  have HOV : Hid _ := over_item l o e he hz ho
  have hmt : e.pl.num.toNat = m := by omega
  rw [hmt] at HOV
  have hm1 : m < 9223372036854775808 := by have := he.num1; omega
  have hat := he.at_
  have hk8 : e.pl.key.size ≤ 8 := by have := he.key; simpa using this
  have hbl := h.lt
  have HBX : Hid ((w.alloc (.cells #[.string e.pl.key, .int .i64 (m : Int), .bool e.mark, .int .i64 (e.size : Int), .int .i64 (e.at_ : Int)] 109)).heap[w.heap.size]? = some (.cells #[.string e.pl.key, .int .i64 (m : Int), .bool e.mark, .int .i64 (e.size : Int), .int .i64 (e.at_ : Int)] 109 (0, 0))) := heap_alloc_new w _
  have HK0 : Hid (Kept (fun _ => False) w (w.alloc (.cells #[.string e.pl.key, .int .i64 (m : Int), .bool e.mark, .int .i64 (e.size : Int), .int .i64 (e.at_ : Int)] 109))) := Kept.alloc _ _ _
  have HH : Hid _ := h
  rw [hm]
  have hc8 : (8 : Int) ≤ (cap : Int) := by omega
  have hn8 : ¬ cap = 8 := by omega
  have hn16 : ¬ cap = 16 := by omega
  have hc16 : (16 : Int) ≤ (cap : Int) := by omega
  have hc18 : (18 : Int) ≤ (cap : Int) := by omega
  have HL1 : Hid ((over l o e.pl.key.data.toList).length = l.length) := over_len _ _ _ (by have := he.key; omega)
  clear h hz he
  go_enter Tryz.func193, Tryz.ntmps193
  go_wp2
  have hs0 : (w.alloc (.cells #[.string e.pl.key, .int .i64 (m : Int), .bool e.mark, .int .i64 (e.size : Int), .int .i64 (e.at_ : Int)] 109)).heap.size = w.heap.size + 1 := by simp
  have HB0 : Hid (BsAt (w.alloc (.cells #[.string e.pl.key, .int .i64 (m : Int), .bool e.mark, .int .i64 (e.size : Int), .int .i64 (e.at_ : Int)] 109)) b t l) := HH.out.kept HK0.out (fun hf => hf)
  generalize (w.alloc (.cells #[.string e.pl.key, .int .i64 (m : Int), .bool e.mark, .int .i64 (e.size : Int), .int .i64 (e.at_ : Int)] 109)) = W at *
  have hx0 : W.cell? ⟨w.heap.size, 0, none⟩ = some (.string e.pl.key) := by rw [cell_of_row W _ 0 _ _ _ HBX.out]; rfl
  obtain ⟨w1, hrun, hb1, hk1⟩ := run_cpK W.drew b t l (HB0.out.kept (Kept.drew (fun _ => False) W) (fun hf => hf)) o cap (by omega) e.pl.key hk8
  have HB1 : Hid _ := hb1
  have HK1 : Hid (Kept (fun i => i = b) W.drew w1) := hk1
  have hbx1 : w1.heap[w.heap.size]? = _ := (hk1.block w.heap.size (by show w.heap.size < W.heap.size; omega) (by omega)).trans HBX.out
  have HBX1 : Hid _ := hbx1
  have hx1 : w1.cell? ⟨w.heap.size, 1, none⟩ = some (.int .i64 (m : Int)) := by rw [cell_of_row w1 _ 1 _ _ _ hbx1]; rfl
  clear hb1 hk1 hbx1
  have hx10 : w1.cell? ⟨w.heap.size, 0, none⟩ = some (.string e.pl.key) := by rw [cell_of_row w1 _ 0 _ _ _ HBX1.out]; rfl
  go_region_held3 (fun w' => w'.cell? ⟨w.heap.size, 0, none⟩ = some (.string e.pl.key)) (go_keep) (fail)
  have hwl1 : w.heap.size < w1.heap.size := (Array.getElem?_eq_some_iff.1 HBX1.out).1
  go_wp2
  go_region_held3 (fun w' => w'.cell? ⟨w.heap.size, 1, none⟩ = some (.int .i64 (m : Int))) (go_keep) ((go_at_call 138; refine (setNumber_any _ b t _ (by exact HB1.out.kept (Kept.drew (fun _ => False) w1) (fun hf => hf)) (o + 8) 8 (cap - 8) (by rw [HL1.out]; omega) (by omega) m hm1).mono ?_; rintro r w2 ⟨rfl, hb2, hk2⟩; have HB2 : Hid _ := hb2; have HK2 : Hid (Kept (fun i => i = b) w1.drew w2) := hk2; have hbx2 : w2.heap[w.heap.size]? = _ := (hk2.block w.heap.size hwl1 (by omega)).trans HBX1.out; have HBX2 : Hid _ := hbx2; have hx2 : w2.cell? ⟨w.heap.size, 1, none⟩ = some (.int .i64 (m : Int)) := (by rw [cell_of_row w2 _ 1 _ _ _ hbx2]; rfl); clear hb2 hk2 hbx2))
  have hwl2 : w.heap.size < w2.heap.size := (Array.getElem?_eq_some_iff.1 HBX2.out).1
  have hx24 : w2.cell? ⟨w.heap.size, 4, none⟩ = some (.int .i64 (e.at_ : Int)) := by rw [cell_of_row w2 _ 4 _ _ _ HBX2.out]; rfl
  have HL2 : Hid ((over (over l o e.pl.key.data.toList) (o + 8) (bytesOf 8 m)).length = l.length) := (over_len _ _ _ (by rw [HL1.out, bytesOf_len]; omega)).trans HL1.out
  go_wp2
  go_region_held3 (fun w' => w'.cell? ⟨w.heap.size, 4, none⟩ = some (.int .i64 (e.at_ : Int))) (go_keep) ((go_at_call 138; refine (setNumber_any _ b t _ (by exact HB2.out.kept (Kept.drew (fun _ => False) w2) (fun hf => hf)) (o + 16) 2 (cap - 16) (by rw [HL2.out]; omega) (by omega) e.at_ (by omega)).mono ?_; rintro r w3 ⟨rfl, hb3, hk3⟩; have HB3 : Hid _ := hb3; have HK3 : Hid (Kept (fun i => i = b) w2.drew w3) := hk3; have hbx3 : w3.heap[w.heap.size]? = _ := (hk3.block w.heap.size hwl2 (by omega)).trans HBX2.out; have HBX3 : Hid _ := hbx3; have hx34 : w3.cell? ⟨w.heap.size, 4, none⟩ = some (.int .i64 (e.at_ : Int)) := (by rw [cell_of_row w3 _ 4 _ _ _ hbx3]; rfl); clear hb3 hk3 hbx3))
  have hx32 : w3.cell? ⟨w.heap.size, 2, none⟩ = some (.bool e.mark) := by rw [cell_of_row w3 _ 2 _ _ _ HBX3.out]; rfl
  have hx33 : w3.cell? ⟨w.heap.size, 3, none⟩ = some (.int .i64 (e.size : Int)) := by rw [cell_of_row w3 _ 3 _ _ _ HBX3.out]; rfl
  have HFB : Hid (BsAt w3 b t (over l o (branchItem e))) := by have := HB3.out; rw [HOV.out] at this; exact this
  have HFK : Hid (Kept (fun i => i = b) w w3) := (((HK0.out.mono (fun _ hf => hf.elim)).trans (Kept.trans (b := W.drew) (Kept.drew _ W) HK1.out (fun _ h => .inl h)) (fun _ h => .inl h)).trans (Kept.trans (b := w1.drew) (Kept.drew _ w1) HK2.out (fun _ h => .inl h)) (fun _ h => .inl h)).trans (Kept.trans (b := w2.drew) (Kept.drew _ w2) HK3.out (fun _ h => .inl h)) (fun _ h => .inl h)
  go_wp2
  all_goals
    go_end0
    exact ⟨rfl, HFB.out, HFK.out⟩
set_option maxHeartbeats 2000000 in
theorem writeEntry_leaf (w : World) (b : Nat) (t : TypeId) (l : List UInt8) (h : BsAt w b t l) (o cap : Nat) (ho : o + 20 ≤ l.length) (hcap : 20 ≤ cap) (e : En) (he : e.Ok) (hz : (l.drop o).take 8 = List.replicate 8 0) :
    Calls Tryz.prog 193 #[.int .u8 5, .slice (some ⟨b, o, none⟩) 20 cap, .agg #[.string e.pl.key, .int .i64 e.pl.num, .bool e.mark, .int .i64 (e.size : Int), .int .i64 (e.at_ : Int)]] w fun r w' => r = .returned (.tuple #[]) ∧ BsAt w' b t (over l o (leafItem e)) ∧ Kept (fun i => i = b) w w' := by
  obtain ⟨m, hm⟩ : ∃ m : Nat, e.pl.num = m := ⟨e.pl.num.toNat, by have := he.num0; omega⟩
  have HLF : Hid _ := over_leaf l o e he ho
  have HBL : Hid ((branchItem e).length = 18) := branchItem_len he
  have hsz := he.size
  have HOV : Hid _ := over_item l o e he hz (by omega)
  have hmt : e.pl.num.toNat = m := by omega
  rw [hmt] at HOV
  have hm1 : m < 9223372036854775808 := by have := he.num1; omega
  have hat := he.at_
  have hk8 : e.pl.key.size ≤ 8 := by have := he.key; simpa using this
  have hbl := h.lt
  have HBX : Hid ((w.alloc (.cells #[.string e.pl.key, .int .i64 (m : Int), .bool e.mark, .int .i64 (e.size : Int), .int .i64 (e.at_ : Int)] 109)).heap[w.heap.size]? = some (.cells #[.string e.pl.key, .int .i64 (m : Int), .bool e.mark, .int .i64 (e.size : Int), .int .i64 (e.at_ : Int)] 109 (0, 0))) := heap_alloc_new w _
  have HK0 : Hid (Kept (fun _ => False) w (w.alloc (.cells #[.string e.pl.key, .int .i64 (m : Int), .bool e.mark, .int .i64 (e.size : Int), .int .i64 (e.at_ : Int)] 109))) := Kept.alloc _ _ _
  have HH : Hid _ := h
  rw [hm]
  have hc8 : (8 : Int) ≤ (cap : Int) := by omega
  have hn8 : ¬ cap = 8 := by omega
  have hn16 : ¬ cap = 16 := by omega
  have hn18 : ¬ cap = 18 := by omega
  have hc16 : (16 : Int) ≤ (cap : Int) := by omega
  have hc18 : (18 : Int) ≤ (cap : Int) := by omega
  have HL1 : Hid ((over l o e.pl.key.data.toList).length = l.length) := over_len _ _ _ (by have := he.key; omega)
  clear h hz he
  go_enter Tryz.func193, Tryz.ntmps193
  go_wp2
  have hs0 : (w.alloc (.cells #[.string e.pl.key, .int .i64 (m : Int), .bool e.mark, .int .i64 (e.size : Int), .int .i64 (e.at_ : Int)] 109)).heap.size = w.heap.size + 1 := by simp
  have HB0 : Hid (BsAt (w.alloc (.cells #[.string e.pl.key, .int .i64 (m : Int), .bool e.mark, .int .i64 (e.size : Int), .int .i64 (e.at_ : Int)] 109)) b t l) := HH.out.kept HK0.out (fun hf => hf)
  generalize (w.alloc (.cells #[.string e.pl.key, .int .i64 (m : Int), .bool e.mark, .int .i64 (e.size : Int), .int .i64 (e.at_ : Int)] 109)) = W at *
  have hx0 : W.cell? ⟨w.heap.size, 0, none⟩ = some (.string e.pl.key) := by rw [cell_of_row W _ 0 _ _ _ HBX.out]; rfl
  obtain ⟨w1, hrun, hb1, hk1⟩ := run_cpK W.drew b t l (HB0.out.kept (Kept.drew (fun _ => False) W) (fun hf => hf)) o cap (by omega) e.pl.key hk8
  have HB1 : Hid _ := hb1
  have HK1 : Hid (Kept (fun i => i = b) W.drew w1) := hk1
  have hbx1 : w1.heap[w.heap.size]? = _ := (hk1.block w.heap.size (by show w.heap.size < W.heap.size; omega) (by omega)).trans HBX.out
  have HBX1 : Hid _ := hbx1
  have hx1 : w1.cell? ⟨w.heap.size, 1, none⟩ = some (.int .i64 (m : Int)) := by rw [cell_of_row w1 _ 1 _ _ _ hbx1]; rfl
  clear hb1 hk1 hbx1
  have hx10 : w1.cell? ⟨w.heap.size, 0, none⟩ = some (.string e.pl.key) := by rw [cell_of_row w1 _ 0 _ _ _ HBX1.out]; rfl
  go_region_held3 (fun w' => w'.cell? ⟨w.heap.size, 0, none⟩ = some (.string e.pl.key)) (go_keep) (fail)
  have hwl1 : w.heap.size < w1.heap.size := (Array.getElem?_eq_some_iff.1 HBX1.out).1
  go_wp2
  go_region_held3 (fun w' => w'.cell? ⟨w.heap.size, 1, none⟩ = some (.int .i64 (m : Int))) (go_keep) ((go_at_call 138; refine (setNumber_any _ b t _ (by exact HB1.out.kept (Kept.drew (fun _ => False) w1) (fun hf => hf)) (o + 8) 8 (cap - 8) (by rw [HL1.out]; omega) (by omega) m hm1).mono ?_; rintro r w2 ⟨rfl, hb2, hk2⟩; have HB2 : Hid _ := hb2; have HK2 : Hid (Kept (fun i => i = b) w1.drew w2) := hk2; have hbx2 : w2.heap[w.heap.size]? = _ := (hk2.block w.heap.size hwl1 (by omega)).trans HBX1.out; have HBX2 : Hid _ := hbx2; have hx2 : w2.cell? ⟨w.heap.size, 1, none⟩ = some (.int .i64 (m : Int)) := (by rw [cell_of_row w2 _ 1 _ _ _ hbx2]; rfl); clear hb2 hk2 hbx2))
  have hwl2 : w.heap.size < w2.heap.size := (Array.getElem?_eq_some_iff.1 HBX2.out).1
  have hx24 : w2.cell? ⟨w.heap.size, 4, none⟩ = some (.int .i64 (e.at_ : Int)) := by rw [cell_of_row w2 _ 4 _ _ _ HBX2.out]; rfl
  have HL2 : Hid ((over (over l o e.pl.key.data.toList) (o + 8) (bytesOf 8 m)).length = l.length) := (over_len _ _ _ (by rw [HL1.out, bytesOf_len]; omega)).trans HL1.out
  go_wp2
  go_region_held3 (fun w' => w'.cell? ⟨w.heap.size, 4, none⟩ = some (.int .i64 (e.at_ : Int))) (go_keep) ((go_at_call 138; refine (setNumber_any _ b t _ (by exact HB2.out.kept (Kept.drew (fun _ => False) w2) (fun hf => hf)) (o + 16) 2 (cap - 16) (by rw [HL2.out]; omega) (by omega) e.at_ (by omega)).mono ?_; rintro r w3 ⟨rfl, hb3, hk3⟩; have HB3 : Hid _ := hb3; have HK3 : Hid (Kept (fun i => i = b) w2.drew w3) := hk3; have hbx3 : w3.heap[w.heap.size]? = _ := (hk3.block w.heap.size hwl2 (by omega)).trans HBX2.out; have HBX3 : Hid _ := hbx3; have hx34 : w3.cell? ⟨w.heap.size, 4, none⟩ = some (.int .i64 (e.at_ : Int)) := (by rw [cell_of_row w3 _ 4 _ _ _ hbx3]; rfl); clear hb3 hk3 hbx3))
  have hx32 : w3.cell? ⟨w.heap.size, 2, none⟩ = some (.bool e.mark) := by rw [cell_of_row w3 _ 2 _ _ _ HBX3.out]; rfl
  have hx33 : w3.cell? ⟨w.heap.size, 3, none⟩ = some (.int .i64 (e.size : Int)) := by rw [cell_of_row w3 _ 3 _ _ _ HBX3.out]; rfl
  have HFB : Hid (BsAt w3 b t (over l o (branchItem e))) := by have := HB3.out; rw [HOV.out] at this; exact this
  have HFK : Hid (Kept (fun i => i = b) w w3) := (((HK0.out.mono (fun _ hf => hf.elim)).trans (Kept.trans (b := W.drew) (Kept.drew _ W) HK1.out (fun _ h => .inl h)) (fun _ h => .inl h)).trans (Kept.trans (b := w1.drew) (Kept.drew _ w1) HK2.out (fun _ h => .inl h)) (fun _ h => .inl h)).trans (Kept.trans (b := w2.drew) (Kept.drew _ w2) HK3.out (fun _ h => .inl h)) (fun _ h => .inl h)
  have HL3 : Hid ((over l o (branchItem e)).length = l.length) := over_len _ _ _ (by rw [HBL.out]; omega)
  cases hmk : e.mark with
  | false =>
    rw [hmk] at hx32
    have HSZ : Hid (sizeOf' e = e.size) := by show sizeOf' e = _; unfold sizeOf'; rw [hmk]; rfl
    go_wp2_with (go_at_call 138; refine (setNumber_any _ b t _ HFB.out (o + 18) 2 (cap - 18) (by rw [HL3.out]; omega) (by omega) e.size (by omega)).mono ?_; rintro r w4 ⟨rfl, hb4, hk4⟩; have HB4 : Hid _ := hb4; have HK4 : Hid _ := hk4; clear hb4 hk4)
    go_end0
    refine ⟨rfl, ?_, HFK.out.trans HK4.out (fun _ h => .inl h)⟩
    have h4 := HB4.out
    have hlf := HLF.out
    rw [HSZ.out] at hlf
    rw [hlf] at h4
    exact h4
  | true =>
    rw [hmk] at hx32
    have HSZ : Hid (sizeOf' e = 65535) := by show sizeOf' e = _; unfold sizeOf'; rw [hmk]; rfl
    go_wp2_with (go_at_call 138; refine (setNumber_any _ b t _ HFB.out (o + 18) 2 (cap - 18) (by rw [HL3.out]; omega) (by omega) 65535 (by omega)).mono ?_; rintro r w4 ⟨rfl, hb4, hk4⟩; have HB4 : Hid _ := hb4; have HK4 : Hid _ := hk4; clear hb4 hk4)
    go_end0
    refine ⟨rfl, ?_, HFK.out.trans HK4.out (fun _ h => .inl h)⟩
    have h4 := HB4.out
    have hlf := HLF.out
    rw [HSZ.out] at hlf
    rw [hlf] at h4
    exact h4
end
end Go.Proofs.YtcoengihaobddaaGreatDoor.prog

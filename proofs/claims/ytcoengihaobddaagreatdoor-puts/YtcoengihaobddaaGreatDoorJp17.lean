/- Part 17 of 39 of a proof: Tree2, Tree3, Tree4, Tree5 -/
import Derived.Test.YtcoengihaobddaaGreatDoorJp16
import Derived.Deep.QuietTactic
import Derived.BigQuiet
import Derived.Test.YtcoengihaobddaaGreatDoorJp03
import Derived.Laws.IdiomStrings
namespace Go.Proofs.YtcoengihaobddaaGreatDoor.prog
open Go.ChangeShapes Go.WideShapes Go.ChangeAt Go.RowKit Go.Proofs.YtcoengihaobddaaGreatDoor.disk Go.Proofs.YtcoengihaobddaaGreatDoor.ref
open Go.Proofs.YtcoengihaobddaaGreatDoor.keys (ret_int ret_bool beq_no beq_yes)
set_option linter.unusedVariables false
set_option maxRecDepth 8000

/-- An entry's cells. -/
def enV (e : En) : List Value := [.string e.pl.key, .int .i64 e.pl.num, .bool e.mark, .int .i64 (e.size : Int), .int .i64 (e.at_ : Int)]
/-- Some entries lie one behind the other, in a block of P. -/
structure EnRow (w : World) (P : Nat → Prop) (a : Option Addr) (es : List En) : Prop where
  at_ : es = [] ∨ ∃ g o, a = some ⟨g, o, none⟩ ∧ P g ∧ g < w.heap.size ∧ ∀ k (hk : k < es.length), w.rangeAt g (o + k * 5) (enV es[k])
  few : es.length ≤ 1000
theorem EnRow.kept {w w' : World} {P X : Nat → Prop} {a : Option Addr} {es : List En} (h : EnRow w P a es) (k : Kept X w w') (hn : ∀ i, P i → ¬ X i) : EnRow w' P a es :=
  ⟨h.at_.imp id (fun ⟨g, o, h1, h2, h3, h4⟩ => ⟨g, o, h1, h2, Nat.lt_of_lt_of_le h3 k.size, fun j hj t v hv => (k.cell (a := ⟨g, o + j * 5 + t, none⟩) h3 (hn g h2)).trans (h4 j hj t v hv)⟩), h.few⟩
theorem EnRow.cells {w : World} {P : Nat → Prop} {g o : Nat} {es : List En} (h : EnRow w P (some ⟨g, o, none⟩) es) (k : Nat) (hk : k < es.length) :
    w.cell? ⟨g, o + k * 5, none⟩ = some (.string es[k].pl.key) ∧ w.cell? ⟨g, o + k * 5 + 1, none⟩ = some (.int .i64 es[k].pl.num) ∧ w.cell? ⟨g, o + k * 5 + 2, none⟩ = some (.bool es[k].mark) ∧ w.cell? ⟨g, o + k * 5 + 3, none⟩ = some (.int .i64 (es[k].size : Int)) ∧ w.cell? ⟨g, o + k * 5 + 4, none⟩ = some (.int .i64 (es[k].at_ : Int)) ∧ P g ∧ g < w.heap.size := by
  rcases h.at_ with h0 | ⟨g', o', h1, h2, h3, h4⟩
  · rw [h0] at hk; simp at hk
  · cases h1
    have hx := h4 k hk
    exact ⟨hx 0 _ rfl, hx 1 _ rfl, hx 2 _ rfl, hx 3 _ rfl, hx 4 _ rfl, h2, h3⟩
theorem EnRow.base {w : World} {P : Nat → Prop} {a : Option Addr} {es : List En} (h : EnRow w P a es) (hn : 0 < es.length) : ∃ g o, a = some ⟨g, o, none⟩ := by
  rcases h.at_ with h0 | ⟨g, o, h1, _⟩
  · rw [h0] at hn; simp at hn
  · exact ⟨g, o, h1⟩

theorem fromF_any (w : World) (e : En) (p : Pl) : Calls Tryz.prog 196 #[.agg #[.string e.pl.key, .int .i64 e.pl.num, .bool e.mark, .int .i64 (e.size : Int), .int .i64 (e.at_ : Int)], .agg #[.string p.key, .int .i64 p.num]] w fun r w' => r = .returned (.int .i64 (plCmp e.pl p)) ∧ Kept (fun _ => False) w w' := by
  go_enter Tryz.func196, Tryz.ntmps196
  go_wp2_with (go_at_call 197; refine (placeCmp_any _ e.pl p).mono ?_; rintro r w1 ⟨rfl, hk1⟩; have HK1 : Hid _ := hk1; clear hk1)
  go_ret
  exact ⟨rfl, ((Kept.alloc (fun _ => False) w _).trans (Kept.alloc _ _ _) (fun _ h => .inl h)).trans HK1.out (fun _ h => .inl h)⟩

set_option maxHeartbeats 2000000 in
theorem binSearch_any (w : World) (P : Nat → Prop) (a : Option Addr) (cap : Nat) (es : List En) (h : EnRow w P a es) (hs : Srt es) (p : Pl) :
    Calls Tryz.prog 195 #[.slice a es.length cap, .agg #[.string p.key, .int .i64 p.num], .func (.func 196) #[] #[]] w fun r w' => (∃ f, r = .returned (.tuple #[.int .i64 (fromI es p : Nat), .bool f])) ∧ Kept (fun _ => False) w w' := by
  have HH : Hid _ := h
  have HS : Hid (Srt es) := hs
  have hfew := h.few
  have hfl := fromI_le es p
  have HK0 : Hid (Kept (fun _ => False) w (w.alloc (.cells #[.string p.key, .int .i64 p.num] 107))) := Kept.alloc _ _ _
  clear h hs
  go_enter Tryz.func195, Tryz.ntmps195
  go_wp2
  have HB0 : Hid ((w.alloc (.cells #[.string p.key, .int .i64 p.num] 107)).heap[w.heap.size]? = some (.cells #[.string p.key, .int .i64 p.num] 107 (0, 0))) := heap_alloc_new w _
  have hsz : (w.alloc (.cells #[.string p.key, .int .i64 p.num] 107)).heap.size = w.heap.size + 1 := by simp
  generalize (w.alloc (.cells #[.string p.key, .int .i64 p.num] 107)) = W at *
  go_loopw [9, 10] (fun x y wr => ∃ i j : Nat, i ≤ fromI es p ∧ fromI es p ≤ j ∧ j ≤ es.length ∧ x = .int .i64 i ∧ y = .int .i64 j ∧ Kept (fun _ => False) W wr) (fun x y _ => (intOf y - intOf x).toNat)
  case atStart => exact ⟨0, es.length, by omega, hfl, by omega, rfl, rfl, Kept.refl _ _⟩
  case round =>
    obtain ⟨i, j, hi, hj, hjl, rfl, rfl, hkept⟩ := hrel
    have HK : Hid _ := hkept
    have HKW : Hid (Kept (fun _ => False) w wr) := HK0.out.trans hkept (fun _ h => .inl h)
    have hbp : wr.heap[w.heap.size]? = some (.cells #[.string p.key, .int .i64 p.num] 107 (0, 0)) := (hkept.block w.heap.size (by omega) (fun hf => hf)).trans HB0.out
    have hp0 : wr.cell? ⟨w.heap.size, 0, none⟩ = some (.string p.key) := by rw [cell_of_row wr w.heap.size 0 _ _ _ hbp]; rfl
    have hp1 : wr.cell? ⟨w.heap.size, 1, none⟩ = some (.int .i64 p.num) := by rw [cell_of_row wr w.heap.size 1 _ _ _ hbp]; rfl
    have hwl : w.heap.size < wr.heap.size := (Array.getElem?_eq_some_iff.1 hbp).1
    clear hkept hbp
    by_cases hlt : i < j
    · obtain ⟨g, o, rfl⟩ := HH.out.base (by omega)
      have hm : (i + j) / 2 < es.length := by omega
      obtain ⟨c0, c1, c2, c3, c4, hPg, hgl⟩ := (HH.out.kept HKW.out (fun _ _ hf => hf)).cells ((i + j) / 2) hm
      have HAT : Hid (plCmp es[(i + j) / 2].pl p < 0 ↔ (i + j) / 2 < fromI es p) := by
        show plCmp es[(i + j) / 2].pl p < 0 ↔ (i + j) / 2 < fromI es p
        rw [plCmp_lt, HS.out.at_lt p _ hm]; simp
      generalize hmm : (i + j) / 2 = m at *
      have HMM : Hid ((i + j) / 2 = m) := hmm
      generalize es[m] = e at *
      have hm0 : ((i : Int) + (j : Int)) / 2 = (m : Int) := by omega
      clear hmm
      have hmI : (m : Int) < (es.length : Int) := by omega
      by_cases hcmp : plCmp e.pl p < 0
      · have HC : Hid _ := HAT.out.1 hcmp
        go_wp2
        go_region_held3 (fun w' => w'.cell? ⟨g, o + m * 5, none⟩ = some (.string e.pl.key) ∧ w'.cell? ⟨g, o + m * 5 + 1, none⟩ = some (.int .i64 e.pl.num) ∧ w'.cell? ⟨g, o + m * 5 + 2, none⟩ = some (.bool e.mark) ∧ w'.cell? ⟨g, o + m * 5 + 3, none⟩ = some (.int .i64 (e.size : Int)) ∧ w'.cell? ⟨g, o + m * 5 + 4, none⟩ = some (.int .i64 (e.at_ : Int)) ∧ w'.cell? ⟨w.heap.size, 0, none⟩ = some (.string p.key) ∧ w'.cell? ⟨w.heap.size, 1, none⟩ = some (.int .i64 p.num)) (go_keep) ((go_at_call 196; refine (fromF_any _ e p).mono ?_; rintro r w1 ⟨rfl, hk1⟩; have HK1 : Hid (Kept (fun _ => False) wr.drew w1) := hk1; have d0 := (hk1.cell (a := ⟨g, o + m * 5, none⟩) hgl (fun hf => hf)).trans c0; have d1 := (hk1.cell (a := ⟨g, o + m * 5 + 1, none⟩) hgl (fun hf => hf)).trans c1; have d2 := (hk1.cell (a := ⟨g, o + m * 5 + 2, none⟩) hgl (fun hf => hf)).trans c2; have d3 := (hk1.cell (a := ⟨g, o + m * 5 + 3, none⟩) hgl (fun hf => hf)).trans c3; have d4 := (hk1.cell (a := ⟨g, o + m * 5 + 4, none⟩) hgl (fun hf => hf)).trans c4; have q0 := (hk1.cell (a := ⟨w.heap.size, 0, none⟩) hwl (fun hf => hf)).trans hp0; have q1 := (hk1.cell (a := ⟨w.heap.size, 1, none⟩) hwl (fun hf => hf)).trans hp1; clear hk1))
        all_goals
          go_wp2
          go_roundw
          case rel => exact ⟨m + 1, j, by have := HC.out; omega, by omega, by omega, by go_num, rfl, HK.out.trans (Kept.trans (b := wr.drew) (Kept.drew _ _) HK1.out (fun _ h => .inl h)) (fun _ h => .inl h)⟩
          case measure => have := HMM.out; simp only [intOf]; omega
      · have HC : Hid (fromI es p ≤ m) := Nat.le_of_not_lt (mt HAT.out.2 hcmp)
        go_wp2
        go_region_held3 (fun w' => w'.cell? ⟨g, o + m * 5, none⟩ = some (.string e.pl.key) ∧ w'.cell? ⟨g, o + m * 5 + 1, none⟩ = some (.int .i64 e.pl.num) ∧ w'.cell? ⟨g, o + m * 5 + 2, none⟩ = some (.bool e.mark) ∧ w'.cell? ⟨g, o + m * 5 + 3, none⟩ = some (.int .i64 (e.size : Int)) ∧ w'.cell? ⟨g, o + m * 5 + 4, none⟩ = some (.int .i64 (e.at_ : Int)) ∧ w'.cell? ⟨w.heap.size, 0, none⟩ = some (.string p.key) ∧ w'.cell? ⟨w.heap.size, 1, none⟩ = some (.int .i64 p.num)) (go_keep) ((go_at_call 196; refine (fromF_any _ e p).mono ?_; rintro r w1 ⟨rfl, hk1⟩; have HK1 : Hid (Kept (fun _ => False) wr.drew w1) := hk1; have d0 := (hk1.cell (a := ⟨g, o + m * 5, none⟩) hgl (fun hf => hf)).trans c0; have d1 := (hk1.cell (a := ⟨g, o + m * 5 + 1, none⟩) hgl (fun hf => hf)).trans c1; have d2 := (hk1.cell (a := ⟨g, o + m * 5 + 2, none⟩) hgl (fun hf => hf)).trans c2; have d3 := (hk1.cell (a := ⟨g, o + m * 5 + 3, none⟩) hgl (fun hf => hf)).trans c3; have d4 := (hk1.cell (a := ⟨g, o + m * 5 + 4, none⟩) hgl (fun hf => hf)).trans c4; have q0 := (hk1.cell (a := ⟨w.heap.size, 0, none⟩) hwl (fun hf => hf)).trans hp0; have q1 := (hk1.cell (a := ⟨w.heap.size, 1, none⟩) hwl (fun hf => hf)).trans hp1; clear hk1))
        all_goals
          go_wp2
          go_roundw
          case rel => exact ⟨i, m, by omega, by have := HC.out; omega, by omega, rfl, rfl, HK.out.trans (Kept.trans (b := wr.drew) (Kept.drew _ _) HK1.out (fun _ h => .inl h)) (fun _ h => .inl h)⟩
          case measure => have := HMM.out; simp only [intOf]; omega
    · have e1 : i = fromI es p := by omega
      have HE : Hid _ := e1
      by_cases hin : i < es.length
      · obtain ⟨g, o, rfl⟩ := HH.out.base (by omega)
        obtain ⟨c0, c1, c2, c3, c4, hPg, hgl⟩ := (HH.out.kept HKW.out (fun _ _ hf => hf)).cells i hin
        generalize es[i] = e at *
        have hmI : (i : Int) < (es.length : Int) := by omega
        clear e1
        go_wp2
        go_region_held3 (fun w' => w'.cell? ⟨g, o + i * 5, none⟩ = some (.string e.pl.key) ∧ w'.cell? ⟨g, o + i * 5 + 1, none⟩ = some (.int .i64 e.pl.num) ∧ w'.cell? ⟨g, o + i * 5 + 2, none⟩ = some (.bool e.mark) ∧ w'.cell? ⟨g, o + i * 5 + 3, none⟩ = some (.int .i64 (e.size : Int)) ∧ w'.cell? ⟨g, o + i * 5 + 4, none⟩ = some (.int .i64 (e.at_ : Int)) ∧ w'.cell? ⟨w.heap.size, 0, none⟩ = some (.string p.key) ∧ w'.cell? ⟨w.heap.size, 1, none⟩ = some (.int .i64 p.num)) (go_keep) ((go_at_call 196; refine (fromF_any _ e p).mono ?_; rintro r w1 ⟨rfl, hk1⟩; have HK1 : Hid (Kept (fun _ => False) wr.drew w1) := hk1; have d0 := (hk1.cell (a := ⟨g, o + i * 5, none⟩) hgl (fun hf => hf)).trans c0; have d1 := (hk1.cell (a := ⟨g, o + i * 5 + 1, none⟩) hgl (fun hf => hf)).trans c1; have d2 := (hk1.cell (a := ⟨g, o + i * 5 + 2, none⟩) hgl (fun hf => hf)).trans c2; have d3 := (hk1.cell (a := ⟨g, o + i * 5 + 3, none⟩) hgl (fun hf => hf)).trans c3; have d4 := (hk1.cell (a := ⟨g, o + i * 5 + 4, none⟩) hgl (fun hf => hf)).trans c4; have q0 := (hk1.cell (a := ⟨w.heap.size, 0, none⟩) hwl (fun hf => hf)).trans hp0; have q1 := (hk1.cell (a := ⟨w.heap.size, 1, none⟩) hwl (fun hf => hf)).trans hp1; clear hk1))
        all_goals
          go_wp2
          go_ret2
          exact ⟨⟨_, by rw [← HE.out]; rfl⟩, HKW.out.trans (Kept.trans (b := wr.drew) (Kept.drew _ _) HK1.out (fun _ h => .inl h)) (fun _ h => .inl h)⟩
      · have hmI : decide ((i : Int) < (es.length : Int)) = false := decide_eq_false (by omega)
        clear e1
        go_wp2
        go_quiet (fail)
        go_wp2
        go_ret2
        exact ⟨⟨_, by rw [← HE.out]; rfl⟩, HKW.out.trans (S' := fun _ => False) ⟨rfl, rfl, rfl, Nat.le_refl _, fun _ _ _ => rfl⟩ (fun _ h => .inl h)⟩
end Go.Proofs.YtcoengihaobddaaGreatDoor.prog
namespace Go.Proofs.YtcoengihaobddaaGreatDoor.prog
open Go.ChangeShapes Go.WideShapes Go.ChangeAt Go.RowKit Go.Proofs.YtcoengihaobddaaGreatDoor.disk Go.Proofs.YtcoengihaobddaaGreatDoor.ref
open Go.Proofs.YtcoengihaobddaaGreatDoor.keys (ret_int ret_bool beq_no beq_yes)
set_option linter.unusedVariables false
set_option maxRecDepth 8000

theorem Kept.alloc2 (w : World) (o1 o2 : Obj) : Kept (fun _ => False) w ((w.alloc o1).alloc o2) := (Kept.alloc _ _ _).trans (Kept.alloc _ _ _) (fun _ h => .inl h)
set_option maxHeartbeats 1000000 in
theorem from_any (w : World) (P : Nat → Prop) (a : Option Addr) (cap : Nat) (es : List En) (h : EnRow w P a es) (hs : Srt es) (k : Int) (p : Pl) :
    Calls Tryz.prog 175 #[.agg #[.int .u8 k, .slice a es.length cap], .agg #[.string p.key, .int .i64 p.num]] w fun r w' => r = .returned (.int .i64 (fromI es p : Nat)) ∧ Kept (fun _ => False) w w' := by
  have HH : Hid _ := h
  have HS : Hid (Srt es) := hs
  clear h hs
  have HK0 : Hid (Kept (fun _ => False) w ((w.alloc (.cells #[.int .u8 k, .slice a es.length cap] 209)).alloc (.cells #[.string p.key, .int .i64 p.num] 107))) := Kept.alloc2 _ _ _
  go_enter Tryz.func175, Tryz.ntmps175
  go_wp2_with (go_at_call 195; refine (binSearch_any _ P a cap es (HH.out.kept HK0.out (fun _ _ hf => hf)) HS.out p).mono ?_; rintro r w1 ⟨⟨f, rfl⟩, hk1⟩; have HK1 : Hid _ := hk1; clear hk1)
  go_ret
  exact ⟨rfl, HK0.out.trans HK1.out (fun _ h => .inl h)⟩

set_option maxHeartbeats 2000000 in
theorem child_any (w : World) (P : Nat → Prop) (a : Option Addr) (cap : Nat) (es : List En) (h : EnRow w P a es) (hs : Srt es) (k : Int) (p : Pl) :
    Calls Tryz.prog 176 #[.agg #[.int .u8 k, .slice a es.length cap], .agg #[.string p.key, .int .i64 p.num]] w fun r w' => r = .returned (.int .i64 (childI es p : Nat)) ∧ Kept (fun _ => False) w w' := by
  have HH : Hid _ := h
  have HS : Hid (Srt es) := hs
  have hfew := h.few
  have hfl := fromI_le es p
  clear h hs
  have HK0 : Hid (Kept (fun _ => False) w ((w.alloc (.cells #[.int .u8 k, .slice a es.length cap] 209)).alloc (.cells #[.string p.key, .int .i64 p.num] 107))) := Kept.alloc2 _ _ _
  go_enter Tryz.func176, Tryz.ntmps176
  go_wp2_with (go_at_call 175; refine (from_any _ P a cap es (HH.out.kept HK0.out (fun _ _ hf => hf)) HS.out k p).mono ?_; rintro r w1 ⟨rfl, hk1⟩; have HK1 : Hid (Kept (fun _ => False) _ w1) := hk1; have hn1 : w1.cell? ⟨w.heap.size, 1, none⟩ = some (.slice a es.length cap) := (hk1.cell (a := ⟨w.heap.size, 1, none⟩) (by simp; omega) (fun hf => hf)).trans (by simp); have hp0 : w1.cell? ⟨w.heap.size + 1, 0, none⟩ = some (.string p.key) := (hk1.cell (a := ⟨w.heap.size + 1, 0, none⟩) (by simp) (fun hf => hf)).trans (by simp); have hp1 : w1.cell? ⟨w.heap.size + 1, 1, none⟩ = some (.int .i64 p.num) := (hk1.cell (a := ⟨w.heap.size + 1, 1, none⟩) (by simp) (fun hf => hf)).trans (by simp); have HR1 : Hid (EnRow w1 P a es) := (HH.out.kept HK0.out (fun _ _ hf => hf)).kept hk1 (fun _ _ hf => hf); clear hk1)
  have HKW : Hid (Kept (fun _ => False) w w1) := HK0.out.trans HK1.out (fun _ h => .inl h)
  by_cases hin : fromI es p < es.length
  · obtain ⟨g, o, rfl⟩ := HR1.out.base (by omega)
    obtain ⟨c0, c1, c2, c3, c4, hPg, hgl⟩ := HR1.out.cells (fromI es p) hin
    have hmI : ((fromI es p : Nat) : Int) < (es.length : Int) := by omega
    by_cases heq : es[fromI es p].pl = p
    · have HE : Hid (childI es p = fromI es p) := by show childI es p = _; unfold childI; rw [dif_pos hin, if_pos heq]
      have hk2 : es[fromI es p].pl.key = p.key := by rw [heq]
      have hn2 : es[fromI es p].pl.num = p.num := by rw [heq]
      rw [hk2] at c0
      rw [hn2] at c1
      clear heq hk2 hn2
      generalize fromI es p = m at *
      go_quiet (fail)
      go_wp2
      go_ret
      exact ⟨by rw [HE.out]; rfl, HKW.out.trans (S' := fun _ => False) ⟨rfl, rfl, rfl, Nat.le_refl _, fun _ _ _ => rfl⟩ (fun _ h => .inl h)⟩
    · have HE : Hid (childI es p = fromI es p - 1) := by show childI es p = _; unfold childI; rw [dif_pos hin, if_neg heq]
      have hne : ¬ (es[fromI es p].pl.key = p.key ∧ es[fromI es p].pl.num = p.num) := fun ⟨h1, h2⟩ => heq (by cases hx : es[fromI es p].pl; cases p; rw [hx] at h1 h2; simp only at h1 h2; rw [h1, h2])
      clear heq
      generalize fromI es p = m at *
      generalize es[m].pl.key = ek at *
      generalize es[m].pl.num = en at *
      by_cases hkk : ek = p.key
      · subst hkk
        have hnn : (en == p.num) = false := by simpa using hne
        go_quiet (fail)
        go_wp2
        all_goals
          go_ret
          exact ⟨ret_int (by rw [HE.out]; omega), HKW.out.trans (S' := fun _ => False) ⟨rfl, rfl, rfl, Nat.le_refl _, fun _ _ _ => rfl⟩ (fun _ h => .inl h)⟩
      · have hkk2 : (ek.toList == p.key.toList) = false := by
          have := mt key_inj.1 hkk
          simpa using this
        go_quiet (fail)
        go_wp2
        all_goals
          go_ret
          exact ⟨ret_int (by rw [HE.out]; omega), HKW.out.trans (S' := fun _ => False) ⟨rfl, rfl, rfl, Nat.le_refl _, fun _ _ _ => rfl⟩ (fun _ h => .inl h)⟩
  · have HE : Hid (childI es p = fromI es p - 1) := by show childI es p = _; unfold childI; rw [dif_neg hin]
    have hmI : decide (((fromI es p : Nat) : Int) < (es.length : Int)) = false := decide_eq_false (by omega)
    generalize fromI es p = m at *
    go_quiet (fail)
    go_wp2
    all_goals
      go_ret
      exact ⟨ret_int (by rw [HE.out]; omega), HKW.out.trans (S' := fun _ => False) ⟨rfl, rfl, rfl, Nat.le_refl _, fun _ _ _ => rfl⟩ (fun _ h => .inl h)⟩
end Go.Proofs.YtcoengihaobddaaGreatDoor.prog
namespace Go.Proofs.YtcoengihaobddaaGreatDoor.prog
open Go.ChangeShapes Go.WideShapes Go.ChangeAt Go.RowKit Go.Proofs.YtcoengihaobddaaGreatDoor.disk Go.Proofs.YtcoengihaobddaaGreatDoor.ref
open Go.Proofs.YtcoengihaobddaaGreatDoor.keys (ret_int ret_bool beq_no beq_yes)
set_option linter.unusedVariables false
set_option maxRecDepth 8000

theorem snoc_bytes (r : ByteArray) (h : 0 < r.size) : r.data.toList = (r.extract 0 (r.size - 1)).data.toList ++ [r[r.size - 1]] := by
  rw [ByteArray.data_extract, Array.toList_extract]
  have hl : r.data.toList.length = r.size := by simp
  rw [List.extract_eq_take_drop, List.drop_zero, Nat.sub_zero]
  have : r[r.size - 1] = r.data.toList[r.size - 1]'(by omega) := by simp; rfl
  rw [this, ← List.take_succ_eq_append_getElem (by omega), List.take_of_length_le (by omega)]
theorem cut_last {l : List UInt8} {b : UInt8} (h : b ≠ 0) : cut (l ++ [b]) = l ++ [b] := by
  unfold cut
  rw [List.reverse_append, List.reverse_singleton, List.singleton_append, List.dropWhile_cons, if_neg (by simpa using h), List.reverse_cons, List.reverse_reverse]
theorem cut_step {l m : List UInt8} {b : UInt8} (h : l = m ++ [b]) (hb : b = 0) : cut l = cut m := by rw [h, hb, cut_zero]
theorem cut_stop {l m : List UInt8} {b : UInt8} (h : l = m ++ [b]) (hb : ¬ b = 0) : cut l = l := by rw [h, cut_last hb]
set_option maxHeartbeats 1000000 in
theorem trimByte_any (w : World) (s : ByteArray) (hs : s.size ≤ 1000) :
    Calls Tryz.prog 207 #[.string s, .int .u8 0] w fun e w' => (∃ r : ByteArray, e = .returned (.string r) ∧ r.data.toList = cut s.data.toList) ∧ w' = w := by
  go_enter Tryz.func207, Tryz.ntmps207
  go_wp2
  go_loop [0] (fun t => ∃ r : ByteArray, t = .string r ∧ cut r.data.toList = cut s.data.toList ∧ r.size ≤ 1000) (fun t => match t with | .string r => r.size | _ => 0)
  case atStart => exact ⟨s, rfl, rfl, hs⟩
  case round =>
    obtain ⟨r, rfl, hr, hl⟩ := hrel
    have HR : Hid (cut r.data.toList = cut s.data.toList) := hr
    clear hr
    by_cases h0 : 0 < r.size
    · have HSN : Hid _ := snoc_bytes r h0
      by_cases hz : r[r.size - 1] = 0
      · have hz2 : ((r[r.size - 1].toNat : Int) == 0) = true := by rw [hz]; rfl
        have HZ : Hid _ := hz
        clear hz
        go_wp2
        go_round
        case rel => exact ⟨r.extract 0 (r.size - 1), rfl, by rw [← HR.out, cut_step HSN.out HZ.out], by simp; omega⟩
        case measure => simp; omega
      · have hz2 : ((r[r.size - 1].toNat : Int) == 0) = false := by
          have : r[r.size - 1].toNat ≠ 0 := fun e => hz (UInt8.toNat_inj.1 e)
          simp; omega
        have HZ : Hid (¬ r[r.size - 1] = 0) := hz
        clear hz
        go_wp2
        go_ret
        exact ⟨⟨r, rfl, by rw [← HR.out, cut_stop HSN.out HZ.out]⟩, rfl⟩
    · have hrl : r.data.toList.length = r.size := by simp
      have HE : Hid (r.data.toList = []) := List.eq_nil_of_length_eq_zero (by omega)
      clear hrl
      go_wp2
      go_ret
      exact ⟨⟨r, rfl, by rw [← HR.out, HE.out]; rfl⟩, rfl⟩
set_option maxHeartbeats 1000000 in
theorem trimRight_any (w : World) (s : ByteArray) (hs : s.size ≤ 1000) :
    Calls Tryz.prog 202 #[.string s, .string ⟨#[0]⟩] w fun e w' => (∃ r : ByteArray, e = .returned (.string r) ∧ r.data.toList = cut s.data.toList) ∧ w' = w := by
  by_cases h0 : s.toList = []
  · have HE : Hid (s.data.toList = []) := by show s.data.toList = []; rw [← ByteArray.toList_eq]; exact h0
    go_enter Tryz.func202, Tryz.ntmps202
    go_wp2
    go_ret
    exact ⟨⟨s, rfl, by rw [HE.out]; rfl⟩, rfl⟩
  · have h1 : (s.toList == []) = false := by simpa using h0
    go_enter Tryz.func202, Tryz.ntmps202
    go_wp2_with (go_at_call 207; refine (trimByte_any _ s hs).mono ?_; rintro e w' ⟨⟨r, rfl, hr⟩, rfl⟩; have HR : Hid _ := hr; clear hr)
    go_ret
    exact ⟨⟨r, rfl, HR.out⟩, rfl⟩
end Go.Proofs.YtcoengihaobddaaGreatDoor.prog
namespace Go.Proofs.YtcoengihaobddaaGreatDoor.prog
open Go.ChangeShapes Go.WideShapes Go.ChangeAt Go.RowKit Go.Proofs.YtcoengihaobddaaGreatDoor.disk Go.Proofs.YtcoengihaobddaaGreatDoor.ref
open Go.Proofs.YtcoengihaobddaaGreatDoor.keys (ret_int ret_bool beq_no beq_yes)
set_option linter.unusedVariables false
set_option maxRecDepth 8000

/-- An entry of noughts. -/
def zEn : Array Value := #[.string ⟨#[]⟩, .int .i64 0, .bool false, .int .i64 0, .int .i64 0]
theorem conv_key (w : World) (b : Nat) (t : TypeId) (l : List UInt8) (h : BsAt w b t l) (o cap : Nat) (ho : o + 8 ≤ l.length) (k : List UInt8) (hk : (l.drop o).take 8 = k) :
    (convert 35 9 (.slice (some ⟨b, o, none⟩) 8 cap)).run Tryz.prog w = .ok (.string ⟨k.toArray⟩) w := by
  have hkl : k.length = 8 := by rw [← hk]; simp; omega
  have := run_convert_bytes_back (P := Tryz.prog) w 35 9 5 ⟨b, o, none⟩ cap k Tryz.underlying35 Tryz.underlying5 Tryz.underlying9 (fun j hj => by
    rw [Addr.add_mid, h.cell (o + j) (by omega)]
    subst hk
    simp)
  rw [hkl] at this
  exact this
theorem take_take_drop (l : List UInt8) (o i n m : Nat) (h : i + n ≤ m) : (((l.drop o).take m).drop i).take n = (l.drop (o + i)).take n := by
  rw [List.drop_take, List.take_take, Nat.min_eq_left (by omega), List.drop_drop]

set_option maxHeartbeats 2000000 in
theorem readEntry_leaf (w : World) (b : Nat) (t : TypeId) (l : List UInt8) (h : BsAt w b t l) (o cap : Nat) (ho : o + 20 ≤ l.length) (hcap : 20 ≤ cap) (e : En) (he : e.Ok) (hi : (l.drop o).take 20 = leafItem e) :
    Calls Tryz.prog 194 #[.int .u8 5, .slice (some ⟨b, o, none⟩) 20 cap] w fun r w' => r = .returned (.agg (enV e).toArray) ∧ Kept (fun _ => False) w w' := by
  have HH : Hid _ := h
  have HE : Hid _ := he
  obtain ⟨p1, p2, p3, p4⟩ := branch_parts he (bytesOf 2 (sizeOf' e))
  have e0 : branchItem e ++ bytesOf 2 (sizeOf' e) = (l.drop o).take 20 := hi.symm
  rw [e0] at p1 p2 p3 p4
  have q1 : (l.drop o).take 8 = keyBytes e.pl.key := by rw [← p1, List.take_take]; rfl
  have q2 : (l.drop (o + 8)).take 8 = bytesOf 8 e.pl.num.toNat := by rw [← p2, take_take_drop _ _ _ _ _ (by omega)]
  have q3 : (l.drop (o + 16)).take 2 = bytesOf 2 e.at_ := by rw [← p3, take_take_drop _ _ _ _ _ (by omega)]
  have q4 : (l.drop (o + 18)).take 2 = bytesOf 2 (sizeOf' e) := by rw [← p4, List.drop_take, List.drop_drop]
  have Q2 : Hid (numOf ((l.drop (o + 8)).take 8) = e.pl.num.toNat) := by
    show numOf ((l.drop (o + 8)).take 8) = e.pl.num.toNat
    have := num_back he
    rw [q2]; omega
  have Q3 : Hid (numOf ((l.drop (o + 16)).take 2) = e.at_) := by show numOf ((l.drop (o + 16)).take 2) = e.at_; rw [q3]; exact at_back he
  have Q4 : Hid (numOf ((l.drop (o + 18)).take 2) = sizeOf' e) := by show numOf ((l.drop (o + 18)).take 2) = sizeOf' e; rw [q4]; exact size_back he
  have hn1 := he.num1
  have hn0 := he.num0
  have hat := he.at_
  have hsz := he.size
  have hkk : ∀ (r : ByteArray), r.data.toList = cut (ByteArray.data ⟨(keyBytes e.pl.key).toArray⟩).toList → r = e.pl.key := fun r hr => bytes_ext (by rw [hr]; exact cut_key _ he.zero)
  have HKK : Hid _ := hkk
  have hksz : (ByteArray.size ⟨(keyBytes e.pl.key).toArray⟩) ≤ 1000 := by
    have : (ByteArray.size ⟨(keyBytes e.pl.key).toArray⟩) = (keyBytes e.pl.key).length := by simp [ByteArray.size]
    rw [this, keyBytes_len _ he.key]; omega
  have HKSZ : Hid _ := hksz
  have HK0 : Hid (Kept (fun _ => False) w ((w.alloc (.cells zEn 109)).alloc (.cells zEn 109))) := Kept.alloc2 _ _ _
  have hconv := conv_key _ b t l (HH.out.kept HK0.out (fun hf => hf)) o cap (by omega) _ q1
  unfold zEn at hconv
  clear p1 p2 p3 p4 e0 hi q1 q2 q3 q4 h he hkk hksz
  have hnn : ((e.pl.num.toNat : Nat) : Int) = e.pl.num := by omega
  have HNN : Hid _ := hnn
  have HMK : Hid (e.mark = true → e.size = 0) := HE.out.mark
  have hks : ∀ (wq : World) (o1 o2 : Obj), wq = (w.alloc o1).alloc o2 → BsAt wq b t l := fun wq o1 o2 e => by rw [e]; exact HH.out.kept (Kept.alloc2 w _ _) (fun hf => hf)
  have HKS : Hid _ := hks
  clear hks hnn
  cases hmk : e.mark with
  | false =>
    have HM : Hid _ := hmk
    have hse : sizeOf' e = e.size := by simp [sizeOf', hmk]
    rw [hse] at Q4
    have hne : ((e.size : Int) == 65535) = false := by simp; omega
    clear hmk hse
    go_enter Tryz.func194, Tryz.ntmps194
    go_wp2_with fail
    refine (trimRight_any _ _ HKSZ.out).mono ?_
    rintro r w1 ⟨⟨r, rfl, hr⟩, hw⟩
    rw [hw]
    have hr2 := HKK.out r hr
    subst hr2
    clear hr hw w1
    go_wp2_with fail
    refine (number_at _ b t l (HKS.out _ _ _ rfl) (o + 8) 8 (cap - 8) e.pl.num.toNat (by omega) (by omega) Q2.out (by omega)).mono ?_
    rintro r w1 ⟨rfl, hw⟩
    rw [hw, HNN.out]
    clear hw w1
    go_wp2_with fail
    refine (number_at _ b t l (HKS.out _ _ _ rfl) (o + 16) 2 (cap - 16) e.at_ (by omega) (by omega) Q3.out (by omega)).mono ?_
    rintro r w1 ⟨rfl, hw⟩
    rw [hw]
    clear hw w1
    go_wp2_with fail
    refine (number_at _ b t l (HKS.out _ _ _ rfl) (o + 18) 2 (cap - 18) e.size (by omega) (by omega) Q4.out (by omega)).mono ?_
    rintro r w1 ⟨rfl, hw⟩
    rw [hw]
    clear hw w1
    go_wp2
    refine bodyPost_ret (v := .agg (enV e).toArray) (results_cell_row Tryz.results194 _ _ w.heap.size 109 (enV e).toArray (0, 0) _ rfl (by rw [heap_alloc2_old]; unfold enV; rw [HM.out]) Tryz.underlying109 rfl (by kernel_rfl)) rfl ⟨rfl, Kept.alloc2 _ _ _⟩
  | true =>
    have HM : Hid _ := hmk
    have hse : sizeOf' e = 65535 := by simp [sizeOf', hmk]
    rw [hse] at Q4
    have HZ : Hid (e.size = 0) := HMK.out hmk
    clear hmk hse
    go_enter Tryz.func194, Tryz.ntmps194
    go_wp2_with fail
    refine (trimRight_any _ _ HKSZ.out).mono ?_
    rintro r w1 ⟨⟨r, rfl, hr⟩, hw⟩
    rw [hw]
    have hr2 := HKK.out r hr
    subst hr2
    clear hr hw w1
    go_wp2_with fail
    refine (number_at _ b t l (HKS.out _ _ _ rfl) (o + 8) 8 (cap - 8) e.pl.num.toNat (by omega) (by omega) Q2.out (by omega)).mono ?_
    rintro r w1 ⟨rfl, hw⟩
    rw [hw, HNN.out]
    clear hw w1
    go_wp2_with fail
    refine (number_at _ b t l (HKS.out _ _ _ rfl) (o + 16) 2 (cap - 16) e.at_ (by omega) (by omega) Q3.out (by omega)).mono ?_
    rintro r w1 ⟨rfl, hw⟩
    rw [hw]
    clear hw w1
    go_wp2_with fail
    refine (number_at _ b t l (HKS.out _ _ _ rfl) (o + 18) 2 (cap - 18) 65535 (by omega) (by omega) Q4.out (by omega)).mono ?_
    rintro r w1 ⟨rfl, hw⟩
    rw [hw]
    clear hw w1
    go_wp2
    refine bodyPost_ret (v := .agg (enV e).toArray) (results_cell_row Tryz.results194 _ _ w.heap.size 109 (enV e).toArray (0, 0) _ rfl (by rw [heap_alloc2_old]; unfold enV; rw [HM.out, HZ.out]; rfl) Tryz.underlying109 rfl (by kernel_rfl)) rfl ⟨rfl, Kept.alloc2 _ _ _⟩

set_option maxHeartbeats 2000000 in
theorem readEntry_branch (w : World) (b : Nat) (t : TypeId) (l : List UInt8) (h : BsAt w b t l) (o cap : Nat) (ho : o + 18 ≤ l.length) (hcap : 18 ≤ cap) (e : En) (he : e.Ok) (hi : (l.drop o).take 18 = branchItem e) (hm : e.mark = false) (hz : e.size = 0) :
    Calls Tryz.prog 194 #[.int .u8 4, .slice (some ⟨b, o, none⟩) 18 cap] w fun r w' => r = .returned (.agg (enV e).toArray) ∧ Kept (fun _ => False) w w' := by
  have HH : Hid _ := h
  have HE : Hid _ := he
  obtain ⟨p1, p2, p3, p4⟩ := branch_parts he []
  have e0 : branchItem e ++ [] = (l.drop o).take 18 := by rw [List.append_nil]; exact hi.symm
  rw [e0] at p1 p2 p3 p4
  have q1 : (l.drop o).take 8 = keyBytes e.pl.key := by rw [← p1, List.take_take]; rfl
  have q2 : (l.drop (o + 8)).take 8 = bytesOf 8 e.pl.num.toNat := by rw [← p2, take_take_drop _ _ _ _ _ (by omega)]
  have q3 : (l.drop (o + 16)).take 2 = bytesOf 2 e.at_ := by rw [← p3, take_take_drop _ _ _ _ _ (by omega)]
  have Q2 : Hid (numOf ((l.drop (o + 8)).take 8) = e.pl.num.toNat) := by
    show numOf ((l.drop (o + 8)).take 8) = e.pl.num.toNat
    have := num_back he
    rw [q2]; omega
  have Q3 : Hid (numOf ((l.drop (o + 16)).take 2) = e.at_) := by show numOf ((l.drop (o + 16)).take 2) = e.at_; rw [q3]; exact at_back he
  have hn1 := he.num1
  have hn0 := he.num0
  have hat := he.at_
  have hsz := he.size
  have hkk : ∀ (r : ByteArray), r.data.toList = cut (ByteArray.data ⟨(keyBytes e.pl.key).toArray⟩).toList → r = e.pl.key := fun r hr => bytes_ext (by rw [hr]; exact cut_key _ he.zero)
  have HKK : Hid _ := hkk
  have hksz : (ByteArray.size ⟨(keyBytes e.pl.key).toArray⟩) ≤ 1000 := by
    have : (ByteArray.size ⟨(keyBytes e.pl.key).toArray⟩) = (keyBytes e.pl.key).length := by simp [ByteArray.size]
    rw [this, keyBytes_len _ he.key]; omega
  have HKSZ : Hid _ := hksz
  have HK0 : Hid (Kept (fun _ => False) w ((w.alloc (.cells zEn 109)).alloc (.cells zEn 109))) := Kept.alloc2 _ _ _
  have hconv := conv_key _ b t l (HH.out.kept HK0.out (fun hf => hf)) o cap (by omega) _ q1
  unfold zEn at hconv
  clear p1 p2 p3 p4 e0 hi q1 q2 q3 h he hkk hksz
  have hnn : ((e.pl.num.toNat : Nat) : Int) = e.pl.num := by omega
  have HNN : Hid _ := hnn
  have HM : Hid _ := hm
  have HZ : Hid _ := hz
  clear hm hz
  have hks : ∀ (wq : World) (o1 o2 : Obj), wq = (w.alloc o1).alloc o2 → BsAt wq b t l := fun wq o1 o2 e => by rw [e]; exact HH.out.kept (Kept.alloc2 w _ _) (fun hf => hf)
  have HKS : Hid _ := hks
  clear hks hnn
  go_enter Tryz.func194, Tryz.ntmps194
  go_wp2_with fail
  refine (trimRight_any _ _ HKSZ.out).mono ?_
  rintro r w1 ⟨⟨r, rfl, hr⟩, hw⟩
  rw [hw]
  have hr2 := HKK.out r hr
  subst hr2
  clear hr hw w1
  go_wp2_with fail
  refine (number_at _ b t l (HKS.out _ _ _ rfl) (o + 8) 8 (cap - 8) e.pl.num.toNat (by omega) (by omega) Q2.out (by omega)).mono ?_
  rintro r w1 ⟨rfl, hw⟩
  rw [hw, HNN.out]
  clear hw w1
  go_wp2_with fail
  refine (number_at _ b t l (HKS.out _ _ _ rfl) (o + 16) 2 (cap - 16) e.at_ (by omega) (by omega) Q3.out (by omega)).mono ?_
  rintro r w1 ⟨rfl, hw⟩
  rw [hw]
  clear hw w1
  go_wp2
  refine bodyPost_ret (v := .agg (enV e).toArray) (results_cell_row Tryz.results194 _ _ w.heap.size 109 (enV e).toArray (0, 0) _ rfl (by rw [heap_alloc2_old]; unfold enV; rw [HM.out, HZ.out]; rfl) Tryz.underlying109 rfl (by kernel_rfl)) rfl ⟨rfl, Kept.alloc2 _ _ _⟩
end Go.Proofs.YtcoengihaobddaaGreatDoor.prog

/- Part 31 of 39 of a proof: Walk1, Walk2 -/
import Derived.Test.YtcoengihaobddaaGreatDoorJp30
import Derived.Test.YtcoengihaobddaaGreatDoorJp21
import Derived.Test.YtcoengihaobddaaGreatDoorJp28
import Derived.OwnWalkIn
import Derived.TacticsInMore
namespace Go.Proofs.YtcoengihaobddaaGreatDoor.prog
open Go.ChangeShapes Go.WideShapes Go.ChangeAt Go.RowKit Go.Proofs.YtcoengihaobddaaGreatDoor.disk Go.Proofs.YtcoengihaobddaaGreatDoor.ref
open Go.Proofs.YtcoengihaobddaaGreatDoor.keys (ret_int ret_bool beq_no beq_yes)
set_option linter.unusedVariables false
set_option maxRecDepth 8000

/-- When a version is told. -/
structure HereW (R1 R2 : Int) (all : List En) (r : Int) (pre : List En) (x : En) : Prop where
  le : r ≤ R2
  first : pre = [] → r ≤ R1
  pre : (pre ++ [x]) <+: all
/-- What a walk is told of whoever ranges over it. -/
structure WalkEnv (l : Nat) (J : Int → List En → (Nat → Prop) → World → Prop) (Jx : Int → List En → World → Prop) (B bd : Nat) (S : Nat → Prop) (D : Dk) (R1 R2 : Int) (all : List En) : Prop where
  inv : ∀ r pre Q A, J r pre Q A → Disk A bd S { D with reads := r } ∧ ∀ k, Q k → k < A.heap.size
  stp : ∀ r r' pre Q A A', J r pre Q A → r ≤ r' → Kept (fun k => k = bd) A A' → Disk A' bd S { D with reads := r' } → J r' pre Q A'
  yld : ∀ m r pre x Q A, J r pre Q A → HereW R1 R2 all r pre x → YieldAt Fence.wide m Tryz.prog l #[.agg (enV x).toArray] A (Rounds J Jx B r (pre ++ [x]) Q A)
  bdB : bd < B
/-- What a walk leaves. -/
def WalkPost (J : Int → List En → (Nat → Prop) → World → Prop) (Jx : Int → List En → World → Prop) (B : Nat) (W : World) (r : Int) (pre : List En) (Q : Nat → Prop) (y : List En) (n f : Nat) (e : Ending) (W' : World) : Prop :=
  (e = .returned (.bool true) ∧ ∃ (r' : Int) (Q' : Nat → Prop), r ≤ r' ∧ r' ≤ r + n ∧ (y = [] → r' ≤ r + f) ∧ J r' (pre ++ y) Q' W' ∧ Kept (fun k => k < B ∨ Q k) W W' ∧ ∀ k, Q' k → Q k ∨ W.heap.size ≤ k) ∨ (e = .returned (.bool false) ∧ ∃ r' q, Jx r' q W')

set_option maxHeartbeats 4000000 in
theorem walk_leaf (l : Nat) (J : Int → List En → (Nat → Prop) → World → Prop) (Jx : Int → List En → World → Prop) (B bd : Nat) (S : Nat → Prop) (D : Dk) (R1 R2 : Int) (all : List En) (E : WalkEnv l J Jx B bd S D R1 R2 all) (hR2 : R2 ≤ 4611686018427380000)
    (W : World) (r : Int) (pre : List En) (Q : Nat → Prop) (hJ : J r pre Q W) (hB : B ≤ W.heap.size) (p : Pl) (at_ : Nat) (hat : at_ < 65536) (es : List En) (hes : ∀ e ∈ es, e.Ok) (hlen0 : 0 < es.length) (hlen : es.length ≤ 6) (hs : Srt es) (hl : D.look at_ = pgV (nodePg 5 es))
    (hr0 : 0 ≤ r) (hr2 : r + 1 ≤ R2) (hr1 : pre = [] → r + 1 ≤ R1) (hall : (pre ++ onE p es) <+: all) :
    Calls Tryz.prog 191 #[.iface 29 (.pointer (some ⟨bd, 0, none⟩)), .int .i64 at_, .agg #[.string p.key, .int .i64 p.num], .func (.yield l) #[] #[]] W (WalkPost J Jx B W r pre Q (onE p es) 1 1) := by
  have HE : Hid _ := E
  have HES : Hid (∀ e ∈ es, e.Ok) := hes
  have HS : Hid (Srt es) := hs
  have HL : Hid _ := hl
  have hd := (E.inv r pre Q W hJ).1
  have HD : Hid (Disk W bd S { D with reads := r }) := hd
  obtain ⟨HJ⟩ : Nonempty (PLift (J r pre Q W)) := ⟨⟨hJ⟩⟩
  have HSL : Hid (∀ k, S k → k < W.heap.size) := hd.lt
  have hbd : bd < W.heap.size := hd.lt bd hd.bdS
  clear E hes hs hl hJ hd
  go_enter Tryz.func191, Tryz.ntmps191
  go_wp2_with fail
  have HK0 : Hid (Kept (fun _ => False) W (W.alloc (.cells #[.string p.key, .int .i64 p.num] 107))) := Kept.alloc _ _ _
  have HB0 : Hid ((W.alloc (.cells #[.string p.key, .int .i64 p.num] 107)).heap[W.heap.size]? = some (.cells #[.string p.key, .int .i64 p.num] 107 (0, 0))) := heap_alloc_new W _
  have hs0 : (W.alloc (.cells #[.string p.key, .int .i64 p.num] 107)).heap.size = W.heap.size + 1 := by simp
  generalize (W.alloc (.cells #[.string p.key, .int .i64 p.num] 107)) = W0 at *
  refine (loadd_any W0 bd S _ (HD.out.kept HK0.out (fun _ _ hf => hf)) hr0 (by show r ≤ _; omega) at_ hat 5 es (.inr rfl) HES.out (fun h => absurd h (by decide)) hlen HL.out).mono ?_
  rintro x w1 ⟨a, cap, rfl, hd1, hk1, hrow1, hown1, hfr1⟩
  have HD1 : Hid (Disk w1 bd S { D with reads := r + 1 }) := hd1
  have HK1 : Hid (Kept (fun j => j = bd) W0 w1) := hk1
  have HR1 : Hid _ := hrow1
  have HO1 : Hid _ := hown1
  have hsz1 := hk1.size
  have HB1 : Hid (w1.heap[W.heap.size]? = _) := (hk1.block _ (by omega) (by omega)).trans HB0.out
  clear hd1 hk1 hrow1 hown1 hfr1
  go_wp2_with fail
  obtain ⟨g, rfl⟩ : ∃ g, a = some ⟨g, 0, none⟩ := by
    rcases HO1.out.2 with ⟨_, h1⟩ | ⟨g, cap', cur, hv, _⟩
    · omega
    · cases hv; exact ⟨g, rfl⟩
  have hcap : es.length ≤ cap := by
    rcases HO1.out.2 with ⟨h1, h2⟩ | ⟨g', cap', cur, hv, _, hg, h1, h2, _⟩
    · cases h1
    · cases hv; exact h1
  have HKN : Hid (Kept (fun _ => False) w1 (w1.alloc (.cells #[.int .u8 5, .slice (some ⟨g, 0, none⟩) es.length cap] 209))) := Kept.alloc _ _ _
  have HBN : Hid ((w1.alloc (.cells #[.int .u8 5, .slice (some ⟨g, 0, none⟩) es.length cap] 209)).heap[w1.heap.size]? = some (.cells #[.int .u8 5, .slice (some ⟨g, 0, none⟩) es.length cap] 209 (0, 0))) := heap_alloc_new w1 _
  have hsN : (w1.alloc (.cells #[.int .u8 5, .slice (some ⟨g, 0, none⟩) es.length cap] 209)).heap.size = w1.heap.size + 1 := by simp
  generalize (w1.alloc (.cells #[.int .u8 5, .slice (some ⟨g, 0, none⟩) es.length cap] 209)) = WN at *
  have HRN : Hid (EnRow WN (fun b => W0.heap.size ≤ b) (some ⟨g, 0, none⟩) es) := HR1.out.kept HKN.out (fun _ _ hf => hf)
  have HBP : Hid (WN.heap[W.heap.size]? = _) := (HKN.out.block _ (by omega) id).trans HB1.out
  have z0 : WN.cell? ⟨w1.heap.size, 0, none⟩ = some (.int .u8 5) := by rw [cell_of_row WN _ 0 _ _ _ HBN.out]; rfl
  have z1 : WN.cell? ⟨w1.heap.size, 1, none⟩ = some (.slice (some ⟨g, 0, none⟩) es.length cap) := by rw [cell_of_row WN _ 1 _ _ _ HBN.out]; rfl
  have p0 : WN.cell? ⟨W.heap.size, 0, none⟩ = some (.string p.key) := by rw [cell_of_row WN _ 0 _ _ _ HBP.out]; rfl
  have p1 : WN.cell? ⟨W.heap.size, 1, none⟩ = some (.int .i64 p.num) := by rw [cell_of_row WN _ 1 _ _ _ HBP.out]; rfl
  have hlP : W.heap.size < WN.heap.size := by omega
  have hlN : w1.heap.size < WN.heap.size := by omega
  have hfi := fromI_le es p
  have HFI : Hid (es.drop (fromI es p) = onE p es) := onE_drop HS.out p
  have HFF : Hid (∀ w' : World, Kept (fun _ => False) WN w' → Calls Tryz.prog 175 #[.agg #[.int .u8 5, .slice (some ⟨g, 0, none⟩) es.length cap], .agg #[.string p.key, .int .i64 p.num]] w' fun r w'' => r = .returned (.int .i64 (fromI es p : Nat)) ∧ Kept (fun _ => False) w' w'') := fun w' hw' => from_any w' _ _ cap es (HRN.out.kept hw' (fun _ _ hf => hf)) HS.out 5 p
  generalize fromI es p = i at *
  by_cases hi : i < es.length
  · have hne : ¬ (cap : Int) = (i : Int) := by omega
    have hne2 : ¬ cap = i := by omega
    have hI1 : (i : Int) ≤ (es.length : Int) := by omega
    have hI2 : (es.length : Int) ≤ (cap : Int) := by omega
    go_region_held3 (fun w' => w'.cell? ⟨w1.heap.size, 0, none⟩ = some (.int .u8 5) ∧ w'.cell? ⟨w1.heap.size, 1, none⟩ = some (.slice (some ⟨g, 0, none⟩) es.length cap) ∧ w'.cell? ⟨W.heap.size, 0, none⟩ = some (.string p.key) ∧ w'.cell? ⟨W.heap.size, 1, none⟩ = some (.int .i64 p.num)) (go_keep) ((go_at_call 175; refine (HFF.out _ (Kept.drew _ _)).mono ?_; rintro x w2 ⟨rfl, hk2⟩; have HK2 : Hid (Kept (fun _ => False) WN.drew w2) := hk2; have z20 : w2.cell? ⟨w1.heap.size, 0, none⟩ = some (.int .u8 5) := (hk2.cell (a := ⟨w1.heap.size, 0, none⟩) hlN id).trans z0; have z21 : w2.cell? ⟨w1.heap.size, 1, none⟩ = some (.slice (some ⟨g, 0, none⟩) es.length cap) := (hk2.cell (a := ⟨w1.heap.size, 1, none⟩) hlN id).trans z1; have p20 : w2.cell? ⟨W.heap.size, 0, none⟩ = some (.string p.key) := (hk2.cell (a := ⟨W.heap.size, 0, none⟩) hlP id).trans p0; have p21 : w2.cell? ⟨W.heap.size, 1, none⟩ = some (.int .i64 p.num) := (hk2.cell (a := ⟨W.heap.size, 1, none⟩) hlP id).trans p1; clear hk2))
    have HKW2 : Hid (Kept (fun k => k = bd) W w2) := ((((HK0.out.mono (fun _ hf => hf.elim)).trans HK1.out (fun _ h => .inl h)).trans HKN.out (fun _ hf => hf.elim)).trans (Kept.drew (fun _ => False) WN) (fun _ hf => hf.elim)).trans HK2.out (fun _ hf => hf.elim)
    have HKN2 : Hid (Kept (fun _ => False) w1 w2) := (HKN.out.trans (Kept.drew (fun _ => False) WN) (fun _ h => .inl h)).trans HK2.out (fun _ h => .inl h)
    have HD2 : Hid (Disk w2 bd S { D with reads := r + 1 }) := HD1.out.kept HKN2.out (fun _ _ hf => hf)
    have HJ2 : PLift (J (r + 1) pre Q w2) := ⟨HE.out.stp r (r + 1) pre Q W w2 HJ.down (by omega) HKW2.out HD2.out⟩
    have HR2 : Hid (EnRow w2 (fun b => W0.heap.size ≤ b) (some ⟨g, 0, none⟩) es) := HR1.out.kept HKN2.out (fun _ _ hf => hf)
    have hszw : W.heap.size + 1 < w2.heap.size := by have := HKN2.out.size; have := HK2.out.size; have h9 : WN.drew.heap.size = WN.heap.size := rfl; omega
    obtain ⟨-, -, -, -, -, hgW, hgl⟩ := HR2.out.cells 0 hlen0
    have HQL : Hid (∀ k, Q k → k < W.heap.size) := (HE.out.inv r pre Q W HJ.down).2
    clear z0 z1 p0 p1 z20 z21 p20 p21 HRN HFF HKN HBN HB1 HBP HB0 HK1 HD1
    generalize hn : es.length - i = n at *
    go_wp2_with fail
    go_loopw [46] (fun t wr => ∃ (k : Nat) (Q' : Nat → Prop), k ≤ n ∧ t = .int .i64 k ∧ J (r + 1) (pre ++ (es.drop i).take k) Q' wr ∧ Kept (fun j => j < B ∨ Q j) w2 wr ∧ ∀ j, Q' j → Q j ∨ w2.heap.size ≤ j) (fun t _ => n - (intOf t).toNat)
    case atStart => exact ⟨0, Q, Nat.zero_le _, rfl, by simpa using HJ2.down, Kept.refl _ _, fun _ h => .inl h⟩
    case round =>
      obtain ⟨k, Q', hk, rfl, hj, hkept, hq'⟩ := hrel
      have HJr : PLift (J (r + 1) (pre ++ (es.drop i).take k) Q' wr) := ⟨hj⟩
      have HKr : Hid (Kept (fun j => j < B ∨ Q j) w2 wr) := hkept
      have HQr : Hid (∀ j, Q' j → Q j ∨ w2.heap.size ≤ j) := hq'
      clear hj hkept hq'
      by_cases hlt : k < n
      · have HRr : Hid (EnRow wr (fun b => W0.heap.size ≤ b ∧ b < w2.heap.size) (some ⟨g, 0, none⟩) es) := by
          have : EnRow w2 (fun b => W0.heap.size ≤ b ∧ b < w2.heap.size) (some ⟨g, 0, none⟩) es := HR2.out.below
          exact this.kept HKr.out (fun b hb hc => hc.elim (fun h => by omega) (fun h => by have := HQL.out b h; omega))
        obtain ⟨c0, c1, c2, c3, c4, -, hgr⟩ := HRr.out.cells (i + k) (by omega)
        have hx0 : (es.drop i).take (k + 1) = (es.drop i).take k ++ [es[i + k]'(by omega)] := by
          rw [List.take_succ_eq_append_getElem (by simp; omega), List.getElem_drop]
        have HX : Hid ((es.drop i).take (k + 1) = (es.drop i).take k ++ [es[i + k]'(by omega)]) := hx0
        clear hx0
        have HX2 : Hid (HereW R1 R2 all (r + 1) (pre ++ (es.drop i).take k) (es[i + k]'(by omega))) := ⟨hr2, fun h0 => hr1 (List.append_eq_nil_iff.1 h0).1, by
          rw [List.append_assoc, ← HX.out, HFI.out]
          obtain ⟨z, hz⟩ := hall
          exact ⟨(onE p es).drop (k + 1) ++ z, by rw [← hz, List.append_assoc, ← List.append_assoc ((onE p es).take (k + 1)), List.take_append_drop, List.append_assoc]⟩⟩
        generalize es[i + k]'(by omega) = x at *
        have hoff : 0 + (i + k) * 5 = i * 5 + k * 5 := by rw [Nat.add_mul]; omega
        rw [hoff] at c0 c1 c2 c3 c4
        have HKa : Hid (Kept (fun _ => False) wr (wr.alloc (.cells #[.string x.pl.key, .int .i64 x.pl.num, .bool x.mark, .int .i64 (x.size : Int), .int .i64 (x.at_ : Int)] 109))) := Kept.alloc _ _ _
        have HJa : PLift (J (r + 1) (pre ++ (es.drop i).take k) Q' (wr.alloc (.cells #[.string x.pl.key, .int .i64 x.pl.num, .bool x.mark, .int .i64 (x.size : Int), .int .i64 (x.at_ : Int)] 109))) := ⟨HE.out.stp _ _ _ _ _ _ HJr.down (Int.le_refl _) (HKa.out.mono (fun _ hf => hf.elim)) ((HE.out.inv _ _ _ _ HJr.down).1.kept HKa.out (fun _ _ hf => hf))⟩
        obtain ⟨fn, tmps, assign, body, hy, hR⟩ := HE.out.yld 5 _ _ x Q' _ HJa.down HX2.out
        dsimp only [enV] at hy
        refine (wpIn_wide (n := 6)).1 ?_
        gi_wp2
        refine hR.mono ?_
        clear hR hy c0 c1 c2 c3 c4
        rintro e W3 (⟨rfl, Q3, hj3, hk3, hq3⟩ | ⟨rfl, hx3⟩)
        · have HJ3 : PLift (J (r + 1) (pre ++ (es.drop i).take (k + 1)) Q3 W3) := ⟨by rw [HX.out, ← List.append_assoc]; exact hj3⟩
          have hsa : (wr.alloc (.cells #[.string x.pl.key, .int .i64 x.pl.num, .bool x.mark, .int .i64 (x.size : Int), .int .i64 (x.at_ : Int)] 109)).heap.size = wr.heap.size + 1 := by simp
          have hszr := HKr.out.size
          have HK3 : Hid (Kept (fun j => j < B ∨ Q j) w2 W3) := (HKr.out.trans HKa.out (fun _ hf => hf.elim)).trans hk3 (fun j hj => by
            rcases hj with h | h
            · exact .inl (.inl h)
            · exact (HQr.out j h).imp .inr id)
          have HQ3 : Hid (∀ j, Q3 j → Q j ∨ w2.heap.size ≤ j) := fun j hj => by
            rcases hq3 j hj with h | h
            · exact HQr.out j h
            · exact .inr (by omega)
          clear hj3 hk3 hq3
          gi_wp2
          go_roundw
          case rel => exact ⟨k + 1, Q3, by omega, by go_num, HJ3.down, HK3.out, HQ3.out⟩
          case measure => simp [intOf]; omega
        · obtain ⟨HX3⟩ : Nonempty (PLift (Jx (r + 1) (pre ++ (es.drop i).take k ++ [x]) W3)) := ⟨⟨hx3⟩⟩
          clear hx3
          gi_wp2
          go_ret
          exact .inr ⟨rfl, _, _, HX3.down⟩
      · have hkk : k = n := by omega
        have hx0 : (es.drop i).take k = onE p es := by rw [List.take_of_length_le (by simp; omega)]; exact HFI.out
        have HX : Hid ((es.drop i).take k = onE p es) := hx0
        clear hx0
        go_wp2
        go_ret
        refine .inl ⟨rfl, r + 1, Q', by omega, by omega, fun _ => by omega, by rw [← HX.out]; exact HJr.down, ?_, fun j hj => (HQr.out j hj).imp id (fun h => by omega)⟩
        exact (HKW2.out.mono (fun j hj => .inl (by rw [hj]; exact HE.out.bdB))).trans HKr.out (fun _ h => .inl h)
  · obtain rfl : i = es.length := by omega
    clear hi hfi
    have hI2 : (es.length : Int) ≤ (cap : Int) := by omega
    by_cases hce : cap = es.length
    · subst hce
      go_region_held3 (fun w' => w'.cell? ⟨w1.heap.size, 0, none⟩ = some (.int .u8 5) ∧ w'.cell? ⟨w1.heap.size, 1, none⟩ = some (.slice (some ⟨g, 0, none⟩) es.length es.length) ∧ w'.cell? ⟨W.heap.size, 0, none⟩ = some (.string p.key) ∧ w'.cell? ⟨W.heap.size, 1, none⟩ = some (.int .i64 p.num)) (go_keep) ((go_at_call 175; refine (HFF.out _ (Kept.drew _ _)).mono ?_; rintro x w2 ⟨rfl, hk2⟩; have HK2 : Hid (Kept (fun _ => False) WN.drew w2) := hk2; have z20 : w2.cell? ⟨w1.heap.size, 0, none⟩ = some (.int .u8 5) := (hk2.cell (a := ⟨w1.heap.size, 0, none⟩) hlN id).trans z0; have z21 : w2.cell? ⟨w1.heap.size, 1, none⟩ = some (.slice (some ⟨g, 0, none⟩) es.length es.length) := (hk2.cell (a := ⟨w1.heap.size, 1, none⟩) hlN id).trans z1; have p20 : w2.cell? ⟨W.heap.size, 0, none⟩ = some (.string p.key) := (hk2.cell (a := ⟨W.heap.size, 0, none⟩) hlP id).trans p0; have p21 : w2.cell? ⟨W.heap.size, 1, none⟩ = some (.int .i64 p.num) := (hk2.cell (a := ⟨W.heap.size, 1, none⟩) hlP id).trans p1; clear hk2))
      have HKW2 : Hid (Kept (fun k => k = bd) W w2) := ((((HK0.out.mono (fun _ hf => hf.elim)).trans HK1.out (fun _ h => .inl h)).trans HKN.out (fun _ hf => hf.elim)).trans (Kept.drew (fun _ => False) WN) (fun _ hf => hf.elim)).trans HK2.out (fun _ hf => hf.elim)
      have HKN2 : Hid (Kept (fun _ => False) w1 w2) := (HKN.out.trans (Kept.drew (fun _ => False) WN) (fun _ h => .inl h)).trans HK2.out (fun _ h => .inl h)
      have HD2 : Hid (Disk w2 bd S { D with reads := r + 1 }) := HD1.out.kept HKN2.out (fun _ _ hf => hf)
      have HJ2 : PLift (J (r + 1) pre Q w2) := ⟨HE.out.stp r (r + 1) pre Q W w2 HJ.down (by omega) HKW2.out HD2.out⟩
      have hn : es.length - es.length = 0 := by omega
      try rw [hn]
      have hx0 : onE p es = [] := by rw [← HFI.out]; exact List.drop_of_length_le (by omega)
      have HX : Hid (onE p es = []) := hx0
      clear hx0 z0 z1 p0 p1 z20 z21 p20 p21
      go_wp2_with fail
      go_loopw [46] (fun t wr => t = .int .i64 0 ∧ wr = w2) (fun t _ => 0)
      case atStart => exact ⟨rfl, rfl⟩
      case round =>
        obtain ⟨rfl, rfl⟩ := hrel
        go_wp2
        go_ret
        refine .inl ⟨rfl, r + 1, Q, by omega, by omega, fun _ => by omega, by rw [HX.out, List.append_nil]; exact HJ2.down, ?_, fun j hj => .inl hj⟩
        exact HKW2.out.mono (fun j hj => .inl (by rw [hj]; exact HE.out.bdB))
    · have hne : ¬ (cap : Int) = (es.length : Int) := by omega
      go_region_held3 (fun w' => w'.cell? ⟨w1.heap.size, 0, none⟩ = some (.int .u8 5) ∧ w'.cell? ⟨w1.heap.size, 1, none⟩ = some (.slice (some ⟨g, 0, none⟩) es.length cap) ∧ w'.cell? ⟨W.heap.size, 0, none⟩ = some (.string p.key) ∧ w'.cell? ⟨W.heap.size, 1, none⟩ = some (.int .i64 p.num)) (go_keep) ((go_at_call 175; refine (HFF.out _ (Kept.drew _ _)).mono ?_; rintro x w2 ⟨rfl, hk2⟩; have HK2 : Hid (Kept (fun _ => False) WN.drew w2) := hk2; have z20 : w2.cell? ⟨w1.heap.size, 0, none⟩ = some (.int .u8 5) := (hk2.cell (a := ⟨w1.heap.size, 0, none⟩) hlN id).trans z0; have z21 : w2.cell? ⟨w1.heap.size, 1, none⟩ = some (.slice (some ⟨g, 0, none⟩) es.length cap) := (hk2.cell (a := ⟨w1.heap.size, 1, none⟩) hlN id).trans z1; have p20 : w2.cell? ⟨W.heap.size, 0, none⟩ = some (.string p.key) := (hk2.cell (a := ⟨W.heap.size, 0, none⟩) hlP id).trans p0; have p21 : w2.cell? ⟨W.heap.size, 1, none⟩ = some (.int .i64 p.num) := (hk2.cell (a := ⟨W.heap.size, 1, none⟩) hlP id).trans p1; clear hk2))
      have HKW2 : Hid (Kept (fun k => k = bd) W w2) := ((((HK0.out.mono (fun _ hf => hf.elim)).trans HK1.out (fun _ h => .inl h)).trans HKN.out (fun _ hf => hf.elim)).trans (Kept.drew (fun _ => False) WN) (fun _ hf => hf.elim)).trans HK2.out (fun _ hf => hf.elim)
      have HKN2 : Hid (Kept (fun _ => False) w1 w2) := (HKN.out.trans (Kept.drew (fun _ => False) WN) (fun _ h => .inl h)).trans HK2.out (fun _ h => .inl h)
      have HD2 : Hid (Disk w2 bd S { D with reads := r + 1 }) := HD1.out.kept HKN2.out (fun _ _ hf => hf)
      have HJ2 : PLift (J (r + 1) pre Q w2) := ⟨HE.out.stp r (r + 1) pre Q W w2 HJ.down (by omega) HKW2.out HD2.out⟩
      have hn : es.length - es.length = 0 := by omega
      try rw [hn]
      have hx0 : onE p es = [] := by rw [← HFI.out]; exact List.drop_of_length_le (by omega)
      have HX : Hid (onE p es = []) := hx0
      clear hx0 z0 z1 p0 p1 z20 z21 p20 p21
      go_wp2_with fail
      go_loopw [46] (fun t wr => t = .int .i64 0 ∧ wr = w2) (fun t _ => 0)
      case atStart => exact ⟨rfl, rfl⟩
      case round =>
        obtain ⟨rfl, rfl⟩ := hrel
        go_wp2
        go_ret
        refine .inl ⟨rfl, r + 1, Q, by omega, by omega, fun _ => by omega, by rw [HX.out, List.append_nil]; exact HJ2.down, ?_, fun j hj => .inl hj⟩
        exact HKW2.out.mono (fun j hj => .inl (by rw [hj]; exact HE.out.bdB))
end Go.Proofs.YtcoengihaobddaaGreatDoor.prog
namespace Go.Proofs.YtcoengihaobddaaGreatDoor.prog
open Go.ChangeShapes Go.WideShapes Go.ChangeAt Go.RowKit Go.Proofs.YtcoengihaobddaaGreatDoor.disk Go.Proofs.YtcoengihaobddaaGreatDoor.ref
open Go.Proofs.YtcoengihaobddaaGreatDoor.keys (ret_int ret_bool beq_no beq_yes)
set_option linter.unusedVariables false
set_option maxRecDepth 8000

/-- A child that is walked: its block, what it tells, how many blocks are read at most, how many till the first is told. -/
structure Kid where
  blk : Nat
  y : List En
  n : Nat
  f : Nat
def kidsY (ks : List Kid) : List En := (ks.map Kid.y).flatten
def kidsN (ks : List Kid) : Nat := (ks.map Kid.n).sum
def kidsF (ks : List Kid) : Nat := fyL (ks.map fun k => (k.f, k.y.isEmpty))
theorem kidsY_snoc {ks : List Kid} {k : Nat} (h : k < ks.length) : kidsY (ks.take (k + 1)) = kidsY (ks.take k) ++ ks[k].y := by
  rw [List.take_succ_eq_append_getElem h]; simp only [kidsY, List.map_append, List.map_cons, List.map_nil, List.flatten_append, List.flatten_cons, List.flatten_nil, List.append_nil]
theorem kidsN_snoc {ks : List Kid} {k : Nat} (h : k < ks.length) : kidsN (ks.take (k + 1)) = kidsN (ks.take k) + ks[k].n := by
  rw [List.take_succ_eq_append_getElem h]; simp only [kidsN, List.map_append, List.map_cons, List.map_nil, List.sum_append, List.sum_cons, List.sum_nil, Nat.add_zero]
theorem kidsN_le (ks : List Kid) (k : Nat) : kidsN (ks.take k) ≤ kidsN ks := by
  conv => rhs; rw [← List.take_append_drop k ks]
  simp only [kidsN, List.map_append, List.sum_append]; omega
theorem kidsF_at {ks : List Kid} {k : Nat} (h : k < ks.length) : kidsF (ks.drop k) = ks[k].f + if ks[k].y.isEmpty then kidsF (ks.drop (k + 1)) else 0 := by
  rw [List.drop_eq_getElem_cons h]; rfl
theorem kidsY_pre (ks : List Kid) (k : Nat) : kidsY (ks.take k) <+: kidsY ks := by
  conv => rhs; rw [← List.take_append_drop k ks]
  exact ⟨kidsY (ks.drop k), by simp only [kidsY, List.map_append, List.flatten_append]⟩
/-- What walking a child does. -/
structure KidOk (l : Nat) (J : Int → List En → (Nat → Prop) → World → Prop) (Jx : Int → List En → World → Prop) (B bd : Nat) (R1 R2 : Int) (all : List En) (p : Pl) (k : Kid) : Prop where
  go : ∀ (A : World) (r : Int) (pre : List En) (Q : Nat → Prop), J r pre Q A → B ≤ A.heap.size → 0 ≤ r → r + k.n ≤ R2 → (pre = [] → r + k.f ≤ R1) → (pre ++ k.y) <+: all →
    Calls Tryz.prog 191 #[.iface 29 (.pointer (some ⟨bd, 0, none⟩)), .int .i64 k.blk, .agg #[.string p.key, .int .i64 p.num], .func (.yield l) #[] #[]] A (WalkPost J Jx B A r pre Q k.y k.n k.f)

set_option maxHeartbeats 4000000 in
theorem walk_branch (l : Nat) (J : Int → List En → (Nat → Prop) → World → Prop) (Jx : Int → List En → World → Prop) (B bd : Nat) (S : Nat → Prop) (D : Dk) (R1 R2 : Int) (all : List En) (E : WalkEnv l J Jx B bd S D R1 R2 all) (hR2 : R2 ≤ 4611686018427380000)
    (W : World) (r : Int) (pre : List En) (Q : Nat → Prop) (hJ : J r pre Q W) (hB : B ≤ W.heap.size) (p : Pl) (at_ : Nat) (hat : at_ < 65536) (es : List En) (hes : ∀ e ∈ es, e.Ok) (hlen0 : 0 < es.length) (hlen : es.length ≤ 6) (hs : Srt es) (h4 : ∀ e ∈ es, e.mark = false ∧ e.size = 0) (hl : D.look at_ = pgV (nodePg 4 es))
    (ks : List Kid) (hks : ks.length = es.length - childI es p) (hka : ∀ k (hk : k < ks.length) (h2 : childI es p + k < es.length), es[childI es p + k].at_ = ks[k].blk) (hok : ∀ k ∈ ks, KidOk l J Jx B bd R1 R2 all p k)
    (hr0 : 0 ≤ r) (hr2 : r + (1 + kidsN ks : Nat) ≤ R2) (hr1 : pre = [] → r + (1 + kidsF ks : Nat) ≤ R1) (hall : (pre ++ kidsY ks) <+: all) :
    Calls Tryz.prog 191 #[.iface 29 (.pointer (some ⟨bd, 0, none⟩)), .int .i64 at_, .agg #[.string p.key, .int .i64 p.num], .func (.yield l) #[] #[]] W (WalkPost J Jx B W r pre Q (kidsY ks) (1 + kidsN ks) (1 + kidsF ks)) := by
  have HE : Hid _ := E
  have HES : Hid (∀ e ∈ es, e.Ok) := hes
  have HS : Hid (Srt es) := hs
  have HL : Hid _ := hl
  have H4 : Hid (∀ e ∈ es, e.mark = false ∧ e.size = 0) := h4
  have HOK : Hid (∀ k ∈ ks, KidOk l J Jx B bd R1 R2 all p k) := hok
  have hci := childI_lt p (l := es) (fun e0 => by rw [e0] at hlen0; simp at hlen0)
  have hd := (E.inv r pre Q W hJ).1
  have HD : Hid (Disk W bd S { D with reads := r }) := hd
  obtain ⟨HJ⟩ : Nonempty (PLift (J r pre Q W)) := ⟨⟨hJ⟩⟩
  have HSL : Hid (∀ k, S k → k < W.heap.size) := hd.lt
  have hbd : bd < W.heap.size := hd.lt bd hd.bdS
  clear E hes hs hl hJ hd h4 hok
  go_enter Tryz.func191, Tryz.ntmps191
  go_wp2_with fail
  have HK0 : Hid (Kept (fun _ => False) W (W.alloc (.cells #[.string p.key, .int .i64 p.num] 107))) := Kept.alloc _ _ _
  have HB0 : Hid ((W.alloc (.cells #[.string p.key, .int .i64 p.num] 107)).heap[W.heap.size]? = some (.cells #[.string p.key, .int .i64 p.num] 107 (0, 0))) := heap_alloc_new W _
  have hs0 : (W.alloc (.cells #[.string p.key, .int .i64 p.num] 107)).heap.size = W.heap.size + 1 := by simp
  generalize (W.alloc (.cells #[.string p.key, .int .i64 p.num] 107)) = W0 at *
  refine (loadd_any W0 bd S _ (HD.out.kept HK0.out (fun _ _ hf => hf)) hr0 (by show r ≤ _; omega) at_ hat 4 es (.inl rfl) HES.out (fun _ => H4.out) hlen HL.out).mono ?_
  rintro x w1 ⟨a, cap, rfl, hd1, hk1, hrow1, hown1, hfr1⟩
  have HD1 : Hid (Disk w1 bd S { D with reads := r + 1 }) := hd1
  have HK1 : Hid (Kept (fun j => j = bd) W0 w1) := hk1
  have HR1 : Hid _ := hrow1
  have HO1 : Hid _ := hown1
  have hsz1 := hk1.size
  have HB1 : Hid (w1.heap[W.heap.size]? = _) := (hk1.block _ (by omega) (by omega)).trans HB0.out
  clear hd1 hk1 hrow1 hown1 hfr1
  go_wp2_with fail
  obtain ⟨g, rfl⟩ : ∃ g, a = some ⟨g, 0, none⟩ := by
    rcases HO1.out.2 with ⟨_, h1⟩ | ⟨g, cap', cur, hv, _⟩
    · omega
    · cases hv; exact ⟨g, rfl⟩
  have hcap : es.length ≤ cap := by
    rcases HO1.out.2 with ⟨h1, h2⟩ | ⟨g', cap', cur, hv, _, hg, h1, h2, _⟩
    · cases h1
    · cases hv; exact h1
  have HKN : Hid (Kept (fun _ => False) w1 (w1.alloc (.cells #[.int .u8 4, .slice (some ⟨g, 0, none⟩) es.length cap] 209))) := Kept.alloc _ _ _
  have HBN : Hid ((w1.alloc (.cells #[.int .u8 4, .slice (some ⟨g, 0, none⟩) es.length cap] 209)).heap[w1.heap.size]? = some (.cells #[.int .u8 4, .slice (some ⟨g, 0, none⟩) es.length cap] 209 (0, 0))) := heap_alloc_new w1 _
  have hsN : (w1.alloc (.cells #[.int .u8 4, .slice (some ⟨g, 0, none⟩) es.length cap] 209)).heap.size = w1.heap.size + 1 := by simp
  generalize (w1.alloc (.cells #[.int .u8 4, .slice (some ⟨g, 0, none⟩) es.length cap] 209)) = WN at *
  have HRN : Hid (EnRow WN (fun b => W0.heap.size ≤ b) (some ⟨g, 0, none⟩) es) := HR1.out.kept HKN.out (fun _ _ hf => hf)
  have HBP : Hid (WN.heap[W.heap.size]? = _) := (HKN.out.block _ (by omega) id).trans HB1.out
  have z0 : WN.cell? ⟨w1.heap.size, 0, none⟩ = some (.int .u8 4) := by rw [cell_of_row WN _ 0 _ _ _ HBN.out]; rfl
  have z1 : WN.cell? ⟨w1.heap.size, 1, none⟩ = some (.slice (some ⟨g, 0, none⟩) es.length cap) := by rw [cell_of_row WN _ 1 _ _ _ HBN.out]; rfl
  have p0 : WN.cell? ⟨W.heap.size, 0, none⟩ = some (.string p.key) := by rw [cell_of_row WN _ 0 _ _ _ HBP.out]; rfl
  have p1 : WN.cell? ⟨W.heap.size, 1, none⟩ = some (.int .i64 p.num) := by rw [cell_of_row WN _ 1 _ _ _ HBP.out]; rfl
  have hlP : W.heap.size < WN.heap.size := by omega
  have hlN : w1.heap.size < WN.heap.size := by omega
  have HKA : Hid (∀ k (hk : k < ks.length) (h2 : childI es p + k < es.length), es[childI es p + k].at_ = ks[k].blk) := hka
  clear hka
  have HFF : Hid (∀ w' : World, Kept (fun _ => False) WN w' → Calls Tryz.prog 176 #[.agg #[.int .u8 4, .slice (some ⟨g, 0, none⟩) es.length cap], .agg #[.string p.key, .int .i64 p.num]] w' fun r w'' => r = .returned (.int .i64 (childI es p : Nat)) ∧ Kept (fun _ => False) w' w'') := fun w' hw' => child_any w' _ _ cap es (HRN.out.kept hw' (fun _ _ hf => hf)) HS.out 4 p
  generalize childI es p = i at *
  have hne : ¬ (cap : Int) = (i : Int) := by omega
  have hne2 : ¬ cap = i := by omega
  have hI1 : (i : Int) ≤ (es.length : Int) := by omega
  have hI2 : (es.length : Int) ≤ (cap : Int) := by omega
  go_region_held3 (fun w' => w'.cell? ⟨w1.heap.size, 0, none⟩ = some (.int .u8 4) ∧ w'.cell? ⟨w1.heap.size, 1, none⟩ = some (.slice (some ⟨g, 0, none⟩) es.length cap) ∧ w'.cell? ⟨W.heap.size, 0, none⟩ = some (.string p.key) ∧ w'.cell? ⟨W.heap.size, 1, none⟩ = some (.int .i64 p.num)) (go_keep) ((go_at_call 176; refine (HFF.out _ (Kept.drew _ _)).mono ?_; rintro x w2 ⟨rfl, hk2⟩; have HK2 : Hid (Kept (fun _ => False) WN.drew w2) := hk2; have z20 : w2.cell? ⟨w1.heap.size, 0, none⟩ = some (.int .u8 4) := (hk2.cell (a := ⟨w1.heap.size, 0, none⟩) hlN id).trans z0; have z21 : w2.cell? ⟨w1.heap.size, 1, none⟩ = some (.slice (some ⟨g, 0, none⟩) es.length cap) := (hk2.cell (a := ⟨w1.heap.size, 1, none⟩) hlN id).trans z1; have p20 : w2.cell? ⟨W.heap.size, 0, none⟩ = some (.string p.key) := (hk2.cell (a := ⟨W.heap.size, 0, none⟩) hlP id).trans p0; have p21 : w2.cell? ⟨W.heap.size, 1, none⟩ = some (.int .i64 p.num) := (hk2.cell (a := ⟨W.heap.size, 1, none⟩) hlP id).trans p1; clear hk2))
  have HKW2 : Hid (Kept (fun k => k = bd) W w2) := ((((HK0.out.mono (fun _ hf => hf.elim)).trans HK1.out (fun _ h => .inl h)).trans HKN.out (fun _ hf => hf.elim)).trans (Kept.drew (fun _ => False) WN) (fun _ hf => hf.elim)).trans HK2.out (fun _ hf => hf.elim)
  have HKN2 : Hid (Kept (fun _ => False) w1 w2) := (HKN.out.trans (Kept.drew (fun _ => False) WN) (fun _ h => .inl h)).trans HK2.out (fun _ h => .inl h)
  have HD2 : Hid (Disk w2 bd S { D with reads := r + 1 }) := HD1.out.kept HKN2.out (fun _ _ hf => hf)
  have HJ2 : PLift (J (r + 1) pre Q w2) := ⟨HE.out.stp r (r + 1) pre Q W w2 HJ.down (by omega) HKW2.out HD2.out⟩
  have HBP2 : Hid (w2.heap[W.heap.size]? = some (.cells #[.string p.key, .int .i64 p.num] 107 (0, 0))) := (HK2.out.block _ hlP id).trans HBP.out
  have HR2 : Hid (EnRow w2 (fun b => W0.heap.size ≤ b) (some ⟨g, 0, none⟩) es) := HR1.out.kept HKN2.out (fun _ _ hf => hf)
  have hszw : W.heap.size + 1 < w2.heap.size := by have := HKN2.out.size; have := HK2.out.size; have h9 : WN.drew.heap.size = WN.heap.size := rfl; omega
  obtain ⟨-, -, -, -, -, hgW, hgl⟩ := HR2.out.cells 0 hlen0
  have HQL : Hid (∀ k, Q k → k < W.heap.size) := (HE.out.inv r pre Q W HJ.down).2
  clear z0 z1 p0 p1 z20 z21 p20 p21 HRN HFF HKN HBN HB1 HK1 HD1
  generalize hn : es.length - i = n at *
  go_wp2_with fail
  go_loopw [27] (fun t wr => ∃ (k : Nat) (r' : Int) (Q' : Nat → Prop), k ≤ n ∧ t = .int .i64 k ∧ J r' (pre ++ kidsY (ks.take k)) Q' wr ∧ r + 1 ≤ r' ∧ r' ≤ r + 1 + kidsN (ks.take k) ∧ (kidsY (ks.take k) = [] → r' + kidsF (ks.drop k) ≤ r + 1 + kidsF ks) ∧ Kept (fun j => j < B ∨ Q j) w2 wr ∧ ∀ j, Q' j → Q j ∨ w2.heap.size ≤ j) (fun t _ => n - (intOf t).toNat)
  case atStart => exact ⟨0, r + 1, Q, Nat.zero_le _, rfl, by simpa [kidsY] using HJ2.down, by omega, by simp [kidsN], fun _ => by simp, Kept.refl _ _, fun _ h => .inl h⟩
  case round =>
    obtain ⟨k, r', Q', hk, rfl, hj, hra, hrb, hrc, hkept, hq'⟩ := hrel
    have HJr : PLift (J r' (pre ++ kidsY (ks.take k)) Q' wr) := ⟨hj⟩
    have HKr : Hid (Kept (fun j => j < B ∨ Q j) w2 wr) := hkept
    have HQr : Hid (∀ j, Q' j → Q j ∨ w2.heap.size ≤ j) := hq'
    have HRC : Hid (kidsY (ks.take k) = [] → r' + kidsF (ks.drop k) ≤ r + 1 + kidsF ks) := hrc
    clear hj hkept hq' hrc
    by_cases hlt : k < n
    · have HRr : Hid (EnRow wr (fun b => W0.heap.size ≤ b ∧ b < w2.heap.size) (some ⟨g, 0, none⟩) es) := by
        have : EnRow w2 (fun b => W0.heap.size ≤ b ∧ b < w2.heap.size) (some ⟨g, 0, none⟩) es := HR2.out.below
        exact this.kept HKr.out (fun b hb hc => hc.elim (fun h => by omega) (fun h => by have := HQL.out b h; omega))
      obtain ⟨c0, c1, c2, c3, c4, -, hgr⟩ := HRr.out.cells (i + k) (by omega)
      have hat2 := HKA.out k (by omega) (by omega)
      have HPr : Hid (wr.heap[W.heap.size]? = some (.cells #[.string p.key, .int .i64 p.num] 107 (0, 0))) := (HKr.out.block _ (by omega) (fun hc => hc.elim (fun h => by omega) (fun h => by have := HQL.out _ h; omega))).trans HBP2.out
      have HKD : Hid (KidOk l J Jx B bd R1 R2 all p (ks[k]'(by omega))) := HOK.out _ (List.getElem_mem _)
      have hyk := kidsY_snoc (ks := ks) (k := k) (by omega)
      have hnk := kidsN_snoc (ks := ks) (k := k) (by omega)
      have hfk := kidsF_at (ks := ks) (k := k) (by omega)
      have hnl := kidsN_le ks (k + 1)
      have hyp := kidsY_pre ks (k + 1)
      generalize ks[k]'(by omega) = kd at *
      generalize es[i + k]'(by omega) = x at *
      rw [hat2] at c4
      have hoff : 0 + (i + k) * 5 = i * 5 + k * 5 := by rw [Nat.add_mul]; omega
      rw [hoff] at c0 c1 c2 c3 c4
      have HYK : Hid (kidsY (ks.take (k + 1)) = kidsY (ks.take k) ++ kd.y) := hyk
      have HFK : Hid (kidsF (ks.drop k) = kd.f + if kd.y.isEmpty then kidsF (ks.drop (k + 1)) else 0) := hfk
      have HYP : Hid (kidsY (ks.take (k + 1)) <+: kidsY ks) := hyp
      clear hyk hfk hyp hat2 HKA
      have hpl : W.heap.size < wr.heap.size := (Array.getElem?_eq_some_iff.1 HPr.out).1
      have p0 : wr.cell? ⟨W.heap.size, 0, none⟩ = some (.string p.key) := by rw [cell_of_row wr _ 0 _ _ _ HPr.out]; rfl
      have p1 : wr.cell? ⟨W.heap.size, 1, none⟩ = some (.int .i64 p.num) := by rw [cell_of_row wr _ 1 _ _ _ HPr.out]; rfl
      go_wp2_with fail
      have HKa : Hid (Kept (fun _ => False) wr (wr.alloc (.cells #[.string x.pl.key, .int .i64 x.pl.num, .bool x.mark, .int .i64 (x.size : Int), .int .i64 (kd.blk : Int)] 109))) := Kept.alloc _ _ _
      have hsa : (wr.alloc (.cells #[.string x.pl.key, .int .i64 x.pl.num, .bool x.mark, .int .i64 (x.size : Int), .int .i64 (kd.blk : Int)] 109)).heap.size = wr.heap.size + 1 := by simp
      generalize (wr.alloc (.cells #[.string x.pl.key, .int .i64 x.pl.num, .bool x.mark, .int .i64 (x.size : Int), .int .i64 (kd.blk : Int)] 109)) = WA at *
      have HJa : PLift (J r' (pre ++ kidsY (ks.take k)) Q' WA) := ⟨HE.out.stp _ _ _ _ _ _ HJr.down (Int.le_refl _) (HKa.out.mono (fun _ hf => hf.elim)) ((HE.out.inv _ _ _ _ HJr.down).1.kept HKa.out (fun _ _ hf => hf))⟩
      have hszr := HKr.out.size
      have hfirst : pre ++ kidsY (ks.take k) = [] → r' + kd.f ≤ R1 := fun h0 => by
        obtain ⟨h1, h2⟩ := List.append_eq_nil_iff.1 h0
        have h3 := HRC.out h2
        have h4 := hr1 h1
        rw [HFK.out] at h3
        omega
      refine (HKD.out.go WA r' _ Q' HJa.down (by omega) (by omega) (by omega) hfirst (by
        rw [List.append_assoc, ← HYK.out]
        obtain ⟨z, hz⟩ := HYP.out
        obtain ⟨z2, hz2⟩ := hall
        exact ⟨z ++ z2, by rw [← hz2, ← hz, List.append_assoc, List.append_assoc, List.append_assoc]⟩)).mono ?_
      clear hfirst
      rintro e W3 (⟨rfl, r3, Q3, g1, g2, g3, hj3, hk3, hq3⟩ | ⟨rfl, r3, q3, hx3⟩)
      · have HJ3 : PLift (J r3 (pre ++ kidsY (ks.take (k + 1))) Q3 W3) := ⟨by rw [HYK.out, ← List.append_assoc]; exact hj3⟩
        have HK3 : Hid (Kept (fun j => j < B ∨ Q j) w2 W3) := (HKr.out.trans HKa.out (fun _ hf => hf.elim)).trans hk3 (fun j hj => by
          rcases hj with h | h
          · exact .inl (.inl h)
          · exact (HQr.out j h).imp .inr id)
        have HQ3 : Hid (∀ j, Q3 j → Q j ∨ w2.heap.size ≤ j) := fun j hj => by
          rcases hq3 j hj with h | h
          · exact HQr.out j h
          · exact .inr (by omega)
        have HR3 : Hid (kidsY (ks.take (k + 1)) = [] → r3 + kidsF (ks.drop (k + 1)) ≤ r + 1 + kidsF ks) := fun h0 => by
          rw [HYK.out] at h0
          obtain ⟨h1, h2⟩ := List.append_eq_nil_iff.1 h0
          have h3 := HRC.out h1
          have h4 := g3 h2
          rw [HFK.out, if_pos (by rw [h2]; rfl)] at h3
          omega
        clear hj3 hk3 hq3 g3
        go_wp2
        go_roundw
        case rel => exact ⟨k + 1, r3, Q3, by omega, by go_num, HJ3.down, by omega, by omega, HR3.out, HK3.out, HQ3.out⟩
        case measure => simp [intOf]; omega
      · obtain ⟨HX3⟩ : Nonempty (PLift (Jx r3 q3 W3)) := ⟨⟨hx3⟩⟩
        clear hx3
        go_wp2
        go_ret
        exact .inr ⟨rfl, _, _, HX3.down⟩
    · have hkk : ks.take k = ks := List.take_of_length_le (by omega)
      have hkd : ks.drop k = [] := List.drop_of_length_le (by omega)
      have HJe : PLift (J r' (pre ++ kidsY ks) Q' wr) := ⟨by have := HJr.down; rw [hkk] at this; exact this⟩
      have HRe : Hid (kidsY ks = [] → r' ≤ r + 1 + kidsF ks) := fun h0 => by
        have := HRC.out (by rw [hkk]; exact h0)
        omega
      rw [hkk] at hrb
      clear hkk hkd
      go_wp2
      go_ret
      refine .inl ⟨rfl, r', Q', by omega, by omega, fun h => by have := HRe.out h; omega, HJe.down, ?_, fun j hj => (HQr.out j hj).imp id (fun h => by omega)⟩
      exact (HKW2.out.mono (fun j hj => .inl (by rw [hj]; exact HE.out.bdB))).trans HKr.out (fun _ h => .inl h)
end Go.Proofs.YtcoengihaobddaaGreatDoor.prog

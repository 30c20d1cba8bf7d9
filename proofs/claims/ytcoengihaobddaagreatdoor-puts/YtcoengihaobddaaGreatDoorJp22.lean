/- Part 22 of 39 of a proof: Ins1, Ins2, Ins3, Ins4 -/
import Derived.Test.YtcoengihaobddaaGreatDoorJp21
import Derived.Lib.Overlaps
import Derived.Lib.AppendZerosOnto
namespace Go.Proofs.YtcoengihaobddaaGreatDoor.prog
open Go.ChangeShapes Go.WideShapes Go.ChangeAt Go.RowKit Go.Proofs.YtcoengihaobddaaGreatDoor.disk Go.Proofs.YtcoengihaobddaaGreatDoor.ref
open Go.Proofs.YtcoengihaobddaaGreatDoor.keys (ret_int ret_bool beq_no beq_yes)
set_option linter.unusedVariables false
set_option maxRecDepth 8000

/-- copy, of elements of more than one cell. -/
theorem run_copy_rowS {P : Program} (w : World) (dT sT ty elem : TypeId) (size g o dLen dCap : Nat) (a : Addr) (sLen sCap : Nat) (cur : Array Value) (t : TypeId) (cs : List Value)
    (hu : P.underlying dT = some (.slice elem)) (hs : (P.info? elem).map (·.size) = some size)
    (hg : w.heap[g]? = some (.cells cur t (0, 0))) (hn : Nat.min sLen dLen * size = cs.length)
    (hsrc : ∀ j v, cs[j]? = some v → w.cell? (a.add j) = some v) (hfit : o + cs.length ≤ cur.size) (h1 : ∀ v ∈ cs, v.oneCell' = true) :
    (Builtin.copy_ #[dT, sT] ty #[.slice (some ⟨g, o, none⟩) dLen dCap, .slice (some a) sLen sCap]).run P w =
      .ok (goInt (Nat.min sLen dLen)) (w.setRow g (cur.toList.take o ++ cs ++ cur.toList.drop (o + cs.length)).toArray) := by
  have hl := run_loadCells_list (P := P) w a cs hsrc
  have hst := run_storeCells_at P g o t cs 0 cur w hg (by simpa using hfit) h1
  cases hq : P.info? elem with
  | none => simp [hq] at hs
  | some i =>
    have hi : i.size = size := by simpa [hq] using hs
    simp only [Nat.add_zero] at hst
    simp [Builtin.copy_, run_underlying hu, Builtin.lenOf, Builtin.firstCells, sizeOf, typeInfo, hq, hi, hn, hl, hst]
def cpE (args : Array Value) : Sem Value := Builtin.copy_ #[207, 207] 3 args
theorem cpE_eq (args : Array Value) : Builtin.copy_ #[207, 207] 3 args = cpE args := rfl
def appZ (args : Array Value) : Sem Value := Builtin.append_ #[207, 3] 207 args
theorem appZ_eq (args : Array Value) : Builtin.append_ #[207, 3] 207 args = appZ args := rfl
def flatV (es : List En) : List Value := (es.map enV).flatten
theorem flatV_len (es : List En) : (flatV es).length = es.length * 5 := by
  induction es with
  | nil => rfl
  | cons e r ih => rw [flatV, List.map_cons, List.flatten_cons, List.length_append]; rw [flatV] at ih; rw [ih]; simp [enV]; omega
theorem flatV_append (A B : List En) : flatV (A ++ B) = flatV A ++ flatV B := by simp [flatV]
theorem flatV_cons (e : En) (B : List En) : flatV (e :: B) = enV e ++ flatV B := by simp [flatV]
theorem flatV_one (es : List En) : ∀ v ∈ flatV es, v.oneCell' = true := fun v hv => by
  obtain ⟨l, hl, hv⟩ := List.mem_flatten.1 hv
  obtain ⟨e, he, rfl⟩ := List.mem_map.1 hl
  simp [enV] at hv
  rcases hv with rfl | rfl | rfl | rfl | rfl <;> rfl
theorem enV_one (e : En) : ∀ v ∈ enV e, v.oneCell' = true := fun v hv => flatV_one [e] v (by rw [flatV_cons]; exact List.mem_append_left _ hv)
theorem Tryz.entry_size : (Tryz.prog.info? 109).map (·.size) = some 5 := size_of Tryz.infoEntry
theorem run_cpE (w : World) (g o dLen dCap : Nat) (a : Addr) (sLen sCap : Nat) (cur : Array Value) (t : TypeId) (cs : List Value)
    (hg : w.heap[g]? = some (.cells cur t (0, 0))) (hn : Nat.min sLen dLen * 5 = cs.length)
    (hsrc : ∀ j v, cs[j]? = some v → w.cell? (a.add j) = some v) (hfit : o + cs.length ≤ cur.size) (h1 : ∀ v ∈ cs, v.oneCell' = true) :
    (cpE #[.slice (some ⟨g, o, none⟩) dLen dCap, .slice (some a) sLen sCap]).run Tryz.prog w =
      .ok (goInt (Nat.min sLen dLen)) (w.setRow g (cur.toList.take o ++ cs ++ cur.toList.drop (o + cs.length)).toArray) :=
  run_copy_rowS w 207 207 3 109 5 g o dLen dCap a sLen sCap cur t cs Tryz.underlying207 Tryz.entry_size hg hn hsrc hfit h1
/-- The two copies of an insert in its place, on cells. -/
theorem ins_cells (A B : List Value) (v : List Value) (sp : List Value) (k : Nat) (hv : v.length = k) (hsp : k ≤ sp.length) :
    let cur := A ++ B ++ sp
    let cur1 := cur.take (A.length + k) ++ B ++ cur.drop (A.length + k + B.length)
    cur1.take A.length ++ v ++ cur1.drop (A.length + k) = A ++ v ++ B ++ sp.drop k := by
  have h1 : (A ++ B ++ sp).drop (A.length + k + B.length) = sp.drop k := by
    rw [show A.length + k + B.length = (A ++ B).length + k by rw [List.length_append]; omega, List.drop_append, List.drop_eq_nil_of_le (by omega), List.nil_append, Nat.add_sub_cancel_left]
  have h2 : ((A ++ B ++ sp).take (A.length + k)).length = A.length + k := by rw [List.length_take, List.length_append, List.length_append]; omega
  have h3 : ((A ++ B ++ sp).take (A.length + k)).take A.length = A := by
    rw [List.take_take, Nat.min_eq_left (by omega), List.append_assoc, List.take_append_of_le_length (Nat.le_refl _), List.take_length]
  simp only
  rw [h1, List.append_assoc ((A ++ B ++ sp).take _) B]
  rw [List.take_append_of_le_length (by omega), h3, List.drop_append_of_le_length (by omega), List.drop_eq_nil_of_le (by omega)]
  simp
/-- What an insert makes. -/
structure InsRow (w w' : World) (a : Option Addr) (n cap : Nat) (es' : List En) (g cp : Nat) : Prop where
  own : w'.ownsRow 0 109 5 (.slice (some ⟨g, 0, none⟩) es'.length cp) es'.length (flatV es')
  at_ : (Value.slice a n cap).ownBlock = some g ∨ w.heap.size ≤ g
  kept : Kept (fun j => (Value.slice a n cap).ownBlock = some j) w w'
section
attribute [local go_sem ↓] appE_eq
set_option maxHeartbeats 2000000 in
theorem slInsert_end (w : World) (a : Option Addr) (n cap : Nat) (es : List En) (hn : es.length = n) (h : w.ownsRow 0 109 5 (.slice a n cap) n (flatV es)) (vb : Nat) (e : En) (hb : w.heap[vb]? = some (.cells (enV e).toArray 109 (0, 0))) (hl : n ≤ 1000) (hcap : n ≤ cap) (hcap2 : cap ≤ 9223372036854775807) :
    Calls Tryz.prog 177 #[.slice a n cap, .int .i64 n, .slice (some ⟨vb, 0, none⟩) 1 1] w fun r w' => ∃ g cp, r = .returned (.slice (some ⟨g, 0, none⟩) (n + 1) cp) ∧ InsRow w w' a n cap (es ++ [e]) g cp := by
  obtain ⟨g, cp, w1, hrun, hown, hgrow, hat, hgl⟩ := run_appE w a n cap (flatV es) h vb e hb hl
  have HF : Hid (InsRow w w1 a n cap (es ++ [e]) g cp) := by
    refine ⟨?_, hat.imp id (fun h => by omega), Kept.grown hgrow (fun j hj => hj)⟩
    rw [List.length_append, List.length_singleton, hn, flatV_append, flatV_cons]
    simpa [flatV] using hown
  clear hown hgrow hat hgl h
  have hcI : (n : Int) ≤ (cap : Int) := by omega
  go_enter Tryz.func177, Tryz.ntmps177
  cases a with
  | none =>
    go_wp2
    all_goals
      go_ret
      exact ⟨g, cp, rfl, HF.out⟩
  | some a =>
    by_cases hcn : cap = n
    · subst hcn
      go_wp2
      all_goals
        go_ret
        exact ⟨g, cp, rfl, HF.out⟩
    · go_wp2
      all_goals
        go_ret
        exact ⟨g, cp, rfl, HF.out⟩
end
/-- slices.overlaps of a block of one's own and another. -/
theorem run_overlapsE (w : World) (vb g la ca lb cb o : Nat) (hne : vb ≠ g) (cur : Array Value) (vs : List Value) (hv : w.heap[vb]? = some (.cells vs.toArray 109 (0, 0))) (hg : w.heap[g]? = some (.cells cur 109 (0, 0))) (hc : cur.size ≠ 0) :
    (callFunc 198 #[.slice (some ⟨vb, 0, none⟩) la ca, .slice (some ⟨g, o, none⟩) lb cb]).run Tryz.prog w = .ok (.value (.bool false)) w := by
  rw [run_callFunc_extern Tryz.func198 (by kernel_rfl) (by kernel_rfl) (by kernel_rfl) (e := Extern.SlicesOverlaps.overlaps #[207, 207] #[4]) (by kernel_rfl),
    Lib.run_overlaps_apart w 207 4 109 Tryz.underlying207 5 (run_size Tryz.entry_size) ⟨vb, 0, none⟩ ⟨g, o, none⟩ la ca lb cb hne 109 109 vs.length cur.size (by simp [World.shape?, hv]) (by simp [World.shape?, hg]) hc (frozen_of_row w vb 0 _ _ hv) (frozen_of_row w vb _ _ _ hv)]
  rfl
section
attribute [local go_sem ↓] cpE_eq
set_option maxHeartbeats 2000000 in
theorem slInsert_room (w : World) (g n cap i : Nat) (es : List En) (hn : es.length = n) (h : w.ownsRow 0 109 5 (.slice (some ⟨g, 0, none⟩) n cap) n (flatV es)) (vb : Nat) (hvb : vb ≠ g) (e : En) (hb : w.heap[vb]? = some (.cells (enV e).toArray 109 (0, 0))) (hl : n ≤ 1000) (hi : i < n) (hroom : n + 1 ≤ cap) (hcap2 : cap ≤ 9223372036854775807) :
    Calls Tryz.prog 177 #[.slice (some ⟨g, 0, none⟩) n cap, .int .i64 i, .slice (some ⟨vb, 0, none⟩) 1 1] w fun r w' => ∃ g' cp, r = .returned (.slice (some ⟨g', 0, none⟩) (n + 1) cp) ∧ InsRow w w' (some ⟨g, 0, none⟩) n cap (es.take i ++ e :: es.drop i) g' cp := by
  obtain ⟨cur, hg, hsz, htk⟩ : ∃ cur, w.heap[g]? = some (.cells cur 109 (0, 0)) ∧ cur.size = cap * 5 ∧ cur.toList.take (n * 5) = flatV es := by
    rcases h.2 with ⟨h1, _⟩ | ⟨g', cap', cur, hv, _, hg, _, _, hs, ht⟩
    · cases h1
    · cases hv; exact ⟨cur, hg, hs, ht⟩
  have hov : ∀ o lb cb, (callFunc 198 #[.slice (some ⟨vb, 0, none⟩) 1 1, .slice (some ⟨g, o, none⟩) lb cb]).run Tryz.prog w = .ok (.value (.bool false)) w := fun o lb cb => run_overlapsE w vb g 1 1 lb cb o hvb cur (enV e) hb hg (by omega)
  have hcl : cur.toList = flatV (es.take i) ++ flatV (es.drop i) ++ cur.toList.drop (n * 5) := by
    rw [← flatV_append, List.take_append_drop, ← htk, List.take_append_drop]
  have hlA : (flatV (es.take i)).length = i * 5 := by rw [flatV_len, List.length_take, Nat.min_eq_left (by omega)]
  have hlB : (flatV (es.drop i)).length = (n - i) * 5 := by rw [flatV_len, List.length_drop, hn]
  have hcp1 := run_cpE w.drew g ((i + 1) * 5) (n + 1 - (i + 1)) (cap - (i + 1)) ⟨g, i * 5, none⟩ (n + 1 - i) (cap - i) cur 109 (flatV (es.drop i)) hg (by rw [hlB]; rw [show Nat.min (n + 1 - i) (n + 1 - (i + 1)) = n - i from by simp only [Nat.min_def]; split <;> omega])
    (fun j v hj => by
      rw [Addr.add_lit]
      show w.cell? ⟨g, i * 5 + j, none⟩ = some v
      rw [cell_of_row w g (i * 5 + j) _ _ _ hg, ← Array.getElem?_toList, hcl, List.append_assoc, List.getElem?_append_right (by omega), hlA, Nat.add_sub_cancel_left, List.getElem?_append_left (by have := (List.getElem?_eq_some_iff.1 hj).1; omega)]
      exact hj) (by rw [hlB]; omega) (flatV_one _)
  have HIC := ins_cells (flatV (es.take i)) (flatV (es.drop i)) (enV e) (cur.toList.drop (n * 5)) 5 rfl (by rw [List.length_drop, Array.length_toList]; omega)
  simp only at HIC
  rw [← hcl, hlA, hlB] at HIC
  rw [hlB, show (i + 1) * 5 = i * 5 + 5 from by omega] at hcp1
  generalize hc1 : cur.toList.take (i * 5 + 5) ++ flatV (es.drop i) ++ cur.toList.drop (i * 5 + 5 + (n - i) * 5) = c1 at *
  have hc1l : c1.length = cap * 5 := by rw [← hc1]; simp only [List.length_append, List.length_take, List.length_drop, Array.length_toList, hlB]; omega
  have hg1 : (w.drew.setRow g c1.toArray).heap[g]? = some (.cells c1.toArray 109 (0, 0)) := setRow_heap w.drew g _ _ 109 _ hg
  have hK1 : Kept (fun j => j = g) w (w.drew.setRow g c1.toArray) := ⟨rfl, rfl, rfl, by simp, fun k _ hk => setRow_other w.drew g k _ (fun e => hk (by rw [e]))⟩
  have hvl : vb < w.heap.size := (Array.getElem?_eq_some_iff.1 hb).1
  have hgl : g < w.heap.size := (Array.getElem?_eq_some_iff.1 hg).1
  generalize w.drew.setRow g c1.toArray = W1 at *
  have hb1 : W1.heap[vb]? = _ := (hK1.block vb hvl hvb).trans hb
  have hcp2 := run_cpE W1 g (i * 5) (n + 1 - i) (cap - i) ⟨vb, 0, none⟩ 1 1 c1.toArray 109 (enV e) hg1 (by rw [show Nat.min 1 (n + 1 - i) = 1 from by simp only [Nat.min_def]; split <;> omega]; rfl)
    (fun j v hj => by
      rw [Addr.add_lit, Nat.zero_add, cell_of_row W1 vb j _ _ _ hb1]
      simpa using hj) (by rw [List.size_toArray, hc1l]; simp [enV]; omega) (enV_one _)
  have hel : (enV e).length = 5 := rfl
  rw [List.toList_toArray, hel, HIC] at hcp2
  have hg2 := setRow_heap W1 g _ ((flatV (es.take i) ++ enV e ++ flatV (es.drop i) ++ (cur.toList.drop (n * 5)).drop 5).toArray) 109 _ hg1
  have hK2 : Kept (fun j => j = g) W1 (W1.setRow g ((flatV (es.take i) ++ enV e ++ flatV (es.drop i) ++ (cur.toList.drop (n * 5)).drop 5).toArray)) := ⟨rfl, rfl, rfl, by simp, fun k _ hk => setRow_other W1 g k _ (fun e => hk (by rw [e]))⟩
  generalize W1.setRow g _ = W2 at *
  have HF : Hid (InsRow w W2 (some ⟨g, 0, none⟩) n cap (es.take i ++ e :: es.drop i) g cap) := by
    have hll : (es.take i ++ e :: es.drop i).length = n + 1 := by simp only [List.length_append, List.length_take, List.length_cons, List.length_drop]; omega
    have hfl : flatV (es.take i ++ e :: es.drop i) = flatV (es.take i) ++ enV e ++ flatV (es.drop i) := by rw [flatV_append, flatV_cons, List.append_assoc]
    refine ⟨⟨by rw [flatV_len], .inr ⟨g, cap, _, rfl, Nat.zero_le _, hg2, by omega, by unfold maxLen; omega, ?_, ?_⟩⟩, .inl rfl, (hK1.trans hK2 (fun _ h => .inl h)).mono (fun j hj => by rw [hj]; rfl)⟩
    · simp only [List.size_toArray, List.length_append, List.length_drop, Array.length_toList, hlA, hlB, hel]; omega
    · rw [List.toList_toArray, hfl, hll, List.take_append_of_le_length (by simp only [List.length_append, hlA, hlB, hel]; omega), List.take_of_length_le (by simp only [List.length_append, hlA, hlB, hel]; omega)]
  clear hcl HIC hg2 hK2 hg1 hK1 hc1 hc1l hlA hlB htk hsz hg h hb hb1
  have hiI : (i : Int) < (n : Int) := by omega
  have hne : ¬ (i : Int) = (n : Int) := by omega
  have hcI : (n : Int) + 1 ≤ (cap : Int) := by omega
  have hcn : ¬ (cap : Int) < (n : Int) + 1 := by omega
  have hc2 : ¬ cap = i := by omega
  have hc3 : ¬ cap = i + 1 := by omega
  rw [show n + 1 - (i + 1) = n - i from by omega, show i * 5 + 5 = (i + 1) * 5 from by omega] at hcp1
  go_enter Tryz.func177, Tryz.ntmps177
  go_wp2_with (simp only [hov])
  go_region
  go_wp2
  go_ret
  exact ⟨g, cap, rfl, HF.out⟩
end
end Go.Proofs.YtcoengihaobddaaGreatDoor.prog
namespace Go.Proofs.YtcoengihaobddaaGreatDoor.prog
open Go.ChangeShapes Go.WideShapes Go.ChangeAt Go.RowKit Go.Proofs.YtcoengihaobddaaGreatDoor.disk Go.Proofs.YtcoengihaobddaaGreatDoor.ref
open Go.Proofs.YtcoengihaobddaaGreatDoor.keys (ret_int ret_bool beq_no beq_yes)
set_option linter.unusedVariables false
set_option maxRecDepth 8000

/-- The two copies of an insert into a new row, on cells. -/
theorem ins_cells2 (A B Z : List Value) (v : List Value) (sp : List Value) (hZ : Z.length = v.length + B.length) :
    let cur := A ++ Z ++ sp
    let cur1 := cur.take A.length ++ v ++ cur.drop (A.length + v.length)
    cur1.take (A.length + v.length) ++ B ++ cur1.drop (A.length + v.length + B.length) = A ++ v ++ B ++ sp := by
  simp only
  have h1 : (A ++ Z ++ sp).take A.length = A := by rw [List.append_assoc, List.take_append_of_le_length (Nat.le_refl _), List.take_length]
  have h2 : (A ++ Z ++ sp).drop (A.length + v.length) = Z.drop v.length ++ sp := by
    rw [List.append_assoc, ← List.drop_drop, List.drop_append_of_le_length (Nat.le_refl _), List.drop_length, List.nil_append, List.drop_append_of_le_length (by omega)]
  rw [h1, h2]
  have h3 : (A ++ v).length = A.length + v.length := List.length_append
  rw [← h3, List.take_append_of_le_length (Nat.le_refl _), List.take_length, ← List.drop_drop, List.drop_append_of_le_length (Nat.le_refl _), List.drop_length, List.nil_append]
  have h4 : (Z.drop v.length).length = B.length := by rw [List.length_drop]; omega
  rw [← h4, List.drop_append_of_le_length (Nat.le_refl _), List.drop_length, List.nil_append]
section
attribute [local go_sem ↓] cpE_eq appZ_eq
set_option maxHeartbeats 2000000 in
theorem slInsert_grow (w : World) (g n cap i : Nat) (es : List En) (hn : es.length = n) (h : w.ownsRow 0 109 5 (.slice (some ⟨g, 0, none⟩) n cap) n (flatV es)) (vb : Nat) (hvb : vb ≠ g) (e : En) (hb : w.heap[vb]? = some (.cells (enV e).toArray 109 (0, 0))) (hl : n ≤ 1000) (hi : i < n) (hroom : cap < n + 1) (hnc : n ≤ cap) :
    Calls Tryz.prog 177 #[.slice (some ⟨g, 0, none⟩) n cap, .int .i64 i, .slice (some ⟨vb, 0, none⟩) 1 1] w fun r w' => ∃ g' cp, r = .returned (.slice (some ⟨g', 0, none⟩) (n + 1) cp) ∧ InsRow w w' (some ⟨g, 0, none⟩) n cap (es.take i ++ e :: es.drop i) g' cp := by
  have hcn : cap = n := by omega
  subst hcn
  obtain ⟨cur, hg, hsz, htk⟩ : ∃ cur, w.heap[g]? = some (.cells cur 109 (0, 0)) ∧ cur.size = cap * 5 ∧ cur.toList.take (cap * 5) = flatV es := by
    rcases h.2 with ⟨h1, _⟩ | ⟨g', cap', cur, hv, _, hg, _, _, hs, ht⟩
    · cases h1
    · cases hv; exact ⟨cur, hg, hs, ht⟩
  have hcl : cur.toList = flatV (es.take i) ++ flatV (es.drop i) := by
    rw [← flatV_append, List.take_append_drop, ← htk, List.take_of_length_le (by rw [Array.length_toList, hsz]; exact Nat.le_refl _)]
  have hlA : (flatV (es.take i)).length = i * 5 := by rw [flatV_len, List.length_take, Nat.min_eq_left (by omega)]
  have hlB : (flatV (es.drop i)).length = (cap - i) * 5 := by rw [flatV_len, List.length_drop, hn]
  obtain ⟨i0, hi0, hz0, hz1, hz2⟩ := info_parts Tryz.infoEntry
  have hgw : ∀ j v, (flatV (es.take i) ++ flatV (es.drop i))[j]? = some v → w.cell? ⟨g, j, none⟩ = some v := fun j v hj => by
    rw [cell_of_row w g j _ _ _ hg, ← Array.getElem?_toList, hcl]; exact hj
  have hold : (Builtin.firstCells i0.size i (.slice (some ⟨g, 0, none⟩) i cap)).run Tryz.prog w.drew = .ok (flatV (es.take i)).toArray w.drew := by
    rw [hz1]
    exact run_firstCells_some w.drew 5 i ⟨g, 0, none⟩ i cap (flatV (es.take i)) (by rw [hlA]) (fun j v hj => by
      rw [Addr.add_lit, Nat.zero_add]
      show w.cell? ⟨g, j, none⟩ = some v
      exact hgw j v (by rw [List.getElem?_append_left (List.getElem?_eq_some_iff.1 hj).1]; exact hj))
  have hik : i + (cap + 1 - i) = cap + 1 := by omega
  have hrz : (appZ #[.slice (some ⟨g, 0, none⟩) i cap, .int .i64 ((cap + 1 - i : Nat) : Int)]).run Tryz.prog w = _ :=
    Lib.run_append_grow_zeros w 207 3 207 109 i0 _ .i64 .i64 Tryz.underlying207 Tryz.underlying3 hi0 hz0 (some ⟨g, 0, none⟩) i cap (flatV (es.take i)) hold (cap + 1 - i) (by omega) (by omega) (by omega) (by omega) (by rw [hz2]; omega) (by rw [hz2, hik]; exact growslice_fits (by omega) (by omega))
  rw [hik] at hrz
  have hG1 := grownCap_ge w (cap + 1) cap 109
  have hG2 := grownCap_le_maxLen w (cap + 1) cap 109 (by unfold maxLen; omega)
  generalize grownCap w (cap + 1) cap 109 = G at *
  have hZl : ∀ k, (Builtin.zeroCells (Value.agg #[.string ⟨#[]⟩, .int .i64 0, .bool false, .int .i64 0, .int .i64 0]).cells k).toList.length = k * 5 := fun k => by simp [Builtin.zeroCells, Value.cells]
  have hZ1 := hZl (cap + 1 - i)
  have hZ2 := hZl (G - (cap + 1))
  clear hZl hold hi0 hz0 hz1 hz2 h htk
  generalize Builtin.zeroCells (Value.agg #[.string ⟨#[]⟩, .int .i64 0, .bool false, .int .i64 0, .int .i64 0]).cells (cap + 1 - i) = ZZ at *
  generalize Builtin.zeroCells (Value.agg #[.string ⟨#[]⟩, .int .i64 0, .bool false, .int .i64 0, .int .i64 0]).cells (G - (cap + 1)) = SP at *
  have hRl : ((flatV (es.take i)).toArray ++ ZZ ++ SP).toList = flatV (es.take i) ++ ZZ.toList ++ SP.toList := by simp
  have hRs : ((flatV (es.take i)).toArray ++ ZZ ++ SP).size = G * 5 := by rw [← Array.length_toList, hRl, List.length_append, List.length_append, hlA, hZ1, hZ2]; omega
  generalize (flatV (es.take i)).toArray ++ ZZ ++ SP = R at *
  have hel : (enV e).length = 5 := rfl
  have HIC := ins_cells2 (flatV (es.take i)) (flatV (es.drop i)) ZZ.toList (enV e) SP.toList (by rw [hZ1, hlB, hel]; omega)
  simp only at HIC
  rw [← hRl, hlA, hlB, hel] at HIC
  have hvl : vb < w.heap.size := (Array.getElem?_eq_some_iff.1 hb).1
  have hgl : g < w.heap.size := (Array.getElem?_eq_some_iff.1 hg).1
  have hg1 : (w.drew.alloc (.cells R 109)).heap[w.heap.size]? = some (.cells R 109 (0, 0)) := heap_alloc_new w.drew _
  have hK1 : Kept (fun _ => False) w (w.drew.alloc (.cells R 109)) := Kept.trans (b := w.drew) (Kept.drew _ w) (Kept.alloc _ _ _) (fun _ h => .inl h)
  generalize w.drew.alloc (.cells R 109) = W1 at *
  have hb1 : W1.heap[vb]? = _ := (hK1.block vb hvl id).trans hb
  have hcp1 := run_cpE W1 w.heap.size (i * 5) (cap + 1 - i) (G - i) ⟨vb, 0, none⟩ 1 1 R 109 (enV e) hg1 (by rw [show Nat.min 1 (cap + 1 - i) = 1 from by simp only [Nat.min_def]; split <;> omega]; rfl)
    (fun j v hj => by
      rw [Addr.add_lit, Nat.zero_add, cell_of_row W1 vb j _ _ _ hb1]
      simpa using hj) (by rw [hRs, hel]; omega) (enV_one _)
  rw [hel] at hcp1
  generalize hR1 : R.toList.take (i * 5) ++ enV e ++ R.toList.drop (i * 5 + 5) = R1 at *
  have hR1l : R1.length = G * 5 := by rw [← hR1]; simp only [List.length_append, List.length_take, List.length_drop, Array.length_toList, hel]; omega
  have hg2 : (W1.setRow w.heap.size R1.toArray).heap[w.heap.size]? = some (.cells R1.toArray 109 (0, 0)) := setRow_heap W1 w.heap.size _ _ 109 _ hg1
  have hK2 : Kept (fun j => j = w.heap.size) W1 (W1.setRow w.heap.size R1.toArray) := ⟨rfl, rfl, rfl, by simp, fun k _ hk => setRow_other W1 w.heap.size k _ (fun e => hk (by rw [e]))⟩
  generalize W1.setRow w.heap.size R1.toArray = W2 at *
  have hgW : W2.heap[g]? = _ := (hK2.block g (by have := hK1.size; omega) (by omega)).trans ((hK1.block g hgl id).trans hg)
  have hcp2 := run_cpE W2.drew w.heap.size (i * 5 + 5) (cap - i) (G - (i + 1)) ⟨g, i * 5, none⟩ (cap - i) (cap - i) R1.toArray 109 (flatV (es.drop i)) hg2 (by rw [hlB]; rw [show Nat.min (cap - i) (cap - i) = cap - i from by simp])
    (fun j v hj => by
      rw [Addr.add_lit]
      show W2.cell? ⟨g, i * 5 + j, none⟩ = some v
      rw [cell_of_row W2 g (i * 5 + j) _ _ _ hgW, ← Array.getElem?_toList, hcl, List.getElem?_append_right (by omega), hlA, Nat.add_sub_cancel_left]
      exact hj) (by rw [List.size_toArray, hR1l, hlB]; omega) (flatV_one _)
  rw [List.toList_toArray, hlB, HIC] at hcp2
  have hg3 := setRow_heap W2.drew w.heap.size _ ((flatV (es.take i) ++ enV e ++ flatV (es.drop i) ++ SP.toList).toArray) 109 _ hg2
  have hK3 : Kept (fun j => j = w.heap.size) W2 (W2.drew.setRow w.heap.size ((flatV (es.take i) ++ enV e ++ flatV (es.drop i) ++ SP.toList).toArray)) := ⟨rfl, rfl, rfl, by simp, fun k _ hk => setRow_other W2.drew w.heap.size k _ (fun e => hk (by rw [e]))⟩
  generalize W2.drew.setRow w.heap.size _ = W3 at *
  have HF : Hid (InsRow w W3 (some ⟨g, 0, none⟩) cap cap (es.take i ++ e :: es.drop i) w.heap.size G) := by
    have hll : (es.take i ++ e :: es.drop i).length = cap + 1 := by simp only [List.length_append, List.length_take, List.length_cons, List.length_drop]; omega
    have hfl : flatV (es.take i ++ e :: es.drop i) = flatV (es.take i) ++ enV e ++ flatV (es.drop i) := by rw [flatV_append, flatV_cons, List.append_assoc]
    refine ⟨⟨by rw [flatV_len], .inr ⟨w.heap.size, G, _, rfl, Nat.zero_le _, hg3, by omega, hG2, ?_, ?_⟩⟩, .inr (Nat.le_refl _), (((hK1.mono (fun _ hf => hf.elim)).trans hK2 (fun j hj => .inr (by omega))).trans hK3 (fun j hj => .inr (by omega)))⟩
    · simp only [List.size_toArray, List.length_append, hlA, hlB, hel, hZ2]; omega
    · rw [List.toList_toArray, hfl, hll, List.take_append_of_le_length (by simp only [List.length_append, hlA, hlB, hel]; omega), List.take_of_length_le (by simp only [List.length_append, hlA, hlB, hel]; omega)]
  unfold maxLen at hG2
  clear hcl HIC hg2 hK2 hg1 hK1 hR1 hR1l hlA hlB hsz hg hb hb1 hgw hRl hRs hg3 hK3 hgW hZ1 hZ2 hn
  have hiI : (i : Int) < (cap : Int) := by omega
  have hne : ¬ (i : Int) = (cap : Int) := by omega
  have hcI : (cap : Int) < (cap : Int) + 1 := by omega
  have hkk : ((cap + 1 - i : Nat) : Int) = (cap : Int) + 1 - (i : Int) := by omega
  rw [hkk] at hrz
  have hc2 : ¬ cap = i := by omega
  have hc3 : ¬ G = i + 1 := by omega
  have hc4 : ¬ G = i := by omega
  rw [show i * 5 + 5 = (i + 1) * 5 from by omega] at hcp2
  clear hkk
  go_enter Tryz.func177, Tryz.ntmps177
  go_wp2
  go_region
  go_wp2
  go_ret
  exact ⟨w.heap.size, G, rfl, HF.out⟩
end
/-- slices.Insert of one entry, on a row of one's own. -/
theorem slInsert_any (w : World) (a : Option Addr) (n cap i : Nat) (es : List En) (hn : es.length = n) (h : w.ownsRow 0 109 5 (.slice a n cap) n (flatV es)) (vb : Nat) (hvb : (Value.slice a n cap).ownBlock ≠ some vb) (e : En) (hb : w.heap[vb]? = some (.cells (enV e).toArray 109 (0, 0))) (hl : n ≤ 1000) (hi : i ≤ n) :
    Calls Tryz.prog 177 #[.slice a n cap, .int .i64 i, .slice (some ⟨vb, 0, none⟩) 1 1] w fun r w' => ∃ g' cp, r = .returned (.slice (some ⟨g', 0, none⟩) (n + 1) cp) ∧ InsRow w w' a n cap (es.take i ++ e :: es.drop i) g' cp := by
  have hcc : n ≤ cap ∧ cap ≤ 9223372036854775807 := by
    rcases h.2 with ⟨h1, h2⟩ | ⟨g', cap', cur, hv, _, hg, h1, h2, hs, ht⟩
    · cases h1; omega
    · cases hv; unfold maxLen at h2; omega
  by_cases hin : i = n
  · subst hin
    have := slInsert_end w a i cap es hn h vb e hb hl hcc.1 hcc.2
    rw [List.take_of_length_le (by omega), List.drop_of_length_le (by omega)]
    exact this
  · have hlt : i < n := by omega
    rcases h.2 with ⟨h1, h2⟩ | ⟨g', cap', cur, hv, _⟩
    · omega
    · cases hv
      have hvb' : vb ≠ g' := fun e0 => hvb (by rw [e0]; rfl)
      by_cases hroom : n + 1 ≤ cap
      · exact slInsert_room w g' n cap i es hn h vb hvb' e hb hl hlt hroom hcc.2
      · exact slInsert_grow w g' n cap i es hn h vb hvb' e hb hl hlt (by omega) hcc.1
end Go.Proofs.YtcoengihaobddaaGreatDoor.prog
namespace Go.Proofs.YtcoengihaobddaaGreatDoor.prog
open Go.ChangeShapes Go.WideShapes Go.ChangeAt Go.RowKit Go.Proofs.YtcoengihaobddaaGreatDoor.disk Go.Proofs.YtcoengihaobddaaGreatDoor.ref
open Go.Proofs.YtcoengihaobddaaGreatDoor.keys (ret_int ret_bool beq_no beq_yes)
set_option linter.unusedVariables false
set_option maxRecDepth 8000

/-- The first block that is free. -/
def takeI (N : Nat) (m : List UInt8) : Option Nat := (List.range (N - 21)).find? fun i => !takenB m i
theorem takeI_some {N : Nat} {m : List UInt8} {i : Nat} (h1 : i + 21 < N) (h2 : takenB m i = false) (h3 : ∀ j, j < i → takenB m j = true) : takeI N m = some i := by
  unfold takeI
  rw [List.find?_range_eq_some]
  refine ⟨by simpa using h2, by simp; omega, fun j hj => by simpa using h3 j hj⟩
theorem takeI_none {N : Nat} {m : List UInt8} (h : ∀ i, i + 21 < N → takenB m i = true) : takeI N m = none := by
  unfold takeI
  rw [List.find?_eq_none]
  intro i hi
  have := h i (by simp at hi; omega)
  simpa using this
theorem takeI_is {N : Nat} {m : List UInt8} {i : Nat} (h : takeI N m = some i) : i + 21 < N ∧ takenB m i = false ∧ ∀ j, j < i → takenB m j = true := by
  unfold takeI at h
  rw [List.find?_range_eq_some] at h
  obtain ⟨h1, h2, h3⟩ := h
  refine ⟨by simp at h2; omega, by simpa using h1, fun j hj => by simpa using h3 j hj⟩
/-- A change behind Take: the block, the change, the map. -/
def Ck.take (C : Ck) (N : Nat) (m : List UInt8) : Nat × Ck × List UInt8 := match takeI N m with
  | some i => (i + 21, C.put 2 (pgV (mapPg (setB m i))), setB m i)
  | none => (0, { C with full := true }, m)
theorem take_fun (w : World) (bc bd : Nat) (S T : Nat → Prop) (D : Dk) (C : Ck) (h : Cw w bc bd S T D C) (m : List UInt8) (hm : IsMap (C.look D 2) m) (hr0 : 0 ≤ D.reads) (hr1 : D.reads ≤ 4611686018427387904) (hfew : C.ws.length < 1000) :
    Calls Tryz.prog 134 #[.pointer (some ⟨bc, 0, none⟩)] w fun e w' => e = .returned (.int .i64 ((C.take D.bs.length m).1 : Nat)) ∧ (∃ (n : Int) (T' : Nat → Prop), 0 ≤ n ∧ n ≤ 1 ∧ Cw w' bc bd S T' { D with reads := D.reads + n } (C.take D.bs.length m).2.1 ∧ ∀ k, T' k → T k ∨ w.heap.size ≤ k) ∧ Kept (fun k => k = bd ∨ T k) w w' := by
  refine (take_any w bc bd S T D C h m hm hr0 hr1 hfew).mono ?_
  rintro e w' ⟨a, C', rfl, ht⟩
  have hd := ht.is
  refine ⟨?_, ?_, ht.kept⟩
  · rcases hd with ⟨i, rfl, h1, h2, h3, rfl⟩ | ⟨rfl, h1, rfl⟩
    · unfold Ck.take; rw [takeI_some h1 h2 h3]; rfl
    · unfold Ck.take; rw [takeI_none h1]; rfl
  · have e1 : (C.take D.bs.length m).2.1 = C' := by
      rcases hd with ⟨i, rfl, h1, h2, h3, rfl⟩ | ⟨rfl, h1, rfl⟩
      · unfold Ck.take; rw [takeI_some h1 h2 h3]
      · unfold Ck.take; rw [takeI_none h1]
    rw [e1]
    exact ht.at_
theorem ixOf_map (ws : List (Nat × List Value)) (i : Int) : ixOf ws i = (ws.map Prod.fst).findIdx? (fun n : Nat => decide ((n : Int) = i)) := by
  unfold ixOf
  rw [List.findIdx?_map]
  rfl
/-- A block behind a write of a change. -/
theorem look_put (C : Ck) (D : Dk) (i : Nat) (b : List Value) (j : Int) : (C.put i b).look D j = if j = i then b else C.look D j := by
  cases hx : ixOf C.ws i with
  | none =>
    rw [ck_put_miss b hx]
    unfold Ck.look
    have h1 : ixOf (C.ws ++ [(i, b)]) j = (ixOf C.ws j).or (if (i : Int) = j then some C.ws.length else none) := by
      unfold ixOf
      rw [List.findIdx?_append]
      congr 1
      by_cases hij : (i : Int) = j <;> simp [hij]
    simp only [h1]
    by_cases hj : j = i
    · subst hj
      rw [hx, if_pos rfl, if_pos rfl]
      simp
    · rw [if_neg hj, if_neg (fun h => hj h.symm), Option.or_none]
      cases hy : ixOf C.ws j with
      | none => rfl
      | some k =>
        obtain ⟨hk, _⟩ := look_hit (D := D) hy
        simp only
        rw [List.getD_eq_getElem?_getD, List.getElem?_append_left hk, ← List.getD_eq_getElem?_getD]
  | some k =>
    obtain ⟨hk, _, hki⟩ := look_hit (D := D) hx
    obtain ⟨_, e⟩ := ck_put_hit b hx
    rw [e]
    unfold Ck.look
    have h1 : ixOf (C.ws.set k (C.ws[k].1, b)) j = ixOf C.ws j := by
      rw [ixOf_map, ixOf_map, List.map_set]
      congr 1
      have : C.ws[k].1 = (C.ws.map Prod.fst)[k]'(by simpa using hk) := by simp
      rw [this, List.set_getElem_self]
    simp only [h1]
    by_cases hj : j = i
    · subst hj
      rw [hx, if_pos rfl]
      simp [hk]
    · rw [if_neg hj]
      cases hy : ixOf C.ws j with
      | none => rfl
      | some k' =>
        obtain ⟨hk', _, hkj⟩ := look_hit (D := D) hy
        have hne : k ≠ k' := fun e0 => hj (by subst e0; omega)
        simp only
        rw [List.getD_eq_getElem?_getD, List.getElem?_set_ne hne, ← List.getD_eq_getElem?_getD]
theorem look_put_ne (C : Ck) (D : Dk) (i : Nat) (b : List Value) (j : Int) (h : j ≠ i) : (C.put i b).look D j = C.look D j := by rw [look_put, if_neg h]
theorem look_put_eq (C : Ck) (D : Dk) (i : Nat) (b : List Value) : (C.put i b).look D i = b := by rw [look_put, if_pos rfl]
theorem IsMap.put {C : Ck} {D : Dk} {m : List UInt8} (h : IsMap (C.look D 2) m) (i : Nat) (b : List Value) (hi : i ≠ 2) : IsMap ((C.put i b).look D 2) m := by rw [look_put_ne _ _ _ _ _ (by omega)]; exact h
theorem IsMap.take {C : Ck} {D : Dk} {m : List UInt8} (h : IsMap (C.look D 2) m) (N : Nat) : IsMap ((C.take N m).2.1.look D 2) (C.take N m).2.2 := by
  unfold Ck.take
  split
  · exact ⟨by rw [setB_len]; exact h.len, .inl (look_put_eq C D 2 _)⟩
  · exact h
theorem take_ge (C : Ck) (N : Nat) (m : List UInt8) : (C.take N m).1 = 0 ∨ (21 ≤ (C.take N m).1 ∧ (C.take N m).1 < N) := by
  unfold Ck.take
  split
  · next i h => right; have := (takeI_is h).1; simp only; omega
  · exact .inl rfl
theorem take_len (C : Ck) (N : Nat) (m : List UInt8) : (C.take N m).2.1.ws.length ≤ C.ws.length + 1 := by
  unfold Ck.take
  split
  · exact ck_put_len _ _ _
  · simp
theorem look_reads (C : Ck) (D : Dk) (n : Int) (j : Int) : C.look { D with reads := n } j = C.look D j := by
  unfold Ck.look
  split <;> rfl
end Go.Proofs.YtcoengihaobddaaGreatDoor.prog
namespace Go.Proofs.YtcoengihaobddaaGreatDoor.prog
open Go.ChangeShapes Go.WideShapes Go.ChangeAt Go.RowKit Go.Proofs.YtcoengihaobddaaGreatDoor.disk Go.Proofs.YtcoengihaobddaaGreatDoor.ref
open Go.Proofs.YtcoengihaobddaaGreatDoor.keys (ret_int ret_bool beq_no beq_yes)
set_option linter.unusedVariables false
set_option maxRecDepth 8000

/-- Five cells set, one behind the other. -/
theorem set5 (w : World) (b : Nat) (t : TypeId) (a0 a1 a2 a3 a4 v0 v1 v2 v3 v4 : Value) (h : w.heap[b]? = some (.cells #[a0, a1, a2, a3, a4] t (0, 0))) :
    (((((w.setCell ⟨b, 0, none⟩ v0).setCell ⟨b, 1, none⟩ v1).setCell ⟨b, 2, none⟩ v2).setCell ⟨b, 3, none⟩ v3).setCell ⟨b, 4, none⟩ v4).heap[b]? = some (.cells #[v0, v1, v2, v3, v4] t (0, 0)) ∧ Kept (fun j => j = b) w (((((w.setCell ⟨b, 0, none⟩ v0).setCell ⟨b, 1, none⟩ v1).setCell ⟨b, 2, none⟩ v2).setCell ⟨b, 3, none⟩ v3).setCell ⟨b, 4, none⟩ v4) := by
  have h0 := heap_setCell_same w b 0 _ _ v0 h
  have h1 := heap_setCell_same _ b 1 _ _ v1 h0
  have h2 := heap_setCell_same _ b 2 _ _ v2 h1
  have h3 := heap_setCell_same _ b 3 _ _ v3 h2
  have h4 := heap_setCell_same _ b 4 _ _ v4 h3
  refine ⟨h4, ?_⟩
  have k : ∀ (x : World) (i : Nat) (v : Value), Kept (fun j => j = b) x (x.setCell ⟨b, i, none⟩ v) := fun x i v => Kept.setCell (S := fun j => j = b) x ⟨b, i, none⟩ v rfl
  exact ((((k _ 0 v0).trans (k _ 1 v1) (fun _ h => .inl h)).trans (k _ 2 v2) (fun _ h => .inl h)).trans (k _ 3 v3) (fun _ h => .inl h)).trans (k _ 4 v4) (fun _ h => .inl h)
/-- A change behind a split: the new block, the change, the map. -/
def Ck.split (C : Ck) (N : Nat) (m : List UInt8) (at_ k : Nat) (es : List En) : Nat × Ck × List UInt8 :=
  let t := C.take N m
  (t.1, (t.2.1.put at_ (pgV (nodePg k (es.take (es.length / 2))))).put t.1 (pgV (nodePg k (es.drop (es.length / 2)))), t.2.2)
set_option maxHeartbeats 2000000 in
theorem split_tk (w : World) (bc bd : Nat) (S T : Nat → Prop) (D : Dk) (C : Ck) (h : Cw w bc bd S T D C) (m : List UInt8) (hm : IsMap (C.look D 2) m) (hr0 : 0 ≤ D.reads) (hr1 : D.reads ≤ 4611686018427387904) (P : Nat → Prop) (hPT : ∀ j, P j → ¬ T j) (hPd : ∀ j, P j → j ≠ bd) (a : Option Addr) (cap : Nat) (k : Nat) (hk : k = 4 ∨ k = 5) (es : List En) (hr : EnRow w P a es) (hes : ∀ e ∈ es, e.Ok) (hlen2 : es.length / 2 < es.length) (hlen : es.length ≤ 12) (hcap : es.length ≤ cap) (hcap2 : cap ≤ 9223372036854775807) (at_ : Nat) (hfew : C.ws.length < 800) (ta : Nat) (tC : Ck) (tm : List UInt8) (htk : C.take D.bs.length m = (ta, tC, tm)) (em : En) (hem : es[es.length / 2] = em) :
    Calls Tryz.prog 178 #[.agg #[.int .u8 (k : Int), .slice a es.length cap], .pointer (some ⟨bc, 0, none⟩), .int .i64 at_] w fun r w' => r = .returned (.agg #[.string em.pl.key, .int .i64 em.pl.num, .bool false, .int .i64 0, .int .i64 (ta : Int)]) ∧ (∃ (n : Int) (T' : Nat → Prop), 0 ≤ n ∧ n ≤ 1 ∧ Cw w' bc bd S T' { D with reads := D.reads + n } ((tC.put at_ (pgV (nodePg k (es.take (es.length / 2))))).put ta (pgV (nodePg k (es.drop (es.length / 2))))) ∧ ∀ j, T' j → T j ∨ w.heap.size ≤ j) ∧ Kept (fun j => j = bd ∨ T j) w w' := by
  have HH : Hid _ := h
  have HR : Hid _ := hr
  have HM : Hid _ := hm
  have HES : Hid (∀ e ∈ es, e.Ok) := hes
  have HPT : Hid (∀ j, P j → ¬ T j) := hPT
  have HPd : Hid (∀ j, P j → j ≠ bd) := hPd
  clear h hr hm hes hPT hPd
  have HK0 : Hid (Kept (fun _ => False) w ((w.alloc (.cells #[.int .u8 (k : Int), .slice a es.length cap] 209)).alloc (.cells #[.string ⟨#[]⟩, .int .i64 0, .bool false, .int .i64 0, .int .i64 0] 109))) := Kept.alloc2 _ _ _
  go_enter Tryz.func178, Tryz.ntmps178
  go_wp2_with fail
  have HBr : Hid (((w.alloc (.cells #[.int .u8 (k : Int), .slice a es.length cap] 209)).alloc (.cells #[.string ⟨#[]⟩, .int .i64 0, .bool false, .int .i64 0, .int .i64 0] 109)).heap[w.heap.size + 1]? = some (.cells #[.string ⟨#[]⟩, .int .i64 0, .bool false, .int .i64 0, .int .i64 0] 109 (0, 0))) := heap_alloc2_new w _ _
  have HBn : Hid (((w.alloc (.cells #[.int .u8 (k : Int), .slice a es.length cap] 209)).alloc (.cells #[.string ⟨#[]⟩, .int .i64 0, .bool false, .int .i64 0, .int .i64 0] 109)).heap[w.heap.size]? = some (.cells #[.int .u8 (k : Int), .slice a es.length cap] 209 (0, 0))) := ((Kept.alloc (fun _ => False) _ _).block w.heap.size (by simp) id).trans (heap_alloc_new w _)
  have hsW : ((w.alloc (.cells #[.int .u8 (k : Int), .slice a es.length cap] 209)).alloc (.cells #[.string ⟨#[]⟩, .int .i64 0, .bool false, .int .i64 0, .int .i64 0] 109)).heap.size = w.heap.size + 2 := by simp
  generalize ((w.alloc (.cells #[.int .u8 (k : Int), .slice a es.length cap] 209)).alloc (.cells #[.string ⟨#[]⟩, .int .i64 0, .bool false, .int .i64 0, .int .i64 0] 109)) = W at *
  have hTl := HH.out.chg.lt
  have hSl := HH.out.disk.lt
  have hbd : bd < w.heap.size := hSl bd HH.out.disk.bdS
  have HTL : Hid (∀ j, T j → j < w.heap.size) := hTl
  have HSL : Hid (∀ j, S j → j < w.heap.size) := hSl
  clear hTl hSl
  refine (take_fun W bc bd S T D C (HH.out.kept0 HK0.out) m HM.out hr0 hr1 (by omega)).mono ?_
  rintro r w1 ⟨rfl, ⟨n1, T1, hn0, hn1, hc1, hT1⟩, hk1⟩
  have HC1 : Hid _ := hc1
  have HT1 : Hid _ := hT1
  have HK1 : Hid (Kept (fun j => j = bd ∨ T j) W w1) := hk1
  have hnT : ∀ j, w.heap.size ≤ j → ¬ (j = bd ∨ T j) := fun j hj hc => hc.elim (fun h => by omega) (fun h => by have := HTL.out j h; omega)
  have HNT : Hid (∀ j, w.heap.size ≤ j → ¬ (j = bd ∨ T j)) := hnT
  have HBr1 : Hid (w1.heap[w.heap.size + 1]? = _) := (hk1.block _ (by omega) (hnT _ (by omega))).trans HBr.out
  have HBn1 : Hid (w1.heap[w.heap.size]? = _) := (hk1.block _ (by omega) (hnT _ (by omega))).trans HBn.out
  have hc0 : w1.cell? ⟨w.heap.size, 0, none⟩ = some (.int .u8 (k : Int)) := by rw [cell_of_row w1 _ 0 _ _ _ HBn1.out]; rfl
  have hc1' : w1.cell? ⟨w.heap.size, 1, none⟩ = some (.slice a es.length cap) := by rw [cell_of_row w1 _ 1 _ _ _ HBn1.out]; rfl
  have HR1 : Hid (EnRow w1 (fun j => P j ∧ j < w.heap.size) a es) := (HR.out.below.kept HK0.out (fun _ _ hf => hf)).kept hk1 (fun j hj hc => hc.elim (HPd.out j hj.1) (HPT.out j hj.1))
  have HPT1 : Hid (∀ j, (P j ∧ j < w.heap.size) → ¬ T1 j) := fun j hj hc => by
    rcases hT1 j hc with h1 | h1
    · exact HPT.out j hj.1 h1
    · omega
  have hl1 : tC.ws.length < 900 := by have := take_len C D.bs.length m; rw [htk] at this; simp only at this; omega
  rw [htk] at HC1 ⊢
  dsimp only at HC1 ⊢
  have hsz1 := hk1.size
  clear hc1 hT1 hk1 hnT htk
  go_wp2_with fail
  refine (halve_any w1 bc bd S T1 _ tC HC1.out (fun j => P j ∧ j < w.heap.size) HPT1.out a cap k hk es HR1.out HES.out (es.length / 2) rfl hlen2 hlen hcap hcap2 at_ ta hl1).mono ?_
  rintro r w2 ⟨rfl, ⟨T2, hc2, hT2⟩, hk2⟩
  rw [hem]
  have HC2 : Hid _ := hc2
  have HT2 : Hid _ := hT2
  have HK2 : Hid (Kept T1 w1 w2) := hk2
  have HBr2 : Hid (w2.heap[w.heap.size + 1]? = _) := (hk2.block _ (by omega) (fun hc => by rcases HT1.out _ hc with h1 | h1; exact HNT.out _ (by omega) (.inr h1); omega)).trans HBr1.out
  have q0 : w2.cell? ⟨w.heap.size + 1, 0, none⟩ = some (.string ⟨#[]⟩) := by rw [cell_of_row w2 _ 0 _ _ _ HBr2.out]; rfl
  have q1 : w2.cell? ⟨w.heap.size + 1, 1, none⟩ = some (.int .i64 0) := by rw [cell_of_row w2 _ 1 _ _ _ HBr2.out]; rfl
  have q2 : w2.cell? ⟨w.heap.size + 1, 2, none⟩ = some (.bool false) := by rw [cell_of_row w2 _ 2 _ _ _ HBr2.out]; rfl
  have q3 : w2.cell? ⟨w.heap.size + 1, 3, none⟩ = some (.int .i64 0) := by rw [cell_of_row w2 _ 3 _ _ _ HBr2.out]; rfl
  have q4 : w2.cell? ⟨w.heap.size + 1, 4, none⟩ = some (.int .i64 0) := by rw [cell_of_row w2 _ 4 _ _ _ HBr2.out]; rfl
  have f0 := frozen_of_row w2 (w.heap.size + 1) 0 _ _ HBr2.out
  have f1 := frozen_of_row w2 (w.heap.size + 1) 1 _ _ HBr2.out
  have f2 := frozen_of_row w2 (w.heap.size + 1) 2 _ _ HBr2.out
  have f3 := frozen_of_row w2 (w.heap.size + 1) 3 _ _ HBr2.out
  have f4 := frozen_of_row w2 (w.heap.size + 1) 4 _ _ HBr2.out
  clear hc2 hT2 hk2
  go_wp2
  obtain ⟨hh, kS⟩ := set5 w2 (w.heap.size + 1) 109 _ _ _ _ _ (.string em.pl.key) (.int .i64 em.pl.num) (.bool false) (.int .i64 0) (.int .i64 (ta : Int)) HBr2.out
  have hT2' : ∀ j, T2 j → T j ∨ W.heap.size ≤ j := fun j hj => by
    rcases HT2.out j hj with h1 | h1
    · exact HT1.out j h1
    · right; omega
  refine bodyPost_ret (v := .agg #[.string em.pl.key, .int .i64 em.pl.num, .bool false, .int .i64 0, .int .i64 (ta : Int)]) (results_cell_row Tryz.results178 _ _ (w.heap.size + 1) 109 _ (0, 0) _ rfl hh Tryz.underlying109 rfl (by kernel_rfl)) rfl ⟨rfl, ⟨n1, T2, hn0, hn1, HC2.out.kept kS (fun j hj e0 => by have := HSL.out j hj; omega) (fun j hj e0 => ?_), fun j hj => (hT2' j hj).imp id (fun h => by omega)⟩, ?_⟩
  · subst e0
    rcases hT2' _ hj with h1 | h1
    · exact HNT.out _ (by omega) (.inr h1)
    · omega
  · have k1 : Kept (fun j => j = bd ∨ T j) w w1 := (HK0.out.mono (fun _ hf => hf.elim)).trans HK1.out (fun _ h => .inl h)
    have k2 : Kept (fun j => j = bd ∨ T j) w w2 := k1.trans HK2.out (fun j hj => by
      rcases HT1.out j hj with h1 | h1
      · exact .inl (.inr h1)
      · exact .inr (by omega))
    exact k2.trans kS (fun j hj => .inr (by omega))
theorem split_any (w : World) (bc bd : Nat) (S T : Nat → Prop) (D : Dk) (C : Ck) (h : Cw w bc bd S T D C) (m : List UInt8) (hm : IsMap (C.look D 2) m) (hr0 : 0 ≤ D.reads) (hr1 : D.reads ≤ 4611686018427387904) (P : Nat → Prop) (hPT : ∀ j, P j → ¬ T j) (hPd : ∀ j, P j → j ≠ bd) (a : Option Addr) (cap : Nat) (k : Nat) (hk : k = 4 ∨ k = 5) (es : List En) (hr : EnRow w P a es) (hes : ∀ e ∈ es, e.Ok) (hlen2 : es.length / 2 < es.length) (hlen : es.length ≤ 12) (hcap : es.length ≤ cap) (hcap2 : cap ≤ 9223372036854775807) (at_ : Nat) (hfew : C.ws.length < 800) :
    Calls Tryz.prog 178 #[.agg #[.int .u8 (k : Int), .slice a es.length cap], .pointer (some ⟨bc, 0, none⟩), .int .i64 at_] w fun r w' => r = .returned (.agg #[.string es[es.length / 2].pl.key, .int .i64 es[es.length / 2].pl.num, .bool false, .int .i64 0, .int .i64 ((C.split D.bs.length m at_ k es).1 : Nat)]) ∧ (∃ (n : Int) (T' : Nat → Prop), 0 ≤ n ∧ n ≤ 1 ∧ Cw w' bc bd S T' { D with reads := D.reads + n } (C.split D.bs.length m at_ k es).2.1 ∧ ∀ j, T' j → T j ∨ w.heap.size ≤ j) ∧ Kept (fun j => j = bd ∨ T j) w w' :=
  split_tk w bc bd S T D C h m hm hr0 hr1 P hPT hPd a cap k hk es hr hes hlen2 hlen hcap hcap2 at_ hfew _ _ _ rfl _ rfl
end Go.Proofs.YtcoengihaobddaaGreatDoor.prog

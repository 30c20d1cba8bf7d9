/- Part 29 of 39 of a proof: BWalk1, Chunk1, Coll1 -/
import Derived.Test.YtcoengihaobddaaGreatDoorJp21
import Derived.Test.YtcoengihaobddaaGreatDoorJp28
import Derived.Test.YtcoengihaobddaaGreatDoorJp01
import Derived.Test.YtcoengihaobddaaGreatDoorJp16
import Derived.Deep.RegionHeld3
import Derived.Shelf.RegionOpen
import Derived.Laws.AppendOwn
import Derived.Deep.AppendLies
namespace Go.Proofs.YtcoengihaobddaaGreatDoor.prog
open Go.ChangeShapes Go.WideShapes Go.ChangeAt Go.RowKit Go.Proofs.YtcoengihaobddaaGreatDoor.disk Go.Proofs.YtcoengihaobddaaGreatDoor.ref
open Go.Proofs.YtcoengihaobddaaGreatDoor.keys (ret_int ret_bool beq_no beq_yes)
set_option linter.unusedVariables false
set_option maxRecDepth 8000
attribute [local go_sem] Oper.semAt_some

/-- The page of a piece of a body. -/
def bodyPg (next : Nat) (l : List UInt8) : Pg := ⟨6, next, l.map fun b => [b]⟩
theorem bodyPg_ok {next : Nat} {l : List UInt8} (h : next < 65536) (hl : l.length ≤ 124) : (bodyPg next l).Ok where
  kind := by simp [bodyPg]
  link := h
  wide := fun i hi => by obtain ⟨b, _, rfl⟩ := List.mem_map.1 hi; rfl
  fits := by simp [bodyPg, width]; omega
  few := by simp [bodyPg]; omega
/-- A piece: its block, its bytes. -/
structure Piece where
  at_ : Nat
  l : List UInt8
structure Piece.Ok (p : Piece) : Prop where
  at_ : p.at_ < 65536
  pos : p.at_ ≠ 0
  len : p.l.length ≤ 124
/-- Where a chain begins. -/
def headP : List Piece → Nat
  | [] => 0
  | p :: _ => p.at_
/-- A chain of pieces lies in the blocks rd. -/
def Chain (rd : Nat → List Value) : List Piece → Prop
  | [] => True
  | p :: r => p.Ok ∧ rd p.at_ = pgV (bodyPg (headP r) p.l) ∧ Chain rd r
theorem Chain.ok {rd : Nat → List Value} : ∀ {ps : List Piece}, Chain rd ps → ∀ p ∈ ps, p.Ok
  | p :: r, h, q, hq => by
    rcases List.mem_cons.1 hq with rfl | hq
    · exact h.1
    · exact Chain.ok h.2.2 q hq
theorem Chain.congr {rd rd' : Nat → List Value} : ∀ {ps : List Piece}, Chain rd ps → (∀ p ∈ ps, rd' p.at_ = rd p.at_) → Chain rd' ps
  | [], _, _ => trivial
  | p :: r, h, e => ⟨h.1, (e p (List.mem_cons_self ..)).trans h.2.1, Chain.congr h.2.2 (fun q hq => e q (List.mem_cons_of_mem _ hq))⟩
theorem headP_lt {rd : Nat → List Value} {ps : List Piece} (h : Chain rd ps) : headP ps < 65536 := by
  cases ps with
  | nil => show 0 < 65536; omega
  | cons p r => exact h.1.at_
/-- A piece as it is told: with the block of memory where its page lies. -/
structure BP where
  p : Piece
  g : Nat
def encB (x : BP) : Array Value := #[.int .i64 (x.p.at_ : Int), .slice (some ⟨x.g, 4, none⟩) x.p.l.length 124]
/-- When a piece is told. -/
structure HereB (B : Nat) (ps : List Piece) (pre : List BP) (x : BP) (A : World) : Prop where
  pre : (pre.map BP.p ++ [x.p]) <+: ps
  pg : ∃ next, PgAt A x.g (bodyPg next x.p.l)
  ge : B ≤ x.g
theorem Chain.drop {rd : Nat → List Value} : ∀ {ps : List Piece}, Chain rd ps → ∀ k, Chain rd (ps.drop k)
  | _, h, 0 => h
  | [], _, _ + 1 => trivial
  | _ :: _, h, k + 1 => Chain.drop h.2.2 k
theorem headP_drop {ps : List Piece} {k : Nat} (h : k < ps.length) : headP (ps.drop k) = ps[k].at_ := by rw [List.drop_eq_getElem_cons h]; rfl

theorem ix_head {ps : List Piece} (hnd : (ps.map Piece.at_).Nodup) (hok : ∀ p ∈ ps, p.Ok) {k : Nat} (hk : k ≤ ps.length) : (ps.map Piece.at_).findIdx (fun n : Nat => decide ((n : Int) = (headP (ps.drop k) : Nat))) = k := by
  by_cases hlt : k < ps.length
  · rw [headP_drop hlt]
    rw [List.findIdx_eq (by simpa using hlt)]
    refine ⟨by simp, fun j hj => ?_⟩
    have hj' : j < (ps.map Piece.at_).length := by simp; omega
    have hk' : k < (ps.map Piece.at_).length := by simpa using hlt
    have := List.pairwise_iff_getElem.1 hnd j k hj' hk' hj
    simp at this ⊢
    omega
  · have : k = ps.length := by omega
    subst this
    rw [List.drop_length]
    have : (ps.map Piece.at_).findIdx (fun n : Nat => decide ((n : Int) = (headP [] : Nat))) = (ps.map Piece.at_).length := by
      rw [List.findIdx_eq_length]
      intro n hn
      obtain ⟨p, hp, rfl⟩ := List.mem_map.1 hn
      have := (hok p hp).pos
      show decide ((p.at_ : Int) = ((0 : Nat) : Int)) = false
      simp; exact this
    rw [this]; simp
set_option maxHeartbeats 4000000 in
/-- What ranging over a body's blocks gives: its pieces, one behind the other. -/
theorem seq_bwalk (W : World) (T : TypeId) (f : FuncId) (a : Addr) (hrd : IsRd T f a) (b1 b2 : Nat) (ps : List Piece) (rd : Nat → List Value) (hch : Chain rd ps) (hnd : (ps.map Piece.at_).Nodup) (Z : Nat → Prop) (Inv : Int → List BP → World → Prop) (r0 : Int)
    (hZ : ∀ k, Z k → k < W.heap.size) (h1 : W.heap[b1]? = some (.cells #[.int .i64 (headP ps : Int)] 3 (0, 0)))
    (hbox : ∀ r pre A, Inv r pre A → A.heap[b2]? = some (.cells #[.iface T (.pointer (some a))] 193 (0, 0)))
    (hkp : ∀ r pre A B, Inv r pre A → Kept (fun k => W.heap.size ≤ k) A B → Inv r pre B)
    (hread : ∀ k (hk : k < ps.length) r pre A, Inv r pre A → pre.map BP.p = ps.take k → r ≤ r0 + k → Calls Tryz.prog f #[.pointer (some a), .int .i64 (ps[k].at_ : Int)] A fun e A' => e = .returned (.agg (rd ps[k].at_).toArray) ∧ Kept Z A A' ∧ ∃ r', r ≤ r' ∧ r' ≤ r + 1 ∧ Inv r' pre A') :
    SeqW Tryz.prog 124 #[.pointer (some ⟨b1, 0, none⟩), .pointer (some ⟨b2, 0, none⟩)] encB Z Inv (fun r pre x A => HereB W.heap.size ps pre x A ∧ r ≤ r0 + pre.length + 1) (fun r xs => xs.map BP.p = ps ∧ r ≤ r0 + ps.length) (fun _ _ => True) r0 W := by
  intro l J Jx hJi hJs hJy hJ0
  have c1 : W.cell? ⟨b1, 0, none⟩ = some (.int .i64 (headP ps : Int)) := by rw [cell_of_row W _ 0 _ _ _ h1]; rfl
  have HJ0 : PLift (J r0 [] (fun _ => False) W) := ⟨hJ0⟩
  have HJI : Hid (∀ r pre Q A, J r pre Q A → Inv r pre A ∧ ∀ k, Q k → k < A.heap.size) := hJi
  have HJS : Hid (∀ r r' pre Q A B, J r pre Q A → r ≤ r' → Kept Z A B → Inv r' pre B → J r' pre Q B) := hJs
  have HJY : Hid (∀ m r pre x Q A, J r pre Q A → (HereB W.heap.size ps pre x A ∧ r ≤ r0 + pre.length + 1) → YieldAt Fence.wide m Tryz.prog l (encB x) A (Rounds J Jx W.heap.size r (pre ++ [x]) Q A)) := hJy
  have HBOX : Hid (∀ r pre A, Inv r pre A → A.heap[b2]? = some (.cells #[.iface T (.pointer (some a))] 193 (0, 0))) := hbox
  have HKP : Hid (∀ r pre A B, Inv r pre A → Kept (fun k => W.heap.size ≤ k) A B → Inv r pre B) := hkp
  have HRD : Hid (∀ k (hk : k < ps.length) r pre A, Inv r pre A → pre.map BP.p = ps.take k → r ≤ r0 + k → Calls Tryz.prog f #[.pointer (some a), .int .i64 (ps[k].at_ : Int)] A fun e A' => e = .returned (.agg (rd ps[k].at_).toArray) ∧ Kept Z A A' ∧ ∃ r', r ≤ r' ∧ r' ≤ r + 1 ∧ Inv r' pre A') := hread
  have HCH : Hid (Chain rd ps) := hch
  have HND : Hid ((ps.map Piece.at_).Nodup) := hnd
  have HZ : Hid (∀ k, Z k → k < W.heap.size) := hZ
  obtain ⟨Zb, hZb, hz⟩ : ∃ Zb : List Value, Zb = zeroB ∧ ∀ w, (zeroValue 154).run Tryz.prog w = .ok (.agg Zb.toArray) w := ⟨zeroB, rfl, zero_run Tryz.infoPage⟩
  have HZb : Hid (BlkOk Zb) := by rw [hZb]; exact zeroB_ok
  clear hZb
  have HI : Hid ((Tryz.prog.info? 154).map (·.size) = some 128) := size_of Tryz.infoPage
  have hmeth := hrd.meth
  have hent := hrd.ent
  clear hJi hJs hJy hJ0 hbox hkp hread hch hZ h1 hnd
  go_enter Tryz.func124, Tryz.ntmps124
  go_wp2_with fail
  go_loopw [4] (fun t wr => ∃ (k : Nat) (r : Int) (pre : List BP) (Q : Nat → Prop), k ≤ ps.length ∧ t = .int .i64 (headP (ps.drop k) : Nat) ∧ J r pre Q wr ∧ pre.map BP.p = ps.take k ∧ r ≤ r0 + k ∧ W.heap.size ≤ wr.heap.size ∧ ∀ j, Q j → W.heap.size ≤ j) (fun t wr => ps.length - (ps.map Piece.at_).findIdx (fun n : Nat => decide ((n : Int) = intOf t)))
  case atStart => exact ⟨0, r0, [], _, Nat.zero_le _, by simp, HJ0.down, rfl, by simp, Nat.le_refl _, fun _ h => h.elim⟩
  case round =>
    obtain ⟨k, r, pre, Q, hk, rfl, hj, hpre, hrk, hszr, hQ⟩ := hrel
    have HJ : PLift (J r pre Q wr) := ⟨hj⟩
    have HIr := (HJI.out r pre Q wr hj).1
    have HQl := (HJI.out r pre Q wr hj).2
    have HINV : PLift (Inv r pre wr) := ⟨HIr⟩
    have HPRE : Hid (pre.map BP.p = ps.take k) := hpre
    have HQ : Hid (∀ j, Q j → W.heap.size ≤ j ∧ j < wr.heap.size) := fun j h => ⟨hQ j h, HQl j h⟩
    have hplen : pre.length = k := by have := congrArg List.length hpre; simp at this; omega
    have HB2 : Hid (wr.heap[b2]? = some (.cells #[.iface T (.pointer (some a))] 193 (0, 0))) := HBOX.out _ _ _ HIr
    have c2 : wr.cell? ⟨b2, 0, none⟩ = some (.iface T (.pointer (some a))) := by rw [cell_of_row wr _ 0 _ _ _ HB2.out]; rfl
    have HIX : Hid ((ps.map Piece.at_).findIdx (fun n : Nat => decide ((n : Int) = (headP (ps.drop k) : Nat))) = k) := ix_head HND.out HCH.out.ok hk
    clear hj HIr HQl hpre hQ
    by_cases hlt : k < ps.length
    · have hpo := HCH.out.ok _ (List.getElem_mem hlt)
      have HCD : Hid (Chain rd (ps.drop k)) := HCH.out.drop k
      have hpg : rd ps[k].at_ = pgV (bodyPg (headP (ps.drop (k + 1))) ps[k].l) := by
        have := HCD.out
        rw [List.drop_eq_getElem_cons hlt] at this
        exact this.2.1
      have HRDk := HRD.out k hlt r pre wr HINV.down HPRE.out hrk
      have HC : Hid (Calls Tryz.prog f #[.pointer (some a), .int .i64 (ps[k].at_ : Int)] wr fun e A' => e = .returned (.agg (pgV (bodyPg (headP (ps.drop (k + 1))) ps[k].l)).toArray) ∧ Kept Z wr A' ∧ ∃ r', r ≤ r' ∧ r' ≤ r + 1 ∧ Inv r' pre A') := by rw [hpg] at HRDk; exact HRDk
      have HPX : Hid (ps.take (k + 1) = ps.take k ++ [ps[k]]) := by show _ = _; exact List.take_succ_eq_append_getElem hlt
      have hnx := headP_lt (HCH.out.drop (k + 1))
      have HPO : Hid (bodyPg (headP (ps.drop (k + 1))) ps[k].l).Ok := bodyPg_ok hnx hpo.len
      have hne := hpo.pos
      have hlen := hpo.len
      clear HRDk hpg hpo
      rw [headP_drop hlt]
      generalize hpk : ps[k] = pk at *
      generalize hnk : headP (ps.drop (k + 1)) = nk at *
      have hnz : ((pk.at_ : Int) != 0) = true := by simp; omega
      refine (wpIn_wide (n := 6)).1 ?_
      have HGV : Hid (∀ g, itemsV g (bodyPg nk pk.l).kind (bodyPg nk pk.l).items.length = .slice (some ⟨g, 4, none⟩) pk.l.length 124) := fun g => by simp [itemsV, bodyPg, width]
      gi_wp2_with (first
        | (refine ⟨trivial, (open_wide.calls HC.out).mono ?_⟩; rintro e w1 ⟨rfl, hk1, r1, hr1a, hr1b, hi1⟩; have HK1 : Hid (Kept Z wr w1) := hk1; have HI1 : PLift (Inv r1 pre w1) := ⟨hi1⟩; clear hk1 hi1)
        | (show wpListIn _ _ _ _ _ ({ dst := none, op := .store _ (.tmp 5) (.tmp 11), type := _, pos := _, after := _, guard := _ } :: _) _ _; refine open_wide.store_new rfl 154 (.tmp 5) (.tmp 11) rfl _ _ (pgV (bodyPg nk pk.l)) (by simp) rfl rfl (by rw [pgV_len HPO.out]; exact HI.out) (by rw [List.size_toArray, HZb.out.1, pgV_len HPO.out]) (pgV_ok HPO.out).2 ?_))
      have HKA : Hid (Kept (fun _ => False) w1 (w1.alloc (.cells (pgV (bodyPg nk pk.l)).toArray 154))) := Kept.alloc _ _ _
      have HP : Hid (PgAt (w1.alloc (.cells (pgV (bodyPg nk pk.l)).toArray 154)) w1.heap.size (bodyPg nk pk.l)) := ⟨⟨heap_alloc_new w1 _⟩, HPO.out⟩
      have hsA : (w1.alloc (.cells (pgV (bodyPg nk pk.l)).toArray 154)).heap.size = w1.heap.size + 1 := by simp
      have hs1 := HK1.out.size
      generalize (w1.alloc (.cells (pgV (bodyPg nk pk.l)).toArray 154)) = WA at *
      refine ⟨trivial, (open_wide.calls (items_any WA _ _ HP.out)).mono ?_⟩
      rintro e w2 ⟨rfl, n2, hw2⟩
      have HK2 : Hid (Kept (fun _ => False) w1 w2) := HKA.out.trans (by rw [hw2]; exact ⟨rfl, rfl, rfl, Nat.le_refl _, fun _ _ _ => rfl⟩) (fun _ h => .inl h)
      have HP2 : Hid (PgAt w2 w1.heap.size (bodyPg nk pk.l)) := HP.out.kept (T := fun _ => False) (by rw [hw2]; exact ⟨rfl, rfl, rfl, Nat.le_refl _, fun _ _ _ => rfl⟩) id
      have hs2 : w2.heap.size = w1.heap.size + 1 := by rw [hw2]; exact hsA
      clear hw2
      rw [HGV.out]
      have HI2 : PLift (Inv r1 pre w2) := ⟨HKP.out _ _ _ _ HI1.down (HK2.out.mono (fun _ hf => hf.elim))⟩
      have HJ2 : PLift (J r1 pre Q w2) := ⟨HJS.out r r1 pre Q wr w2 HJ.down hr1a ((HK1.out.trans HK2.out (fun _ hf => hf.elim))) HI2.down⟩
      have HX : Hid (HereB W.heap.size ps pre ⟨pk, w1.heap.size⟩ w2) := ⟨by rw [HPRE.out, ← HPX.out]; exact List.take_prefix _ _, ⟨nk, HP2.out⟩, by show W.heap.size ≤ w1.heap.size; omega⟩
      obtain ⟨fn, tmps, assign, body, hy, hR⟩ := HJY.out 5 r1 pre ⟨pk, w1.heap.size⟩ Q w2 HJ2.down ⟨HX.out, by omega⟩
      dsimp only [encB] at hy
      gi_wp2
      refine hR.mono ?_
      clear hR hy
      rintro e W3 (⟨rfl, Q3, hj3, hk3, hq3⟩ | ⟨rfl, hx3⟩)
      · have HJ3 : PLift (J r1 (pre ++ [⟨pk, w1.heap.size⟩]) Q3 W3) := ⟨hj3⟩
        have HP3 : Hid (PgAt W3 w1.heap.size (bodyPg nk pk.l)) := HP2.out.kept hk3 (fun hc => by
          rcases hc with h | h
          · omega
          · have := HQ.out _ h; omega)
        have hs3 := hk3.size
        have HQ3 : Hid (∀ j, Q3 j → W.heap.size ≤ j) := fun j hj => by
          rcases hq3 j hj with h | h
          · exact (HQ.out j h).1
          · omega
        have hmap : (pre ++ [(⟨pk, w1.heap.size⟩ : BP)]).map BP.p = ps.take (k + 1) := by rw [HPX.out, ← HPRE.out]; simp
        have HMAP : Hid ((pre ++ [(⟨pk, w1.heap.size⟩ : BP)]).map BP.p = ps.take (k + 1)) := hmap
        clear hj3 hk3 hq3 hmap
        gi_wp2_with (refine ⟨trivial, ?_⟩; gi_at_call 126; refine (open_wide.calls (link_any _ _ _ HP3.out)).mono ?_; rintro e w4 ⟨rfl, hw4⟩; rw [hw4]; clear hw4 w4)
        go_roundw
        case rel => exact ⟨k + 1, r1, _, Q3, by omega, by rw [hnk]; rfl, HJ3.down, HMAP.out, by omega, by omega, HQ3.out⟩
        case measure =>
          have h1 := ix_head HND.out HCH.out.ok (k := k + 1) (by omega)
          have h2 := HIX.out
          rw [headP_drop hlt] at h2
          rw [hnk] at h1
          rw [hpk] at h2
          show ps.length - (ps.map Piece.at_).findIdx (fun n : Nat => decide ((n : Int) = ((bodyPg nk pk.l).link : Nat))) < ps.length - (ps.map Piece.at_).findIdx (fun n : Nat => decide ((n : Int) = (pk.at_ : Nat)))
          rw [h2]
          have h3 : (ps.map Piece.at_).findIdx (fun n : Nat => decide ((n : Int) = ((bodyPg nk pk.l).link : Nat))) = k + 1 := h1
          rw [h3]; omega
      · obtain ⟨HX3⟩ : Nonempty (PLift (Jx r1 (pre ++ [⟨pk, w1.heap.size⟩]) W3)) := ⟨⟨hx3⟩⟩
        clear hx3
        gi_wp2
        refine bodyPost_ret (results_none rfl _ _ _) rfl ?_
        exact ⟨⟨_, rfl⟩, .inr ⟨_, _, trivial, HX3.down⟩⟩
    · have hkk : k = ps.length := by omega
      subst hkk
      have hmap : pre.map BP.p = ps := by rw [HPRE.out, List.take_length]
      have HMAP : Hid (pre.map BP.p = ps) := hmap
      rw [List.drop_length]
      clear hmap
      have hh0 : headP ([] : List Piece) = 0 := rfl
      rw [hh0]
      go_wp2
      go_end0
      exact ⟨⟨_, rfl⟩, .inl ⟨r, pre, Q, ⟨HMAP.out, hrk⟩, HJ.down⟩⟩
end Go.Proofs.YtcoengihaobddaaGreatDoor.prog
namespace Go.Proofs.YtcoengihaobddaaGreatDoor.prog
open Go.ChangeShapes Go.WideShapes Go.ChangeAt Go.RowKit Go.Proofs.YtcoengihaobddaaGreatDoor.disk Go.Proofs.YtcoengihaobddaaGreatDoor.ref
open Go.Proofs.YtcoengihaobddaaGreatDoor.keys (ret_int ret_bool beq_no beq_yes)
set_option linter.unusedVariables false
set_option maxRecDepth 8000
attribute [local go_sem] Oper.semAt_some

/-- Where the pieces of n bytes begin. -/
def offs (n : Nat) : List Nat := (List.range ((n + 123) / 124)).map (· * 124)
theorem offs_len (n : Nat) : (offs n).length = (n + 123) / 124 := by simp [offs]
def pieceV (g o n i : Nat) : Value := .slice (some ⟨g, o + i, none⟩) (min 124 (n - i)) (min 124 (n - i))
theorem offs_take {n k : Nat} (h : k < (n + 123) / 124) : (offs n).take (k + 1) = (offs n).take k ++ [k * 124] := by
  rw [List.take_succ_eq_append_getElem (by rw [offs_len]; exact h)]
  simp [offs]

set_option maxHeartbeats 4000000 in
theorem seq_chunk (W : World) (b1 b2 g o n cap : Nat) (hn : n ≤ 300) (hc1 : n ≤ cap) (hc2 : cap ≤ 9223372036854775807) (hn0 : 0 < n) (Inv : Int → List Nat → World → Prop)
    (hbox : ∀ r pre A, Inv r pre A → A.heap[b1]? = some (.cells #[.slice (some ⟨g, o, none⟩) n cap] 35 (0, 0)) ∧ A.heap[b2]? = some (.cells #[.int .i64 124] 3 (0, 0)))
    (hkp : ∀ r pre A B, Inv r pre A → Kept (fun _ => False) A B → Inv r pre B) :
    SeqW Tryz.prog 168 #[.pointer (some ⟨b1, 0, none⟩), .pointer (some ⟨b2, 0, none⟩)] (fun i : Nat => #[pieceV g o n i]) (fun _ => False) Inv (fun r pre i A => r = 0 ∧ (pre ++ [i]) <+: offs n) (fun r xs => r = 0 ∧ xs = offs n) (fun _ _ => True) 0 W := by
  intro l J Jx hJi hJs hJy hJ0
  have HJ0 : PLift (J 0 [] (fun _ => False) W) := ⟨hJ0⟩
  have HJI : Hid (∀ r pre Q A, J r pre Q A → Inv r pre A ∧ ∀ k, Q k → k < A.heap.size) := hJi
  have HJS : Hid (∀ r r' pre Q A B, J r pre Q A → r ≤ r' → Kept (fun _ => False) A B → Inv r' pre B → J r' pre Q B) := hJs
  have HJY : Hid (∀ m r pre x Q A, J r pre Q A → (r = 0 ∧ (pre ++ [x]) <+: offs n) → YieldAt Fence.wide m Tryz.prog l #[pieceV g o n x] A (Rounds J Jx W.heap.size r (pre ++ [x]) Q A)) := hJy
  have HBOX : Hid (∀ r pre A, Inv r pre A → A.heap[b1]? = some (.cells #[.slice (some ⟨g, o, none⟩) n cap] 35 (0, 0)) ∧ A.heap[b2]? = some (.cells #[.int .i64 124] 3 (0, 0))) := hbox
  have HKP : Hid (∀ r pre A B, Inv r pre A → Kept (fun _ => False) A B → Inv r pre B) := hkp
  clear hJi hJs hJy hJ0 hbox hkp
  go_enter Tryz.func168, Tryz.ntmps168
  go_wp2_with fail
  go_loopw [4] (fun t wr => ∃ (k : Nat) (Q : Nat → Prop), k ≤ (n + 123) / 124 ∧ t = .int .i64 (k * 124 : Nat) ∧ J 0 ((offs n).take k) Q wr) (fun t _ => 500 - (intOf t).toNat)
  case atStart => exact ⟨0, _, Nat.zero_le _, rfl, HJ0.down⟩
  case round =>
    obtain ⟨k, Q, hk, rfl, hj⟩ := hrel
    have HJ : PLift (J 0 ((offs n).take k) Q wr) := ⟨hj⟩
    have HI := (HJI.out _ _ _ _ hj).1
    obtain ⟨h1, h2⟩ := HBOX.out _ _ _ HI
    have c1 : wr.cell? ⟨b1, 0, none⟩ = some (.slice (some ⟨g, o, none⟩) n cap) := by rw [cell_of_row wr _ 0 _ _ _ h1]; rfl
    have c2 : wr.cell? ⟨b2, 0, none⟩ = some (.int .i64 124) := by rw [cell_of_row wr _ 0 _ _ _ h2]; rfl
    have HINV : PLift (Inv 0 ((offs n).take k) wr) := ⟨HI⟩
    clear hj HI h1 h2
    by_cases hlt : k < (n + 123) / 124
    · have hi : k * 124 < n := by omega
      generalize hik : k * 124 = i at *
      have hiI : (i : Int) ≤ (n : Int) := by omega
      have hne : ¬ (cap : Int) = (i : Int) := by omega
      have hne2 : ¬ cap = i := by omega
      have hI2 : (n : Int) ≤ (cap : Int) := by omega
      have HX : Hid ((offs n).take (k + 1) = (offs n).take k ++ [i]) := by show _ = _; rw [← hik]; exact offs_take hlt
      have HPX : Hid ((0 : Int) = 0 ∧ ((offs n).take k ++ [i]) <+: offs n) := ⟨rfl, by rw [← HX.out]; exact List.take_prefix _ _⟩
      have HJd : PLift (J 0 ((offs n).take k) Q wr.drew) := ⟨HJS.out _ _ _ _ _ _ HJ.down (Int.le_refl _) (Kept.drew _ _) (HKP.out _ _ _ _ HINV.down (Kept.drew _ _))⟩
      obtain ⟨fn, tmps, assign, body, hy, hR⟩ := HJY.out 5 0 _ i Q wr.drew HJd.down HPX.out
      dsimp only [pieceV] at hy
      have hlt2 : (i : Int) < (n : Int) := by omega
      by_cases h124 : 124 ≤ n - i
      · have hmin : min 124 (n - i) = 124 := by omega
        rw [hmin] at hy
        have hA : (124 : Int) ≤ ((n - i : Nat) : Int) := by omega
        have hT : ((i : Int) + 124).toNat - i = 124 := by omega
        have hcI : (i : Int) + 124 ≤ (cap : Int) := by omega
        refine (wpIn_wide (n := 6)).1 ?_
        gi_wp2
        refine (wpIn_wide (n := 6)).2 ?_
        go_region_held3 (fun w' => w'.cell? ⟨b1, 0, none⟩ = some (.slice (some ⟨g, o, none⟩) n cap) ∧ w'.cell? ⟨b2, 0, none⟩ = some (.int .i64 124)) (go_keep) (fail)
        rw [if_neg (by omega)]
        gi_wp2
        refine hR.mono ?_
        clear hR hy
        rintro e W3 (⟨rfl, Q3, hj3, hk3, hq3⟩ | ⟨rfl, hx3⟩)
        · have HJ3 : PLift (J 0 ((offs n).take (k + 1)) Q3 W3) := ⟨by rw [HX.out]; exact hj3⟩
          obtain ⟨b1', b2'⟩ := HBOX.out _ _ _ (HJI.out _ _ _ _ hj3).1
          have d1 : W3.cell? ⟨b1, 0, none⟩ = some (.slice (some ⟨g, o, none⟩) n cap) := by rw [cell_of_row W3 _ 0 _ _ _ b1']; rfl
          have d2 : W3.cell? ⟨b2, 0, none⟩ = some (.int .i64 124) := by rw [cell_of_row W3 _ 0 _ _ _ b2']; rfl
          clear hj3 hk3 hq3 b1' b2'
          gi_wp2
          go_roundw
          case rel => exact ⟨k + 1, Q3, by omega, by rw [← hik]; go_num, HJ3.down⟩
          case measure => simp [intOf]; omega
        · obtain ⟨HX3⟩ : Nonempty (PLift (Jx 0 ((offs n).take k ++ [i]) W3)) := ⟨⟨hx3⟩⟩
          clear hx3
          gi_wp2
          refine bodyPost_ret (results_none rfl _ _ _) rfl ?_
          exact ⟨⟨_, rfl⟩, .inr ⟨_, _, trivial, HX3.down⟩⟩
      · have hmin : min 124 (n - i) = n - i := by omega
        rw [hmin] at hy
        have hA : ((n - i : Nat) : Int) < 124 := by omega
        have hT : ((i : Int) + ((n - i : Nat) : Int)).toNat - i = n - i := by omega
        have hcI : (i : Int) + ((n - i : Nat) : Int) ≤ (cap : Int) := by omega
        refine (wpIn_wide (n := 6)).1 ?_
        gi_wp2
        refine (wpIn_wide (n := 6)).2 ?_
        go_region_held3 (fun w' => w'.cell? ⟨b1, 0, none⟩ = some (.slice (some ⟨g, o, none⟩) n cap) ∧ w'.cell? ⟨b2, 0, none⟩ = some (.int .i64 124)) (go_keep) (fail)
        gi_wp2
        refine hR.mono ?_
        clear hR hy
        rintro e W3 (⟨rfl, Q3, hj3, hk3, hq3⟩ | ⟨rfl, hx3⟩)
        · have HJ3 : PLift (J 0 ((offs n).take (k + 1)) Q3 W3) := ⟨by rw [HX.out]; exact hj3⟩
          obtain ⟨b1', b2'⟩ := HBOX.out _ _ _ (HJI.out _ _ _ _ hj3).1
          have d1 : W3.cell? ⟨b1, 0, none⟩ = some (.slice (some ⟨g, o, none⟩) n cap) := by rw [cell_of_row W3 _ 0 _ _ _ b1']; rfl
          have d2 : W3.cell? ⟨b2, 0, none⟩ = some (.int .i64 124) := by rw [cell_of_row W3 _ 0 _ _ _ b2']; rfl
          clear hj3 hk3 hq3 b1' b2'
          gi_wp2
          go_roundw
          case rel => exact ⟨k + 1, Q3, by omega, by rw [← hik]; go_num, HJ3.down⟩
          case measure => simp [intOf]; omega
        · obtain ⟨HX3⟩ : Nonempty (PLift (Jx 0 ((offs n).take k ++ [i]) W3)) := ⟨⟨hx3⟩⟩
          clear hx3
          gi_wp2
          refine bodyPost_ret (results_none rfl _ _ _) rfl ?_
          exact ⟨⟨_, rfl⟩, .inr ⟨_, _, trivial, HX3.down⟩⟩
    · have hkk : ¬ k * 124 < n := by omega
      generalize hik : k * 124 = i at *
      have hiI : ¬ (i : Int) < (n : Int) := by omega
      have hk2 : (offs n).take k = offs n := List.take_of_length_le (by rw [offs_len]; omega)
      have HK2 : Hid ((offs n).take k = offs n) := hk2
      clear hk2
      go_wp2
      go_end0
      exact ⟨⟨_, rfl⟩, .inl ⟨0, offs n, ⟨rfl, rfl⟩, Q, by rw [← HK2.out]; exact HJ.down⟩⟩
end Go.Proofs.YtcoengihaobddaaGreatDoor.prog
namespace Go.Proofs.YtcoengihaobddaaGreatDoor.prog
open Go.ChangeShapes Go.WideShapes Go.ChangeAt Go.RowKit Go.Proofs.YtcoengihaobddaaGreatDoor.disk Go.Proofs.YtcoengihaobddaaGreatDoor.ref
open Go.Proofs.YtcoengihaobddaaGreatDoor.keys (ret_int ret_bool beq_no beq_yes)
set_option linter.unusedVariables false
set_option maxRecDepth 8000
attribute [local go_sem] Oper.semAt_some

/-- One or more appended to a row of one's own, in a round. -/
theorem Open.append_lies {F : Fence} (hF : Open F) {nn : Nat} {P : Program} (w : World) {ops : Array Oper} {rest : List Oper} {o : Oper} {a : Act} {Q : Exit → Act → World → Prop} (hgd : o.guard = none) (s x : Operand) (t : TypeId)
    (ho : o.op = .call { callee := .builtin .append, args := #[s, x], argTypes := #[t, t] })
    (base : Nat) (e : TypeId) (i : TypeInfo) (z : Value) (size bytes : Nat) (ht : P.underlying t = some (.slice e)) (hi : P.info? e = some i) (hz : i.zero = some z)
    (hsize : i.size = size) (hby : i.bytes = bytes) (hzs : z.cells.size = size) (hsz : 0 < size)
    (v : Value) (n : Nat) (xs : List Value) (hs : a.eval s = v) (hown : w.ownsRow base e size v n xs)
    (ad : Addr) (m c : Nat) (news : List Value) (hx : a.eval x = .slice (some ad) m c) (hl : news.length = m * size) (hnews : ∀ j u, news[j]? = some u → w.cell? (ad.add j) = some u) (h1 : ∀ u ∈ news, u.oneCell' = true)
    (hm : 0 < m) (h63 : n + m ≤ maxLen) (hbytes : (n + m) * bytes ≤ 140737488355328) (hbase : base ≤ w.heap.size) (H : Nat) (hH : w.heap.size = H)
    (h : ∀ g cap w', w'.ownsRow base e size (.slice (some ⟨g, 0, none⟩) (n + m) cap) (n + m) (xs ++ news) → w.grownBy w' v.ownBlock → (v.ownBlock = some g ∨ g = H) → g < w'.heap.size → wpListIn F nn P ops Q rest (a.put o.dst (.slice (some ⟨g, 0, none⟩) (n + m) cap)) w') : wpListIn F nn P ops Q (o :: rest) a w :=
  hF.op hgd (by rw [ho]; intro c hc; cases hc) fun _ hK => wp_append_lies w s x t ho base e i z size bytes ht hi hz hsize hby hzs hsz v n xs hs hown ad m c news hx hl hnews h1 hm h63 hbytes hbase H hH fun g cap w' h2 h3 h4 h5 => hK _ _ (h g cap w' h2 h3 h4 h5)
theorem chunk_any (w : World) (a : Option Addr) (n cap : Nat) : Calls Tryz.prog 128 #[.slice a n cap, .int .i64 124] w fun e w' =>
    e = .returned (.func (.func 168) #[] #[.pointer (some ⟨w.heap.size, 0, none⟩), .pointer (some ⟨w.heap.size + 1, 0, none⟩)]) ∧ w'.heap[w.heap.size]? = some (.cells #[.slice a n cap] 35 (0, 0)) ∧ w'.heap[w.heap.size + 1]? = some (.cells #[.int .i64 124] 3 (0, 0)) ∧ Kept (fun _ => False) w w' ∧ w'.heap.size = w.heap.size + 2 := by
  go_enter Tryz.func128, Tryz.ntmps128
  go_wp2
  go_ret
  exact ⟨rfl, ((Kept.alloc (fun _ => False) _ _).block w.heap.size (by simp) id).trans (heap_alloc_new w _), heap_alloc2_new w _ _, (Kept.alloc _ _ _).trans (Kept.alloc _ _ _) (fun _ h => .inl h), by simp⟩
/-- The same, of no bytes. -/
theorem seq_chunk0 (W : World) (b1 b2 : Nat) (a : Option Addr) (cap : Nat) (Inv : Int → List Nat → World → Prop)
    (hbox : ∀ r pre A, Inv r pre A → A.heap[b1]? = some (.cells #[.slice a 0 cap] 35 (0, 0)) ∧ A.heap[b2]? = some (.cells #[.int .i64 124] 3 (0, 0))) (g o : Nat) :
    SeqW Tryz.prog 168 #[.pointer (some ⟨b1, 0, none⟩), .pointer (some ⟨b2, 0, none⟩)] (fun i : Nat => #[pieceV g o 0 i]) (fun _ => False) Inv (fun r pre i A => r = 0 ∧ (pre ++ [i]) <+: offs 0) (fun r xs => r = 0 ∧ xs = offs 0) (fun _ _ => True) 0 W := by
  intro l J Jx hJi hJs hJy hJ0
  have HJ0 : PLift (J 0 [] (fun _ => False) W) := ⟨hJ0⟩
  obtain ⟨h1, h2⟩ := hbox _ _ _ (hJi _ _ _ _ hJ0).1
  have c1 : W.cell? ⟨b1, 0, none⟩ = some (.slice a 0 cap) := by rw [cell_of_row W _ 0 _ _ _ h1]; rfl
  clear hJi hJs hJy hJ0 hbox h1 h2
  go_enter Tryz.func168, Tryz.ntmps168
  go_wp2_with fail
  go_loopw [4] (fun t wr => t = .int .i64 0 ∧ wr = W) (fun t _ => 0)
  case atStart => exact ⟨rfl, rfl⟩
  case round =>
    obtain ⟨rfl, rfl⟩ := hrel
    go_wp2
    go_end0
    exact ⟨⟨_, rfl⟩, .inl ⟨0, [], fun _ => False, ⟨rfl, rfl⟩, HJ0.down⟩⟩

structure CollI (w1 : World) (b1 b2 bx : Nat) (s1 : Value) (f : Nat → Value) (r : Int) (pre : List Nat) (Q : Nat → Prop) (A : World) : Prop where
  box1 : A.heap[b1]? = some (.cells #[s1] 35 (0, 0))
  box2 : A.heap[b2]? = some (.cells #[.int .i64 124] 3 (0, 0))
  row : ∃ v, A.heap[bx]? = some (.cells #[v] 178 (0, 0)) ∧ A.ownsRow 0 35 1 v pre.length (pre.map f) ∧ (∀ k, Q k ↔ v.ownBlock = some k) ∧ ∃ a c, v = .slice a pre.length c
  kept : Kept (fun k => k = bx ∨ w1.heap.size ≤ k) w1 A
  q : ∀ k, Q k → k < A.heap.size ∧ w1.heap.size + 1 < k
  r : r = 0
theorem CollI.by {w1 : World} {b1 b2 bx : Nat} {s1 : Value} {f : Nat → Value} {r r' : Int} {pre : List Nat} {Q Z : Nat → Prop} {A B : World} (h : CollI w1 b1 b2 bx s1 f r pre Q A) (hk : Kept Z A B) (hZ : ∀ k, Z k → w1.heap.size ≤ k ∧ k ≤ w1.heap.size + 1) (hr : r' = 0) (hb1 : b1 < w1.heap.size) (hb2 : b2 < w1.heap.size) (hbx : bx < w1.heap.size) : CollI w1 b1 b2 bx s1 f r' pre Q B := by
  obtain ⟨v, h1, h2, h3, h4⟩ := h.row
  refine ⟨(hk.block _ (Array.getElem?_eq_some_iff.1 h.box1).1 (fun hc => by have := hZ _ hc; omega)).trans h.box1, (hk.block _ (Array.getElem?_eq_some_iff.1 h.box2).1 (fun hc => by have := hZ _ hc; omega)).trans h.box2, ⟨v, (hk.block _ (Array.getElem?_eq_some_iff.1 h1).1 (fun hc => by have := hZ _ hc; omega)).trans h1, hk.owns h2 (fun j hj hc => by have := hZ _ hc; have := h.q j ((h3 j).2 hj); omega), h3, h4⟩, h.kept.trans hk (fun i hi => .inl (.inr (hZ i hi).1)), fun k hk' => ⟨Nat.lt_of_lt_of_le (h.q k hk').1 hk.size, (h.q k hk').2⟩, hr⟩
theorem Tryz.infoSU8 : (Tryz.prog.info? 35).map (fun i => (i.zero, i.size, i.bytes)) = some (some (.slice none 0 0), 1, 24) := by kernel_rfl

set_option maxHeartbeats 4000000 in
theorem appendSeq_any (w : World) (b1 b2 g o n : Nat) (s1 : Value) (hn : n ≤ 300) (h1 : w.heap[b1]? = some (.cells #[s1] 35 (0, 0))) (h2 : w.heap[b2]? = some (.cells #[.int .i64 124] 3 (0, 0)))
    (hseq : ∀ (W : World) (Inv : Int → List Nat → World → Prop), (∀ r pre A, Inv r pre A → A.heap[b1]? = some (.cells #[s1] 35 (0, 0)) ∧ A.heap[b2]? = some (.cells #[.int .i64 124] 3 (0, 0))) → (∀ r pre A B, Inv r pre A → Kept (fun _ => False) A B → Inv r pre B) →
      SeqW Tryz.prog 168 #[.pointer (some ⟨b1, 0, none⟩), .pointer (some ⟨b2, 0, none⟩)] (fun i : Nat => #[pieceV g o n i]) (fun _ => False) Inv (fun r pre i A => r = 0 ∧ (pre ++ [i]) <+: offs n) (fun r xs => r = 0 ∧ xs = offs n) (fun _ _ => True) 0 W) :
    Calls Tryz.prog 167 #[.slice none 0 0, .func (.func 168) #[] #[.pointer (some ⟨b1, 0, none⟩), .pointer (some ⟨b2, 0, none⟩)]] w fun e w' => (∃ a c, e = .returned (.slice a (offs n).length c) ∧ w'.ownsRow 0 35 1 (.slice a (offs n).length c) (offs n).length ((offs n).map (pieceV g o n)) ∧ ∀ k, (Value.slice a (offs n).length c).ownBlock = some k → w.heap.size ≤ k) ∧ Kept (fun _ => False) w w' := by
  have HB1 : Hid _ := h1
  have HB2 : Hid _ := h2
  have hl1 := (Array.getElem?_eq_some_iff.1 h1).1
  have hl2 := (Array.getElem?_eq_some_iff.1 h2).1
  have HSEQ : Hid (∀ (W : World) (Inv : Int → List Nat → World → Prop), (∀ r pre A, Inv r pre A → A.heap[b1]? = some (.cells #[s1] 35 (0, 0)) ∧ A.heap[b2]? = some (.cells #[.int .i64 124] 3 (0, 0))) → (∀ r pre A B, Inv r pre A → Kept (fun _ => False) A B → Inv r pre B) →
      SeqW Tryz.prog 168 #[.pointer (some ⟨b1, 0, none⟩), .pointer (some ⟨b2, 0, none⟩)] (fun i : Nat => #[pieceV g o n i]) (fun _ => False) Inv (fun r pre i A => r = 0 ∧ (pre ++ [i]) <+: offs n) (fun r xs => r = 0 ∧ xs = offs n) (fun _ _ => True) 0 W) := hseq
  clear h1 h2 hseq
  obtain ⟨j0, hi0, hz0, hz1, hz2⟩ := info_parts Tryz.infoSU8
  have HJ0 : Hid (Tryz.prog.info? 35 = some j0 ∧ j0.zero = some (.slice none 0 0) ∧ j0.size = 1 ∧ j0.bytes = 24) := ⟨hi0, hz0, hz1, hz2⟩
  clear hi0 hz0 hz1 hz2
  refine calls_of_marks Tryz.func167 rfl ?_
  simp only [Tryz.ntmps167, List.size_toArray, List.length_cons, List.length_nil, Nat.reduceAdd, Nat.reduceSub, Array.replicate_succ, Array.replicate_zero, List.push_toArray, List.append_toArray, List.nil_append, List.cons_append]
  go_wp2_with fail
  have HK0 : Hid (Kept (fun _ => False) w (w.alloc (.cells #[.slice none 0 0] 178))) := Kept.alloc _ _ _
  have HBX : Hid ((w.alloc (.cells #[.slice none 0 0] 178)).heap[w.heap.size]? = some (.cells #[.slice none 0 0] 178 (0, 0))) := heap_alloc_new w _
  have hs0 : (w.alloc (.cells #[.slice none 0 0] 178)).heap.size = w.heap.size + 1 := by simp
  generalize (w.alloc (.cells #[.slice none 0 0] 178)) = w1 at *
  refine wp_range (α := Nat) (gf := 168) (lb := #[.pointer (some ⟨b1, 0, none⟩), .pointer (some ⟨b2, 0, none⟩)]) rfl (enters_of Tryz.func168 (by kernel_rfl) rfl)
    (fun W1 hk hsz => HSEQ.out W1 (fun r _ A => A.heap[b1]? = some (.cells #[s1] 35 (0, 0)) ∧ A.heap[b2]? = some (.cells #[.int .i64 124] 3 (0, 0)) ∧ r = 0) (fun r pre A h => ⟨h.1, h.2.1⟩) (fun r pre A B h hk => ⟨(hk.block _ (Array.getElem?_eq_some_iff.1 h.1).1 id).trans h.1, (hk.block _ (Array.getElem?_eq_some_iff.1 h.2.1).1 id).trans h.2.1, h.2.2⟩))
    (fun k hk => hk.elim) (fun _ => rfl)
    (CollI w1 b1 b2 w.heap.size s1 (pieceV g o n)) (fun c r pre A => False)
    (fun r pre Q A h => ⟨⟨h.box1, h.box2, h.r⟩, fun k hk => by have := h.q k hk; omega⟩)
    (fun r r' pre Q A B h hr hk hi => h.by hk (fun k hk => hk.elim) hi.2.2 (by omega) (by omega) (by omega))
    (fun r pre Q A B h hk => h.by hk (fun k hk => by omega) h.r (by omega) (by omega) (by omega))
    (fun c r pre A B h hk => h)
    ⟨(HK0.out.block _ hl1 id).trans HB1.out, (HK0.out.block _ hl2 id).trans HB2.out, ⟨_, HBX.out, World.ownsRow_nil _ 0 35 1, fun k => by simp [Value.ownBlock], _, _, rfl⟩, Kept.refl _ _, fun _ h => h.elim, rfl⟩
    (fun x a' A => a' = { tmps := #[.slice none 0 0, .func (.func 168) #[] #[.pointer (some ⟨b1, 0, none⟩), .pointer (some ⟨b2, 0, none⟩)], .pointer (some ⟨w.heap.size, 0, none⟩), undef, .slice none 0 0, pieceV g o n x, .func (.func 168) #[] #[.pointer (some ⟨b1, 0, none⟩), .pointer (some ⟨b2, 0, none⟩)], pieceV g o n x, undef, undef, undef, undef, undef], defers := [] })
    (fun x a A B h hk => h) (fun r pre x A B h hk => h) ?assign ?body ?done ?stop
  case assign =>
    intro ll r pre x Q A K hi hh hlt hK
    gi_wp2
    exact hK _ _ (Kept.refl _ _) hi hh rfl
  case body =>
    rintro ll r pre x Q a' A hi hh rfl hlt
    obtain ⟨v, hv1, hv2, hv3, va, vc, rfl⟩ := hi.row
    have HI : Hid _ := hi
    have HV1 : Hid _ := hv1
    have HV2 : Hid (A.ownsRow 0 35 1 (.slice va pre.length vc) pre.length (pre.map (pieceV g o n))) := hv2
    have HV3 : Hid _ := hv3
    have hpl : pre.length < 10 := by
      obtain ⟨z, hz⟩ := hh.2
      have := congrArg List.length hz
      rw [offs_len] at this
      simp at this
      omega
    have cx : A.cell? ⟨w.heap.size, 0, none⟩ = some (.slice va pre.length vc) := by rw [cell_of_row A _ 0 _ _ _ hv1]; rfl
    clear hi hh hv1 hv2 hv3
    have hszA := HI.out.kept.size
    obtain ⟨pa, pn, hpv⟩ : ∃ pa pn, pieceV g o n x = .slice pa pn pn := ⟨_, _, rfl⟩
    have HPV : Hid (pieceV g o n x = .slice pa pn pn) := hpv
    rw [hpv]
    clear hpv
    have HKA : Hid (Kept (fun _ => False) A (A.alloc (.cells #[.slice pa pn pn] 35))) := Kept.alloc _ _ _
    have HCN : Hid (∀ j u, [.slice pa pn pn][j]? = some u → (A.alloc (.cells #[.slice pa pn pn] 35)).cell? (Addr.add ⟨A.heap.size, 0, none⟩ j) = some u) := fun j u hu => by
      have hj : j = 0 := by have := (List.getElem?_eq_some_iff.1 hu).1; simp at this; exact this
      subst hj
      have ha : Addr.add ⟨A.heap.size, 0, none⟩ 0 = ⟨A.heap.size, 0, none⟩ := Addr.add_mid _ _ _
      rw [ha, cell_of_row _ _ 0 _ _ _ (heap_alloc_new A _)]
      simpa using hu
    gi_wp2_with (gi_at_builtin; refine (open_round ll).append_lies _ rfl _ _ 178 rfl 0 35 j0 (.slice none 0 0) 1 24 Tryz.underlying178 HJ0.out.1 HJ0.out.2.1 HJ0.out.2.2.1 HJ0.out.2.2.2 rfl (by decide) (.slice va pre.length vc) pre.length (pre.map (pieceV g o n)) rfl (HKA.out.owns HV2.out (fun _ _ hf => hf)) ⟨A.heap.size, 0, none⟩ 1 1 [.slice pa pn pn] rfl rfl HCN.out (by simp [Value.oneCell']) (by decide) (by unfold maxLen; omega) (by omega) (Nat.zero_le _) (A.heap.size + 1) (by simp) ?_; intro ga ca wA hown hgrow hor hglt; have HOW : Hid _ := hown; have HOR : Hid ((Value.slice va pre.length vc).ownBlock = some ga ∨ ga = A.heap.size + 1) := hor; have HKG : Hid (Kept (fun k => (Value.slice va pre.length vc).ownBlock = some k) (A.alloc (.cells #[.slice pa pn pn] 35)) wA) := Kept.grown hgrow (fun k hk => hk); have HAX : Hid (wA.heap[w.heap.size]? = _) := (HKG.out.block _ (by have := (Array.getElem?_eq_some_iff.1 HV1.out).1; simp; omega) (fun hc => by have := HI.out.q _ ((HV3.out _).2 hc); omega)).trans ((HKA.out.block _ (Array.getElem?_eq_some_iff.1 HV1.out).1 id).trans HV1.out); have cAx : wA.cell? ⟨w.heap.size, 0, none⟩ = some (.slice va pre.length vc) := (by rw [cell_of_row wA _ 0 _ _ _ HAX.out]; rfl); have fAx : wA.frozen? ⟨w.heap.size, 0, none⟩ = false := frozen_of_row wA w.heap.size 0 _ _ HAX.out; clear hown hgrow hor)
    have h5 := heap_setCell_same wA w.heap.size 0 _ _ (.slice (some ⟨ga, 0, none⟩) (pre.length + 1) ca) HAX.out
    have kS := Kept.setCell (S := fun j => j = w.heap.size) wA ⟨w.heap.size, 0, none⟩ (.slice (some ⟨ga, 0, none⟩) (pre.length + 1) ca) rfl
    have kP : Kept (fun k => k = w.heap.size ∨ Q k) A (wA.setCell ⟨w.heap.size, 0, none⟩ (.slice (some ⟨ga, 0, none⟩) (pre.length + 1) ca)) := (((HKA.out.mono (fun _ hf => hf.elim)).trans HKG.out (fun k hk => .inl (.inr ((HV3.out k).2 hk)))).trans kS (fun k hk => .inl (.inl hk)))
    have hgq : w1.heap.size + 1 < ga := by
      rcases HOR.out with h | h
      · exact (HI.out.q ga ((HV3.out ga).2 h)).2
      · omega
    have hbq : ∀ b, b < w.heap.size → ¬ (b = w.heap.size ∨ Q b) := fun b hb hc => by
      rcases hc with h | h
      · omega
      · have := HI.out.q b h; omega
    have hlen : (pre ++ [x]).length = pre.length + 1 := by simp
    have hszS : (wA.setCell ⟨w.heap.size, 0, none⟩ (.slice (some ⟨ga, 0, none⟩) (pre.length + 1) ca)).heap.size = wA.heap.size := by simp
    refine ⟨kP.mono (fun k hk => by rcases hk with h | h; exact .inl (by omega); exact .inr h), fun k => k = ga, ⟨(kP.block _ (Array.getElem?_eq_some_iff.1 HI.out.box1).1 (hbq _ hl1)).trans HI.out.box1, (kP.block _ (Array.getElem?_eq_some_iff.1 HI.out.box2).1 (hbq _ hl2)).trans HI.out.box2, ⟨_, h5, ?_, fun k => ?_, some ⟨ga, 0, none⟩, ca, by rw [hlen]⟩, ?_, fun k hk => ⟨?_, by omega⟩, HI.out.r⟩, fun k hk => ?_⟩
    · rw [hlen, List.map_append, List.map_cons, List.map_nil, HPV.out]
      exact kS.owns HOW.out (fun j hj e0 => by simp [Value.ownBlock] at hj; omega)
    · simp [Value.ownBlock]; exact eq_comm
    · exact HI.out.kept.trans kP (fun k hk => by
        rcases hk with h | h
        · exact .inl (.inl h)
        · exact .inr (by have := HI.out.q k h; omega))
    · rw [hszS, hk]; exact hglt
    · rw [hk]
      rcases HOR.out with h | h
      · exact .inl ((HV3.out ga).2 h)
      · exact .inr (by omega)
  case done =>
    rintro DD r xs Q A hS hi rfl hK
    obtain ⟨v, hv1, hv2, hv3, va, vc, rfl⟩ := hi.row
    have HI : Hid _ := hi
    have HXS : Hid (xs = offs n) := hS.2
    have HV2 : Hid (A.ownsRow 0 35 1 (.slice va xs.length vc) xs.length (xs.map (pieceV g o n))) := hv2
    have HV3 : Hid _ := hv3
    have HK : Hid (A.heap[w1.heap.size]? = some (.deferred (some []))) := hK
    have cx : A.cell? ⟨w.heap.size, 0, none⟩ = some (.slice va xs.length vc) := by rw [cell_of_row A _ 0 _ _ _ hv1]; rfl
    clear hi hS hv1 hv2 hv3 hK
    dsimp only
    go_wp2
    have kp : Kept (fun k => k = w1.heap.size) A (A.putObj w1.heap.size (.deferred none)) := Kept.putObj _ _ _ rfl
    refine postM_ret rfl HK.out (results_tmp rfl _ _ _) ⟨⟨va, vc, ?_, ?_, fun k hk => ?_⟩, ?_⟩
    · rw [← HXS.out]; rfl
    · rw [← HXS.out]
      exact kp.owns HV2.out (fun j hj e0 => by have := HI.out.q j ((HV3.out j).2 hj); omega)
    · rw [← HXS.out] at hk
      have := HI.out.q k ((HV3.out k).2 hk); omega
    · exact (HK0.out.trans HI.out.kept (fun j hj => .inr (by omega))).trans kp (fun j hj => .inr (by omega))
  case stop =>
    rintro DD c r pre A hS hi rfl hK
    exact hi.elim
end Go.Proofs.YtcoengihaobddaaGreatDoor.prog

/- Part 30 of 39 of a proof: Back1, BWrite1, Root1, Tr5 -/
import Derived.Test.YtcoengihaobddaaGreatDoorJp29
import Derived.Test.YtcoengihaobddaaGreatDoorJp26
import Derived.Laws.CopyRow
import Derived.Test.YtcoengihaobddaaGreatDoorJp21
namespace Go.Proofs.YtcoengihaobddaaGreatDoor.prog
open Go.ChangeShapes Go.WideShapes Go.ChangeAt Go.RowKit Go.Proofs.YtcoengihaobddaaGreatDoor.disk Go.Proofs.YtcoengihaobddaaGreatDoor.ref
open Go.Proofs.YtcoengihaobddaaGreatDoor.keys (ret_int ret_bool beq_no beq_yes)
set_option linter.unusedVariables false
set_option maxRecDepth 8000
attribute [local go_sem] Oper.semAt_some

/-- Collect of a Chunk of some bytes. -/
theorem collect_any (w : World) (b1 b2 : Nat) (a : Option Addr) (n cap : Nat) (hn : n ≤ 300) (hc1 : n ≤ cap) (hc2 : cap ≤ 9223372036854775807) (ha : 0 < n → ∃ g o, a = some ⟨g, o, none⟩) (h1 : w.heap[b1]? = some (.cells #[.slice a n cap] 35 (0, 0))) (h2 : w.heap[b2]? = some (.cells #[.int .i64 124] 3 (0, 0))) :
    Calls Tryz.prog 127 #[.func (.func 168) #[] #[.pointer (some ⟨b1, 0, none⟩), .pointer (some ⟨b2, 0, none⟩)]] w fun e w' => (∃ g o ra c, (0 < n → a = some ⟨g, o, none⟩) ∧ e = .returned (.slice ra (offs n).length c) ∧ w'.ownsRow 0 35 1 (.slice ra (offs n).length c) (offs n).length ((offs n).map (pieceV g o n)) ∧ ∀ k, (Value.slice ra (offs n).length c).ownBlock = some k → w.heap.size ≤ k) ∧ Kept (fun _ => False) w w' := by
  obtain ⟨g, o, HA, HSEQ⟩ : ∃ g o, (0 < n → a = some ⟨g, o, none⟩) ∧ ∀ (W : World) (Inv : Int → List Nat → World → Prop), (∀ r pre A, Inv r pre A → A.heap[b1]? = some (.cells #[.slice a n cap] 35 (0, 0)) ∧ A.heap[b2]? = some (.cells #[.int .i64 124] 3 (0, 0))) → (∀ r pre A B, Inv r pre A → Kept (fun _ => False) A B → Inv r pre B) →
      SeqW Tryz.prog 168 #[.pointer (some ⟨b1, 0, none⟩), .pointer (some ⟨b2, 0, none⟩)] (fun i : Nat => #[pieceV g o n i]) (fun _ => False) Inv (fun r pre i A => r = 0 ∧ (pre ++ [i]) <+: offs n) (fun r xs => r = 0 ∧ xs = offs n) (fun _ _ => True) 0 W := by
    by_cases hn0 : 0 < n
    · obtain ⟨g, o, rfl⟩ := ha hn0
      exact ⟨g, o, fun _ => rfl, fun W Inv hb hk => seq_chunk W b1 b2 g o n cap hn hc1 hc2 hn0 Inv hb hk⟩
    · obtain rfl : n = 0 := by omega
      exact ⟨0, 0, fun h => by omega, fun W Inv hb hk => seq_chunk0 W b1 b2 a cap Inv hb 0 0⟩
  have HC := appendSeq_any w b1 b2 g o n (.slice a n cap) hn h1 h2 HSEQ
  have HCC : Hid (Calls Tryz.prog 167 #[.slice none 0 0, .func (.func 168) #[] #[.pointer (some ⟨b1, 0, none⟩), .pointer (some ⟨b2, 0, none⟩)]] w fun e w' => (∃ a c, e = .returned (.slice a (offs n).length c) ∧ w'.ownsRow 0 35 1 (.slice a (offs n).length c) (offs n).length ((offs n).map (pieceV g o n)) ∧ ∀ k, (Value.slice a (offs n).length c).ownBlock = some k → w.heap.size ≤ k) ∧ Kept (fun _ => False) w w') := HC
  have HAA : Hid (0 < n → a = some ⟨g, o, none⟩) := HA
  clear HC HSEQ h1 h2 ha HA
  go_enter Tryz.func127, Tryz.ntmps127
  go_wp2_with fail
  refine HCC.out.mono ?_
  rintro e w1 ⟨⟨ra, rc, rfl, hown, hfr⟩, hk1⟩
  have HOW : Hid _ := hown
  have HFR : Hid _ := hfr
  have HK1 : Hid _ := hk1
  clear hown hfr hk1
  go_wp2
  go_ret
  exact ⟨⟨g, o, ra, rc, HAA.out, rfl, HOW.out, HFR.out⟩, HK1.out⟩
theorem backward_any (w : World) (v : Value) (hv : v.oneCell' = true) (a : Option Addr) (n c : Nat) (he : v = .slice a n c) : Calls Tryz.prog 130 #[v] w fun e w' =>
    e = .returned (.func (.func 169) #[] #[.pointer (some ⟨w.heap.size, 0, none⟩)]) ∧ w'.heap[w.heap.size]? = some (.cells #[v] 178 (0, 0)) ∧ Kept (fun _ => False) w w' ∧ w'.heap.size = w.heap.size + 1 := by
  subst he
  go_enter Tryz.func130, Tryz.ntmps130
  go_wp2
  go_ret
  exact ⟨rfl, heap_alloc_new w _, Kept.alloc _ _ _, by simp⟩

/-- From the last one on. -/
def downs (m : Nat) : List Nat := (List.range m).reverse
theorem downs_len (m : Nat) : (downs m).length = m := by simp [downs]
theorem downs_take {m k : Nat} (h : k < m) : (downs m).take (k + 1) = (downs m).take k ++ [m - 1 - k] := by
  rw [List.take_succ_eq_append_getElem (by rw [downs_len]; exact h)]
  simp [downs]
set_option maxHeartbeats 4000000 in
theorem seq_back (W : World) (b1 g m c : Nat) (vs : List Value) (hvs : vs.length = m) (hm : m ≤ 1000) (enc : Nat → Value) (henc : ∀ i (h : i < vs.length), vs[i] = enc i) (h1 : ∀ i, ∃ a n c, enc i = .slice a n c) (Inv : Int → List Nat → World → Prop)
    (hbox : ∀ r pre A, Inv r pre A → A.heap[b1]? = some (.cells #[.slice (some ⟨g, 0, none⟩) m c] 178 (0, 0)) ∧ A.ownsRow 0 35 1 (.slice (some ⟨g, 0, none⟩) m c) m vs)
    (hkp : ∀ r pre A B, Inv r pre A → Kept (fun _ => False) A B → Inv r pre B) :
    SeqW Tryz.prog 169 #[.pointer (some ⟨b1, 0, none⟩)] (fun i : Nat => #[.int .i64 (i : Int), enc i]) (fun _ => False) Inv (fun r pre i A => r = 0 ∧ (pre ++ [i]) <+: downs m) (fun r xs => r = 0 ∧ xs = downs m) (fun _ _ => True) 0 W := by
  intro l J Jx hJi hJs hJy hJ0
  have HJ0 : PLift (J 0 [] (fun _ => False) W) := ⟨hJ0⟩
  have HJI : Hid (∀ r pre Q A, J r pre Q A → Inv r pre A ∧ ∀ k, Q k → k < A.heap.size) := hJi
  have HJY : Hid (∀ m' r pre (x : Nat) Q A, J r pre Q A → (r = 0 ∧ (pre ++ [x]) <+: downs m) → YieldAt Fence.wide m' Tryz.prog l #[.int .i64 (x : Int), enc x] A (Rounds J Jx W.heap.size r (pre ++ [x]) Q A)) := hJy
  have HBOX : Hid (∀ r pre A, Inv r pre A → A.heap[b1]? = some (.cells #[.slice (some ⟨g, 0, none⟩) m c] 178 (0, 0)) ∧ A.ownsRow 0 35 1 (.slice (some ⟨g, 0, none⟩) m c) m vs) := hbox
  have HENC : Hid (∀ i (h : i < vs.length), vs[i] = enc i) := henc
  have HH1 : Hid (∀ i, ∃ a n c, enc i = .slice a n c) := h1
  obtain ⟨hb, -⟩ := hbox _ _ _ (hJi _ _ _ _ hJ0).1
  have c1 : W.cell? ⟨b1, 0, none⟩ = some (.slice (some ⟨g, 0, none⟩) m c) := by rw [cell_of_row W _ 0 _ _ _ hb]; rfl
  clear hJi hJs hJy hJ0 hbox hkp henc h1 hb
  go_enter Tryz.func169, Tryz.ntmps169
  go_wp2_with fail
  go_loopw [3] (fun t wr => ∃ (k : Nat) (Q : Nat → Prop), k ≤ m ∧ t = .int .i64 ((m : Int) - 1 - k) ∧ J 0 ((downs m).take k) Q wr) (fun t _ => (intOf t + 1).toNat)
  case atStart => exact ⟨0, _, Nat.zero_le _, by simp, HJ0.down⟩
  case round =>
    obtain ⟨k, Q, hk, rfl, hj⟩ := hrel
    have HJ : PLift (J 0 ((downs m).take k) Q wr) := ⟨hj⟩
    obtain ⟨hb, hrow⟩ := HBOX.out _ _ _ (HJI.out _ _ _ _ hj).1
    have d1 : wr.cell? ⟨b1, 0, none⟩ = some (.slice (some ⟨g, 0, none⟩) m c) := by rw [cell_of_row wr _ 0 _ _ _ hb]; rfl
    by_cases hlt : k < m
    · obtain ⟨i, hi⟩ : ∃ i, i = m - 1 - k := ⟨_, rfl⟩
      have hiI : (m : Int) - 1 - k = (i : Int) := by omega
      have him : i < m := by omega
      have hcell : wr.cell? ⟨g, i, none⟩ = some (enc i) := by
        have := hrow.cells (g := g) rfl i (enc i) (by rw [List.getElem?_eq_getElem (by omega), HENC.out i (by omega)])
        rw [Addr.add_mid] at this
        simpa using this
      have HX : Hid ((downs m).take (k + 1) = (downs m).take k ++ [i]) := by show _ = _; rw [hi]; exact downs_take hlt
      have HPX : Hid ((0 : Int) = 0 ∧ ((downs m).take k ++ [i]) <+: downs m) := ⟨rfl, by rw [← HX.out]; exact List.take_prefix _ _⟩
      obtain ⟨fn, tmps, assign, body, hy, hR⟩ := HJY.out 5 0 _ i Q wr HJ.down HPX.out
      have hge : (0 : Int) ≤ (i : Int) := by omega
      have hltI : (i : Int) < (m : Int) := by omega
      rw [hiI]
      obtain ⟨ea, en, ec, hee⟩ := HH1.out i
      rw [hee] at hcell hy
      have HII : Hid ((m : Int) - 1 - k = (i : Int)) := hiI
      clear hj hb hrow hi hiI
      refine (wpIn_wide (n := 6)).1 ?_
      gi_wp2
      refine hR.mono ?_
      clear hR hy
      rintro e W3 (⟨rfl, Q3, hj3, hk3, hq3⟩ | ⟨rfl, hx3⟩)
      · have HJ3 : PLift (J 0 ((downs m).take (k + 1)) Q3 W3) := ⟨by rw [HX.out]; exact hj3⟩
        clear hj3 hk3 hq3
        gi_wp2
        go_roundw
        case rel => exact ⟨k + 1, Q3, by omega, by rw [← HII.out]; go_num, HJ3.down⟩
        case measure => have := HII.out; simp [intOf]
      · obtain ⟨HX3⟩ : Nonempty (PLift (Jx 0 ((downs m).take k ++ [i]) W3)) := ⟨⟨hx3⟩⟩
        clear hx3
        gi_wp2
        refine bodyPost_ret (results_none rfl _ _ _) rfl ?_
        exact ⟨⟨_, rfl⟩, .inr ⟨_, _, trivial, HX3.down⟩⟩
    · obtain rfl : k = m := by omega
      have hm1 : (k : Int) - 1 - k = -1 := by omega
      rw [hm1]
      have hk2 : (downs k).take k = downs k := List.take_of_length_le (by rw [downs_len]; omega)
      have HK2 : Hid ((downs k).take k = downs k) := hk2
      clear hk2 hj hb hrow
      go_wp2
      go_end0
      exact ⟨⟨_, rfl⟩, .inl ⟨0, downs k, Q, ⟨rfl, rfl⟩, by rw [← HK2.out]; exact HJ.down⟩⟩
end Go.Proofs.YtcoengihaobddaaGreatDoor.prog
namespace Go.Proofs.YtcoengihaobddaaGreatDoor.prog
open Go.RowKit Go.Proofs.YtcoengihaobddaaGreatDoor.disk Go.Proofs.YtcoengihaobddaaGreatDoor.ref
set_option linter.unusedVariables false
set_option maxRecDepth 8000

/-- The pieces of some bytes. -/
def pieceL (l : List UInt8) (i : Nat) : List UInt8 := (l.drop i).take (min 124 (l.length - i))
def chunks (l : List UInt8) : List (List UInt8) := (offs l.length).map (pieceL l)
theorem chunks_len (l : List UInt8) : (chunks l).length = (l.length + 123) / 124 := by simp [chunks, offs_len]
theorem pieceL_len {l : List UInt8} {i : Nat} (h : i ≤ l.length) : (pieceL l i).length = min 124 (l.length - i) := by simp [pieceL]
theorem chunks_at (l : List UInt8) (k : Nat) (h : k < (chunks l).length) : (chunks l)[k] = pieceL l (k * 124) := by simp [chunks, offs]
theorem take_drop_flat (l : List UInt8) : ∀ k, (((List.range k).map fun j => pieceL l (j * 124))).flatten = l.take (k * 124)
  | 0 => by simp
  | k + 1 => by
    rw [List.range_succ, List.map_append, List.flatten_append, take_drop_flat l k]
    simp only [List.map_cons, List.map_nil, List.flatten_cons, List.flatten_nil, List.append_nil]
    rw [Nat.add_mul, Nat.one_mul, List.take_add]
    congr 1
    unfold pieceL
    by_cases h : l.length - k * 124 ≤ 124
    · rw [Nat.min_eq_right h, List.take_of_length_le (by simp), List.take_of_length_le (by simp; omega)]
    · rw [Nat.min_eq_left (by omega)]
theorem chunks_flat (l : List UInt8) : (chunks l).flatten = l := by
  have := take_drop_flat l ((l.length + 123) / 124)
  rw [List.take_of_length_le (by omega)] at this
  conv => rhs; rw [← this]
  simp only [chunks, offs, List.map_map]
  rfl
theorem chunks_pos {l : List UInt8} : ∀ p ∈ chunks l, 1 ≤ p.length ∧ p.length ≤ 124 := fun p hp => by
  obtain ⟨k, hk, rfl⟩ := List.getElem_of_mem hp
  rw [chunks_at]
  rw [chunks_len] at hk
  rw [pieceL_len (by omega)]
  omega
def bodyStep (N : Nat) (l : List UInt8) (s : Nat × Ck × List UInt8) : Nat × Ck × List UInt8 := ((s.2.1.take N s.2.2).1, (s.2.1.take N s.2.2).2.1.put (s.2.1.take N s.2.2).1 (pgV (bodyPg s.1 l)), (s.2.1.take N s.2.2).2.2)
/-- A change behind some pieces, the last one written first: where the first is, the change, the map. -/
def Ck.body (C : Ck) (N : Nat) (m : List UInt8) : List (List UInt8) → Nat × Ck × List UInt8
  | [] => (0, C, m)
  | l :: r => bodyStep N l (C.body N m r)
theorem body_succ (C : Ck) (N : Nat) (m l : List UInt8) (r : List (List UInt8)) : C.body N m (l :: r) = bodyStep N l (C.body N m r) := rfl
theorem bodyStep_eq {N : Nat} {l : List UInt8} {f ta : Nat} {C1 C2 : Ck} {m1 m2 : List UInt8} (h2 : C1.take N m1 = (ta, C2, m2)) : bodyStep N l (f, C1, m1) = (ta, C2.put ta (pgV (bodyPg f l)), m2) := by
  unfold bodyStep
  generalize pgV (bodyPg f l) = v
  rw [h2]
theorem body_cons {C C1 C2 : Ck} {N : Nat} {m m1 m2 l : List UInt8} {r : List (List UInt8)} {f ta : Nat} (h1 : C.body N m r = (f, C1, m1)) (h2 : C1.take N m1 = (ta, C2, m2)) : C.body N m (l :: r) = (ta, C2.put ta (pgV (bodyPg f l)), m2) := by
  rw [body_succ, h1, bodyStep_eq h2]
theorem body_map {C : Ck} {D : Dk} {m : List UInt8} (h : IsMap (C.look D 2) m) {N : Nat} (hN : N ≤ 1000) (ls : List (List UInt8)) : ∀ (f : Nat) (C' : Ck) (m' : List UInt8), C.body N m ls = (f, C', m') → IsMap (C'.look D 2) m' ∧ C'.ws.length ≤ C.ws.length + 2 * ls.length ∧ f < 65536 := by
  induction ls with
  | nil =>
    intro f C' m' e
    have e1 : (0, C, m) = (f, C', m') := e
    simp only [Prod.mk.injEq] at e1
    obtain ⟨rfl, rfl, rfl⟩ := e1
    exact ⟨h, by simp, by decide⟩
  | cons l r ih =>
    intro f C' m' e
    rcases h1 : C.body N m r with ⟨f1, C1, m1⟩
    rcases h2 : C1.take N m1 with ⟨ta, C2, m2⟩
    rw [body_cons h1 h2] at e
    simp only [Prod.mk.injEq] at e
    obtain ⟨rfl, rfl, rfl⟩ := e
    obtain ⟨k1, k2, k3⟩ := ih f1 C1 m1 h1
    have k4 := k1.take N
    have k5 := take_ge C1 N m1
    have k6 := take_len C1 N m1
    rw [h2] at k4 k5 k6
    simp only at k4 k5 k6
    refine ⟨k4.put _ _ (by omega), ?_, by omega⟩
    have := ck_put_len C2 ta (pgV (bodyPg f1 l))
    rw [List.length_cons]
    omega
/-- What it makes. -/
structure BodyR (D : Dk) (C C' : Ck) (m m' : List UInt8) (f : Nat) (ls : List (List UInt8)) (nb : List Nat) : Prop where
  chn : Chn D C' m'
  stp : Stp D C C' m m' [] nb
  nl : nb.length ≤ ls.length
  chain : C'.full = false → ∃ ps, Chain (fun j => C'.look D (j : Nat)) ps ∧ headP ps = f ∧ ps.map Piece.l = ls ∧ (ps.map Piece.at_).Perm nb
theorem body_r {C : Ck} {D : Dk} {m : List UInt8} (h : Chn D C m) (hN : D.bs.length ≤ 1000) : ∀ (ls : List (List UInt8)) (f : Nat) (C' : Ck) (m' : List UInt8), (∀ p ∈ ls, p.length ≤ 124) → C.body D.bs.length m ls = (f, C', m') → ∃ nb, BodyR D C C' m m' f ls nb
  | [], f, C', m', _, e => by
    cases e
    exact ⟨[], h, Stp.refl D C m, by simp, fun _ => ⟨[], trivial, rfl, rfl, List.Perm.refl _⟩⟩
  | l :: r, f, C', m', hl, e => by
    rcases h1 : C.body D.bs.length m r with ⟨f1, C1, m1⟩
    obtain ⟨nb, R⟩ := body_r h hN r f1 C1 m1 (fun p hp => hl p (List.mem_cons_of_mem _ hp)) h1
    obtain ⟨ta, tC, tm, nb2, htk, tk⟩ := take_tkn R.chn hN
    rw [body_cons h1 htk] at e
    cases e
    have hlt := tk.lt hN
    have st := R.stp.trans tk.stp
    rw [List.append_nil] at st
    refine ⟨nb ++ nb2, tk.chn.put hlt.2 _, st.taken _ (tk.mem.imp (List.mem_append_right _) id), by have := R.nl; have := tk.len; simp; omega, fun hf => ?_⟩
    rw [full_put] at hf
    rcases tk.is with ⟨rfl, k1, k2, _⟩ | ⟨_, _, k1⟩
    · obtain ⟨ps, c1, c2, c3, c4⟩ := R.chain (tk.stp.unfull hf)
      have hne : ∀ p ∈ ps, p.at_ ≠ f ∧ 21 ≤ p.at_ := fun p hp => by
        have hm : p.at_ ∈ nb := c4.mem_iff.1 (List.mem_map.2 ⟨p, hp, rfl⟩)
        have hfr := R.stp.grew.fresh _ hm
        have ht : takenB m1 (p.at_ - 21) = true := by rw [R.stp.grew.taken, show p.at_ - 21 + 21 = p.at_ from by omega]; simp [hm]
        exact ⟨fun e0 => tk.stp.grew.apart ht (by rw [e0]; simp), hfr.1⟩
      refine ⟨⟨f, l⟩ :: ps, ⟨⟨hlt.1, by show f ≠ 0; omega, hl l (List.mem_cons_self ..)⟩, ?_, c1.congr (fun p hp => ?_)⟩, rfl, by rw [List.map_cons, c3], ?_⟩
      · show (tC.put f _).look D f = _
        rw [look_put_eq, c2]
      · obtain ⟨h3, h4⟩ := hne p hp
        show (tC.put f _).look D (p.at_ : Nat) = C1.look D (p.at_ : Nat)
        rw [look_put_ne _ _ _ _ _ (by omega)]
        exact tk.stp.look _ (fun h => nomatch h) (by rw [List.mem_singleton]; exact h3) (by omega) (by omega)
      · rw [List.map_cons]
        exact (c4.cons f).trans (List.perm_append_comm (l₁ := [f]))
    · rw [k1] at hf; cases hf

/-- Bytes copied into a page. -/
def cpB (args : Array Value) : Sem Value := Builtin.copy_ #[35, 35] 3 args
theorem cpB_eq (args : Array Value) : Builtin.copy_ #[35, 35] 3 args = cpB args := rfl
theorem run_cpB (w : World) (b : Nat) (t : TypeId) (l : List UInt8) (h : BsAt w b t l) (o cap : Nat) (p : List UInt8) (hp : o + p.length ≤ l.length) (P : Nat → Prop) (g i pc : Nat) (hb : Bytes w P (some ⟨g, i, none⟩) p) :
    ∃ w', (cpB #[.slice (some ⟨b, o, none⟩) p.length cap, .slice (some ⟨g, i, none⟩) p.length pc]).run Tryz.prog w = .ok (goInt p.length) w' ∧ BsAt w' b t (over l o p) ∧ Kept (fun i => i = b) w w' := by
  have hr := run_copy_row Tryz.prog w 35 35 3 5 b o p.length cap ⟨g, i, none⟩ p.length pc (l.map byteV).toArray t (p.map byteV) Tryz.underlying35 u8_size h.at_ (by simp) (fun j v hv => by
    obtain ⟨hj, rfl⟩ := List.getElem?_eq_some_iff.1 hv
    simp only [List.length_map] at hj
    rcases hb with h0 | ⟨b', o', e0, _, _, hc⟩
    · rw [h0] at hj; simp at hj
    · cases e0
      rw [Addr.add_mid]; simpa [byteV] using hc j hj) (by simp; omega) (byteV_one p)
  rw [List.length_map] at hr
  refine ⟨_, hr, ⟨?_⟩, ⟨rfl, rfl, rfl, by simp, fun k _ hk => setRow_other w b k _ (fun e => hk (by rw [e]))⟩⟩
  rw [setRow_heap w b _ _ t _ h.at_]
  congr 2
  unfold over
  simp [List.map_take, List.map_drop]
end Go.Proofs.YtcoengihaobddaaGreatDoor.prog
namespace Go.Proofs.YtcoengihaobddaaGreatDoor.prog
open Go.ChangeShapes Go.WideShapes Go.ChangeAt Go.RowKit Go.Proofs.YtcoengihaobddaaGreatDoor.disk Go.Proofs.YtcoengihaobddaaGreatDoor.ref
open Go.Proofs.YtcoengihaobddaaGreatDoor.keys (ret_int ret_bool beq_no beq_yes)
set_option linter.unusedVariables false
set_option maxRecDepth 8000

/-- The page of a root. -/
def rootPg (tree n : Nat) : Pg := ⟨2, tree, [bytesOf 8 n]⟩
theorem rootPg_ok {tree n : Nat} (h : tree < 65536) : (rootPg tree n).Ok := ⟨by simp [rootPg], h, fun i hi => by simp [rootPg] at hi; rw [hi, bytesOf_len]; rfl, by simp [rootPg, width], by simp [rootPg]⟩
/-- A block is a root: of the tree at a block, the greatest number that was given. -/
structure IsRoot (b : List Value) (tree n : Nat) : Prop where
  is : b = pgV (rootPg tree n) ∨ (b = pgV (Pg.new 0) ∧ tree = 0 ∧ n = 0)
  tree : tree < 65536
  num : n < 9223372036854775808
/-- .. as the walk reads it. -/
structure RootPg (p : Pg) (tree n : Nat) : Prop where
  ok : p.Ok
  link : p.link = tree
  len : p.items.length * width p.kind ≤ 8
  num : numOf ((p.bytes.drop 4).take (p.items.length * width p.kind)) = n
theorem IsRoot.page {b : List Value} {tree n : Nat} (h : IsRoot b tree n) : ∃ p, b = pgV p ∧ RootPg p tree n := by
  rcases h.is with rfl | ⟨rfl, rfl, rfl⟩
  · have ho := rootPg_ok (n := n) h.tree
    refine ⟨_, rfl, ho, rfl, by simp [rootPg, width], ?_⟩
    rw [ho.all]
    have := h.num
    simp only [rootPg, List.flatten_cons, List.flatten_nil, List.append_nil]
    exact numOf_bytesOf _ _ (by have : (256 : Nat) ^ 8 = 18446744073709551616 := by decide
                                omega)
  · exact ⟨_, rfl, Pg.new_ok 0 (by omega), rfl, by simp [Pg.new], by simp [Pg.new, numOf]⟩

set_option maxHeartbeats 2000000 in
theorem readRoot_any (w : World) (T : TypeId) (f : FuncId) (a : Addr) (hrd : IsRd T f a) (X : Nat → Prop) (R : World → Prop) (tree n : Nat) (b : List Value) (hb : IsRoot b tree n)
    (hcall : ∀ w0, Kept (fun _ => False) w w0 → Calls Tryz.prog f #[.pointer (some a), .int .i64 1] w0 fun e w1 => e = .returned (.agg b.toArray) ∧ Kept X w0 w1 ∧ R w1) (hX : ∀ i, X i → i < w.heap.size) :
    Calls Tryz.prog 74 #[.iface T (.pointer (some a))] w fun e w' => e = .returned (.agg #[.int .i64 (tree : Int), .int .i64 (n : Int)]) ∧ ∃ w1, Kept X w w1 ∧ R w1 ∧ Kept (fun i => w.heap.size ≤ i) w1 w' := by
  obtain ⟨p, rfl, hp⟩ := hb.page
  have hnlt := hb.num
  clear hb
  obtain ⟨Zb, hZb, hz⟩ : ∃ Zb : List Value, Zb = zeroB ∧ ∀ w, (zeroValue 154).run Tryz.prog w = .ok (.agg Zb.toArray) w := ⟨zeroB, rfl, zero_run Tryz.infoPage⟩
  have HZb : Hid (BlkOk Zb) := by rw [hZb]; exact zeroB_ok
  clear hZb
  have HI : Hid ((Tryz.prog.info? 154).map (·.size) = some 128) := size_of Tryz.infoPage
  have hmeth := hrd.meth
  have hent := hrd.ent
  have HPO : Hid (RootPg p tree n) := hp
  have HBO : Hid (BlkOk (pgV p)) := pgV_ok hp.ok
  have HC : Hid _ := hcall
  have HK0 : Hid (Kept (fun _ => False) w (w.alloc (.cells #[.int .i64 0, .int .i64 0] 145))) := Kept.alloc _ _ _
  have HX : Hid (∀ i, X i → i < w.heap.size) := hX
  clear hcall hp hX
  go_enter Tryz.func74, Tryz.ntmps74
  go_wp2_with fail
  refine (HC.out _ HK0.out).mono ?_
  rintro e w1 ⟨rfl, hk1, hR⟩
  have HK1 : Hid _ := hk1
  have HR : Hid (R w1) := hR
  clear hk1 hR
  go_wp2_with (first
    | (show wpList _ _ _ ({ dst := none, op := .store _ (.tmp 3) (.tmp 5), type := _, pos := _, after := _, guard := _ } :: _) _ _; refine wpList_store_new rfl 154 (.tmp 3) (.tmp 5) rfl _ _ (pgV p) (by simp) rfl rfl (by rw [HBO.out.1]; exact HI.out) (by rw [List.size_toArray, HZb.out.1, HBO.out.1]) HBO.out.2 ?_; have HP : Hid (PgAt (w1.alloc (.cells (pgV p).toArray 154)) w1.heap.size p) := ⟨⟨heap_alloc_new w1 _⟩, HPO.out.ok⟩)
    | (go_at_call 126; refine (link_any _ _ _ HP.out).mono ?_; rintro e w2 ⟨rfl, rfl⟩; rw [HPO.out.link]))
  have hs1 : w.heap.size + 1 ≤ w1.heap.size := by have := HK1.out.size; simpa using this
  have HBr : Hid (w1.heap[w.heap.size]? = some (.cells #[.int .i64 0, .int .i64 0] 145 (0, 0))) := (HK1.out.block _ (by simp) (fun hc => by have := HX.out _ hc; omega)).trans (heap_alloc_new w _)
  have HKA : Hid (Kept (fun _ => False) w1 (w1.alloc (.cells (pgV p).toArray 154))) := Kept.alloc _ _ _
  have hsA : (w1.alloc (.cells (pgV p).toArray 154)).heap.size = w1.heap.size + 1 := by simp
  generalize (w1.alloc (.cells (pgV p).toArray 154)) = WA at *
  refine (items_any WA _ p HP.out).mono ?_
  rintro e w2 ⟨rfl, n2, hw2⟩
  have HK2 : Hid (Kept (fun _ => False) WA w2) := by rw [hw2]; exact ⟨rfl, rfl, rfl, Nat.le_refl _, fun _ _ _ => rfl⟩
  clear hw2
  have HP2 : Hid (PgAt w2 w1.heap.size p) := HP.out.kept HK2.out id
  have hsz2 := HK2.out.size
  unfold itemsV
  have hlen8 := HPO.out.len
  have HL : Hid (p.bytes.length = 128) := HPO.out.ok.len
  generalize hq : p.items.length * width p.kind = q at *
  have HQ : Hid (p.items.length * width p.kind = q) := hq
  clear hq
  go_wp2_with fail
  refine (number_at w2 _ _ _ HP2.out.bs 4 q 124 n (by rw [HL.out]; omega) hlen8 (by rw [← HQ.out]; exact HPO.out.num) hnlt).mono ?_
  rintro e w3 ⟨rfl, hw3⟩
  rw [hw3]
  clear hw3 w3
  have HB2 : Hid (w2.heap[w.heap.size]? = _) := (HK2.out.block _ (by omega) id).trans ((HKA.out.block _ (by omega) id).trans HBr.out)
  have c0 : w2.cell? ⟨w.heap.size, 0, none⟩ = some (.int .i64 0) := by rw [cell_of_row w2 _ 0 _ _ _ HB2.out]; rfl
  have c1 : w2.cell? ⟨w.heap.size, 1, none⟩ = some (.int .i64 0) := by rw [cell_of_row w2 _ 1 _ _ _ HB2.out]; rfl
  have f0 := frozen_of_row w2 w.heap.size 0 _ _ HB2.out
  have f1 := frozen_of_row w2 w.heap.size 1 _ _ HB2.out
  have hl2 : w.heap.size < w2.heap.size := by omega
  go_wp2
  have h0 := heap_setCell_same w2 w.heap.size 0 _ _ (.int .i64 (tree : Int)) HB2.out
  have h1 := heap_setCell_same _ w.heap.size 1 _ _ (.int .i64 (n : Int)) h0
  have k1 : Kept (fun j => j = w.heap.size) w2 ((w2.setCell ⟨w.heap.size, 0, none⟩ (.int .i64 (tree : Int))).setCell ⟨w.heap.size, 1, none⟩ (.int .i64 (n : Int))) := (Kept.setCell (S := fun j => j = w.heap.size) w2 ⟨w.heap.size, 0, none⟩ _ rfl).trans (Kept.setCell (S := fun j => j = w.heap.size) _ ⟨w.heap.size, 1, none⟩ _ rfl) (fun _ h => .inl h)
  refine bodyPost_ret (v := .agg #[.int .i64 (tree : Int), .int .i64 (n : Int)]) (results_cell_row Tryz.results74 _ _ w.heap.size 145 _ (0, 0) _ rfl h1 Tryz.underlying145 rfl (by kernel_rfl)) rfl ⟨rfl, w1, (HK0.out.mono (fun _ hf => hf.elim)).trans HK1.out (fun _ h => .inl h), HR.out, ?_⟩
  exact (((HKA.out.trans HK2.out (fun _ h => .inl h)).mono (fun _ hf => hf.elim)).trans k1 (fun j hj => .inl (by omega)))

/-- The root of a disk. -/
theorem rootd_any (w : World) (bd : Nat) (S : Nat → Prop) (D : Dk) (h : Disk w bd S D) (hr0 : 0 ≤ D.reads) (hr1 : D.reads ≤ 4611686018427387904) (tree n : Nat) (hb : IsRoot (D.look 1) tree n) :
    Calls Tryz.prog 74 #[.iface 29 (.pointer (some ⟨bd, 0, none⟩))] w fun e w' => e = .returned (.agg #[.int .i64 (tree : Int), .int .i64 (n : Int)]) ∧ Disk w' bd S { D with reads := D.reads + 1 } ∧ Kept (fun i => i = bd) w w' := by
  have hS := h.lt
  have hbd : bd < w.heap.size := hS bd h.bdS
  refine (readRoot_any w 29 81 ⟨bd, 0, none⟩ (isRd_disk _) (fun i => i = bd) (fun w1 => w.heap.size ≤ w1.heap.size ∧ Disk w1 bd S { D with reads := D.reads + 1 }) tree n _ hb (fun w0 hk0 => ?_) (fun i hi => by rw [hi]; exact hbd)).mono ?_
  · refine (read_any w0 bd S D (h.kept hk0 (fun _ _ hf => hf)) 1 (by constructor <;> omega) hr0 hr1).mono ?_
    rintro e w1 ⟨rfl, h1, h2⟩
    exact ⟨rfl, h2, Nat.le_trans hk0.size h2.size, h1⟩
  · rintro e w' ⟨rfl, w1, h1, ⟨hz, h2⟩, h3⟩
    refine ⟨rfl, h2.kept h3 (fun i hi hc => ?_), h1.trans h3 (fun j hj => .inr hj)⟩
    have := hS i hi; omega
/-- The root as a change will have it. -/
theorem rootc_any (w : World) (bc bd : Nat) (S T : Nat → Prop) (D : Dk) (C : Ck) (h : Cw w bc bd S T D C) (hr0 : 0 ≤ D.reads) (hr1 : D.reads ≤ 4611686018427387904) (tree n : Nat) (hb : IsRoot (C.look D 1) tree n) :
    Calls Tryz.prog 74 #[.iface 142 (.pointer (some ⟨bc, 0, none⟩))] w fun e w' => e = .returned (.agg #[.int .i64 (tree : Int), .int .i64 (n : Int)]) ∧ (∃ k : Int, 0 ≤ k ∧ k ≤ 1 ∧ Cw w' bc bd S T { D with reads := D.reads + k } C) ∧ Kept (fun i => i = bd) w w' := by
  have hS := h.disk.lt
  have hT := h.chg.lt
  have hbd : bd < w.heap.size := hS bd h.disk.bdS
  refine (readRoot_any w 142 192 ⟨bc, 0, none⟩ (isRd_chg _) (fun i => i = bd) (fun w1 => w.heap.size ≤ w1.heap.size ∧ ∃ k : Int, 0 ≤ k ∧ k ≤ 1 ∧ Cw w1 bc bd S T { D with reads := D.reads + k } C) tree n _ hb (fun w0 hk0 => ?_) (fun i hi => by rw [hi]; exact hbd)).mono ?_
  · refine (cread_any w0 bc bd S T D C (h.kept0 hk0) 1 (by constructor <;> omega) hr0 hr1).mono ?_
    rintro e w1 ⟨rfl, h1, h2⟩
    exact ⟨rfl, h2, Nat.le_trans hk0.size h2.size, h1⟩
  · rintro e w' ⟨rfl, w1, h1, ⟨hz, k, h2, h3, h4⟩, h5⟩
    refine ⟨rfl, ⟨k, h2, h3, h4.kept h5 (fun i hi hc => ?_) (fun i hi hc => ?_)⟩, h1.trans h5 (fun j hj => .inr hj)⟩
    · have := hS i hi; omega
    · have := hT i hi; omega
end Go.Proofs.YtcoengihaobddaaGreatDoor.prog
namespace Go.Proofs.YtcoengihaobddaaGreatDoor.prog
set_option linter.unusedVariables false
open Go.Proofs.YtcoengihaobddaaGreatDoor.ref

/-- The versions from a place on. -/
def onE (p : Pl) (l : List En) : List En := l.filter fun x => !x.pl.lt p
theorem onE_append (p : Pl) (A B : List En) : onE p (A ++ B) = onE p A ++ onE p B := by simp [onE]
theorem onE_none {p : Pl} {l : List En} (h : ∀ x ∈ l, x.pl.lt p = true) : onE p l = [] := List.filter_eq_nil_iff.2 (fun x hx => by rw [h x hx]; simp)
theorem onE_all {p : Pl} {l : List En} (h : ∀ x ∈ l, x.pl.lt p = false) : onE p l = l := List.filter_eq_self.2 (fun x hx => by rw [h x hx]; rfl)
theorem onE_drop {l : List En} (h : Srt l) (p : Pl) : l.drop (fromI l p) = onE p l := (h.cut p).2
theorem not_lt_of_lt {a b : Pl} (h : a.lt b = true) : b.lt a = false := by
  cases h2 : b.lt a with
  | false => rfl
  | true => exact absurd h2 (Pl.asymm h)

/-- Among children: where the walk begins, all ahead of it is ahead of the place; all behind its first child is behind it. -/
theorem Kids.walk {h : Nat} {cs : List (Pl × Tr h)} (k : Kids cs) (hn : cs ≠ []) (p : Pl) (c : Nat) (hc : c = childI (cs.map fun c => (⟨c.1, false, 0, c.2.blk⟩ : En)) p) :
    onE p (flatE cs) = onE p (flatE (cs.drop c)) ∧ ∃ q t B, cs.drop c = (q, t) :: B ∧ (q, t) ∈ cs ∧ ∀ b ∈ B, b ∈ cs ∧ ∀ x ∈ b.2.ents, x.pl.lt p = false := by
  obtain ⟨A, q, t, B, rfl, hA, hq, hB⟩ := k.child hn p
  obtain ⟨m1, m2, m3, m4, m5, m6, m7⟩ := k.mid
  rw [← hc] at hA
  have hd : (A ++ (q, t) :: B).drop c = (q, t) :: B := by rw [← hA]; exact List.drop_left
  refine ⟨?_, q, t, B, hd, by simp, fun b hb => ⟨by simp [hb], fun x hx => ?_⟩⟩
  · rw [hd, flatE_append, onE_append]
    have : onE p (flatE A) = [] := onE_none (fun x hx => by
      have hA0 : A ≠ [] := fun e => by rw [e] at hx; simp [flatE] at hx
      exact Pl.lt_of_lt_not (m3 x hx) (hq hA0))
    rw [this, List.nil_append]
  · cases h2 : x.pl.lt p with
    | false => rfl
    | true => exact absurd (Pl.trans h2 (hB b hb)) (m7 b hb x hx)

/-- How many are read till the first is told, of several, each with its own count and whether it tells none. -/
def fyL : List (Nat × Bool) → Nat
  | [] => 0
  | x :: l => x.1 + if x.2 then fyL l else 0
def Tr.fy (p : Pl) : {h : Nat} → Tr h → Nat
  | 0, _ => 1
  | h + 1, t => 1 + fyL ((t.2.drop (childI (Tr.items (h := h + 1) t) p)).map fun c => (Tr.fy p (h := h) c.2, (onE p c.2.ents).isEmpty))
theorem fyL_cons (n : Nat) (b : Bool) (l : List (Nat × Bool)) : fyL ((n, b) :: l) = n + if b then fyL l else 0 := rfl
theorem Tr.fy_succ {h : Nat} (p : Pl) (t : Tr (h + 1)) : t.fy p = 1 + fyL ((t.2.drop (childI t.items p)).map fun c => (c.2.fy p, (onE p c.2.ents).isEmpty)) := rfl
theorem isEmpty_no {l : List En} {x : En} (h : x ∈ l) : l.isEmpty = false := by cases l with
  | nil => cases h
  | cons a l => rfl
/-- Where all is behind the place: as many as there are levels; where none is, too; else at most twice as many. -/
theorem Tr.Good.fy_all : ∀ {h : Nat} {t : Tr h} (p : Pl), t.Good → 1 ≤ t.items.length → (∀ x ∈ t.ents, x.pl.lt p = false) → t.fy p ≤ h + 1
  | 0, t, p, _, _, _ => Nat.le_refl 1
  | h + 1, t, p, g, hl, ha => by
    rw [items_len] at hl
    obtain ⟨_, q, u, B, hd, hm, hB⟩ := g.kids.walk (fun e => by rw [e] at hl; simp at hl) p _ rfl
    have hg : u.Good := (g.kids.good _ hm).1
    have h3 : 3 ≤ u.items.length := g.full _ hm
    have hau : ∀ x ∈ u.ents, x.pl.lt p = false := fun x hx => ha x (flatE_mem hm hx)
    obtain ⟨x, hx⟩ := hg.some_ent (by omega)
    have := hg.fy_all p (by omega) hau
    rw [Tr.fy_succ]
    show 1 + fyL (((t.2.drop (childI (t.2.map fun c => (⟨c.1, false, 0, c.2.blk⟩ : En)) p))).map _) ≤ _
    rw [hd, List.map_cons, fyL_cons, if_neg (by rw [onE_all hau, isEmpty_no hx]; simp)]
    show 1 + (u.fy p + 0) ≤ _
    omega
theorem Tr.Good.fy_none : ∀ {h : Nat} {t : Tr h} (p : Pl), t.Good → 1 ≤ t.items.length → onE p t.ents = [] → t.fy p ≤ h + 1
  | 0, t, p, _, _, _ => Nat.le_refl 1
  | h + 1, t, p, g, hl, ha => by
    rw [items_len] at hl
    obtain ⟨h0, q, u, B, hd, hm, hB⟩ := g.kids.walk (fun e => by rw [e] at hl; simp at hl) p _ rfl
    rw [Tr.ents_succ, h0, hd, flatE_cons, onE_append, List.append_eq_nil_iff] at ha
    have hg : u.Good := (g.kids.good _ hm).1
    have h3 : 3 ≤ u.items.length := g.full _ hm
    have := hg.fy_none p (by omega) ha.1
    have hB0 : B = [] := by
      cases B with
      | nil => rfl
      | cons b B =>
        obtain ⟨hb1, hb2⟩ := hB b (List.mem_cons_self ..)
        have h4 := g.full _ hb1
        obtain ⟨x, hx⟩ := (g.kids.good _ hb1).1.some_ent (by omega)
        have h5 : onE p (flatE (b :: B)) = [] := ha.2
        rw [flatE_cons, onE_append, List.append_eq_nil_iff, onE_all hb2] at h5
        rw [h5.1] at hx; cases hx
    rw [Tr.fy_succ]
    show 1 + fyL (((t.2.drop (childI (t.2.map fun c => (⟨c.1, false, 0, c.2.blk⟩ : En)) p))).map _) ≤ _
    rw [hd, hB0, List.map_cons, fyL_cons, List.map_nil]
    simp only [fyL]
    split <;> omega
theorem Tr.Good.fy_le : ∀ {h : Nat} {t : Tr h} (p : Pl), t.Good → 1 ≤ t.items.length → t.fy p ≤ 2 * h + 1
  | 0, t, p, _, _ => Nat.le_refl 1
  | h + 1, t, p, g, hl => by
    rw [items_len] at hl
    obtain ⟨h0, q, u, B, hd, hm, hB⟩ := g.kids.walk (fun e => by rw [e] at hl; simp at hl) p _ rfl
    have hg : u.Good := (g.kids.good _ hm).1
    have h3 : 3 ≤ u.items.length := g.full _ hm
    have h1 : u.fy p ≤ 2 * h + 1 := hg.fy_le p (by omega)
    rw [Tr.fy_succ]
    show 1 + fyL (((t.2.drop (childI (t.2.map fun c => (⟨c.1, false, 0, c.2.blk⟩ : En)) p))).map _) ≤ _
    rw [hd, List.map_cons, fyL_cons]
    cases he : (onE p u.ents).isEmpty with
    | false => simp; omega
    | true =>
      have h2 : u.fy p ≤ h + 1 := hg.fy_none p (by omega) (List.isEmpty_iff.1 he)
      rw [if_pos rfl]
      cases B with
      | nil => simp [fyL]; omega
      | cons b B =>
        obtain ⟨hb1, hb2⟩ := hB b (List.mem_cons_self ..)
        have h4 := g.full _ hb1
        have hgb := (g.kids.good _ hb1).1
        obtain ⟨x, hx⟩ := hgb.some_ent (by omega)
        have h5 := hgb.fy_all p (by omega) hb2
        rw [List.map_cons, fyL_cons, if_neg (by rw [onE_all hb2, isEmpty_no hx]; simp)]
        show 1 + (u.fy p + (b.2.fy p + 0)) ≤ _
        omega
end Go.Proofs.YtcoengihaobddaaGreatDoor.prog

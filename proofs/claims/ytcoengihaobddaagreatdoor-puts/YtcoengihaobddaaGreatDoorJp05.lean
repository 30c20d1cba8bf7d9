/- Part 5 of 39 of a proof: Ref2, Ref3, Ref3b -/
import Derived.Test.YtcoengihaobddaaGreatDoorJp03
namespace Go.Proofs.YtcoengihaobddaaGreatDoor.ref
open Go.ChangeShapes Go.WideShapes Go.ChangeAt Go.RowKit Go.Proofs.YtcoengihaobddaaGreatDoor.disk
open Go.Proofs.YtcoengihaobddaaGreatDoor.keys (ret_int ret_bool beq_no beq_yes)
set_option linter.unusedVariables false

/-- What stands where the newest version of a key stands. -/
theorem NewAt.whole {vs : List Ver} {key : ByteArray} {t : Value} (h : NewAt vs key vs.length t) :
    (t = .int .i64 (-1) ∧ newestV vs key = none) ∨ ∃ (m : Nat) (h : m < vs.length), t = .int .i64 (m : Int) ∧ newestV vs key = some vs[m] := by
  unfold NewAt at h
  rw [List.take_length] at h
  rcases h with h | ⟨m, h1, _, h2, h3⟩
  · exact .inl h
  · exact .inr ⟨m, h1, h2, h3⟩

/-- Has the key no versions, or is its newest one a marker? -/
def bareB (vs : List Ver) (key : ByteArray) : Bool := match newestV vs key with
  | none => true
  | some v => v.mark

set_option maxHeartbeats 400000 in
theorem bare_any (w : World) (F G : Nat → Prop) (b : Nat) (vs : List Ver) (last : Int) (h : RefAt w F G b vs last) (hlen : vs.length ≤ 9223372036854775807) (key : ByteArray) :
    Calls Tryz.prog 152 #[.pointer (some ⟨b, 0, none⟩), .string key] w fun e w' => e = .returned (.bool (bareB vs key)) ∧ ∃ n, w' = w.drewN n := by
  have HH : Hid _ := h
  obtain ⟨a, cap, cs, h⟩ := h
  have HI : Hid _ := h
  clear h
  go_enter Tryz.func152, Tryz.ntmps152
  go_wp2_with fail
  refine (newest_any _ F G b vs last HH.out hlen key).mono ?_
  rintro e w1 ⟨⟨i, rfl, hi⟩, n, rfl⟩
  rcases hi.whole with ⟨rfl, hv⟩ | ⟨m, hm, rfl, hv⟩
  · have HV : Hid _ := hv
    clear hv hi
    go_wp2
    go_ret
    exact ⟨ret_bool (by simp [bareB, HV.out]), _, rfl⟩
  · have HV : Hid _ := hv
    clear hv hi
    obtain ⟨g, rfl⟩ := HI.out.rowAt (by omega)
    have hc0 := HI.out.c0
    obtain ⟨_, _, h2, _⟩ := HI.out.cells m hm
    have hm0 : decide ((m : Int) < 0) = false := decide_eq_false (by omega)
    go_wp2
    go_ret
    exact ⟨ret_bool (by simp [bareB, HV.out]), _, rfl⟩

theorem weight_any (w : World) (n : Int) (h0 : 0 ≤ n) (h1 : n ≤ 4611686018427387904) :
    Calls Tryz.prog 98 #[.int .i64 n] w fun e w' => e = .returned (.int .i64 (weigh n.toNat)) ∧ w' = w := by
  go_enter Tryz.func98, Tryz.ntmps98
  go_wp2
  go_ret
  exact ⟨ret_int (by unfold weigh; omega), rfl⟩

theorem weight_snoc (vs : List Ver) (k : Nat) (h : k < vs.length) : weight (vs.take (k + 1)) = weight (vs.take k) + weigh vs[k].body.length := by
  unfold weight; rw [List.take_succ_eq_append_getElem h, List.map_append, List.sum_append]; simp
theorem weight_le {vs : List Ver} (h : ∀ v ∈ vs, v.body.length ≤ 1000) : weight vs ≤ 12 * vs.length := by
  unfold weight
  induction vs with
  | nil => simp
  | cons v l ih =>
    have h1 := ih (fun u hu => h u (List.mem_cons_of_mem _ hu))
    have h2 := h v (List.mem_cons_self ..)
    simp only [List.map_cons, List.sum_cons, List.length_cons]
    have : weigh v.body.length ≤ 12 := by unfold weigh; omega
    omega
/-- Must there be room for some versions, and one more of a weight? -/
def fitsB (vs : List Ver) (more : Nat) (blocks : Int) : Bool := decide (2 * ((more : Int) + weight vs) + 24 ≤ blocks)

set_option maxHeartbeats 400000 in
theorem fits_any (w : World) (F G : Nat → Prop) (b : Nat) (vs : List Ver) (last : Int) (h : RefAt w F G b vs last) (hlen : vs.length ≤ 4398046511104) (hb : ∀ v ∈ vs, v.body.length ≤ 1000) (more : Int) (hm0 : 0 ≤ more) (hm1 : more ≤ 1125899906842624) (blocks : Int) :
    Calls Tryz.prog 151 #[.pointer (some ⟨b, 0, none⟩), .int .i64 more, .int .i64 blocks] w fun e w' => e = .returned (.bool (fitsB vs more.toNat blocks)) ∧ w' = w := by
  obtain ⟨a, cap, cs, h⟩ := h
  have hc0 := h.c0
  have HH : Hid _ := h
  have HB : Hid _ := hb
  clear h hb
  go_enter Tryz.func151, Tryz.ntmps151
  go_wp2
  go_loop [7, 8] (fun t i => ∃ k : Nat, k ≤ vs.length ∧ i = .int .i64 k ∧ t = .int .i64 (more + (weight (vs.take k) : Nat))) (fun _ i => vs.length - (intOf i).toNat)
  case atStart => exact ⟨0, Nat.zero_le _, rfl, by simp [weight]⟩
  case round =>
    obtain ⟨k, hk, rfl, rfl⟩ := hrel
    have hwl := weight_le (vs := vs.take k) (fun v hv => HB.out v (List.mem_of_mem_take hv))
    have htl : (vs.take k).length ≤ vs.length := by rw [List.length_take]; omega
    generalize hW : weight (vs.take k) = W at *
    have HW : Hid _ := hW
    clear hW
    have hW2 : W ≤ 52776558133248 := by omega
    clear hwl htl
    by_cases hlt : k < vs.length
    · have HS : Hid _ := weight_snoc vs k hlt
      obtain ⟨g, rfl⟩ := HH.out.rowAt (by omega)
      obtain ⟨_, _, _, a', cap', h3, _⟩ := HH.out.cells k hlt
      have hb1 := HB.out vs[k] (List.getElem_mem hlt)
      have hwv : weigh vs[k].body.length ≤ 12 := by unfold weigh; omega
      go_wp2_with (go_at_call 98; refine (weight_any _ _ (by omega) (by omega)).mono ?_; rintro e w' ⟨rfl, rfl⟩)
      go_round
      case rel => exact ⟨k + 1, by omega, by go_num, by rw [HS.out, HW.out]; go_num⟩
      case measure => simp [intOf]; omega
    · have he : weight vs = W := by
        have e : vs.take k = vs := List.take_of_length_le (by omega)
        rw [← HW.out, e]
      have HE : Hid _ := he
      clear he
      go_wp2
      go_ret
      exact ⟨ret_bool (by unfold fitsB; rw [HE.out]; congr 1; apply propext; omega), rfl⟩

theorem less_step (A B : List UInt8) (k : Nat) (ha : k < A.length) (hb : k < B.length) : lessL (A.drop k) (B.drop k) = if A[k] = B[k] then lessL (A.drop (k + 1)) (B.drop (k + 1)) else decide (A[k] < B[k]) := by
  rw [List.drop_eq_getElem_cons ha, List.drop_eq_getElem_cons hb]; rfl
theorem less_end (A B : List UInt8) (k : Nat) (h : A.length ≤ k ∨ B.length ≤ k) (h1 : k ≤ A.length) (h2 : k ≤ B.length) : lessL (A.drop k) (B.drop k) = decide (A.length < B.length) := by
  by_cases ha : A.length ≤ k
  · rw [List.drop_of_length_le ha]
    by_cases hb : B.length ≤ k
    · rw [List.drop_of_length_le hb, decide_eq_false (by omega)]; rfl
    · rw [List.drop_eq_getElem_cons (by omega), decide_eq_true (by omega)]; rfl
  · have hb : B.length ≤ k := h.resolve_left ha
    rw [List.drop_eq_getElem_cons (i := k) (l := A) (by omega), List.drop_of_length_le hb, decide_eq_false (by omega)]; rfl
theorem less_bytes (a b : ByteArray) (k : Nat) (ha : k < a.size) (hb : k < b.size) (r : Bool) (h : lessL (a.data.toList.drop k) (b.data.toList.drop k) = r) :
    ((a[k].toNat : Int) = b[k].toNat → lessL (a.data.toList.drop (k + 1)) (b.data.toList.drop (k + 1)) = r) ∧ (¬ (a[k].toNat : Int) = b[k].toNat → decide ((a[k].toNat : Int) < b[k].toNat) = r) := by
  rw [less_step a.data.toList b.data.toList k (by simpa using ha) (by simpa using hb)] at h
  have e1 : a.data.toList[k]'(by simpa using ha) = a[k] := rfl
  have e2 : b.data.toList[k]'(by simpa using hb) = b[k] := rfl
  rw [e1, e2] at h
  constructor
  · intro e
    rw [if_pos (UInt8.toNat_inj.1 (by omega))] at h; exact h
  · intro e
    rw [if_neg (fun e2 => e (by rw [e2]))] at h
    rw [← h]; congr 1; apply propext; rw [UInt8.lt_iff_toNat_lt]; omega

set_option maxHeartbeats 400000 in
theorem less_any (w : World) (a b : ByteArray) (ha : a.size ≤ 9223372036854775807) (hb : b.size ≤ 9223372036854775807) :
    Calls Tryz.prog 189 #[.string a, .string b] w fun e w' => e = .returned (.bool (lessB a b)) ∧ ∃ n, w' = w.drewN n := by
  go_enter Tryz.func189, Tryz.ntmps189
  go_wp2
  go_loopw [5] (fun i wr => ∃ k : Nat, k ≤ a.size ∧ k ≤ b.size ∧ i = .int .i64 k ∧ lessL (a.data.toList.drop k) (b.data.toList.drop k) = lessB a b ∧ ∃ n, wr = w.drewN n) (fun i _ => a.size - (intOf i).toNat)
  case atStart => exact ⟨0, Nat.zero_le _, Nat.zero_le _, rfl, rfl, 0, rfl⟩
  case round =>
    obtain ⟨k, hk1, hk2, rfl, hl, n, rfl⟩ := hrel
    have HL : Hid _ := hl
    clear hl
    by_cases h1 : k < a.size
    · by_cases h2 : k < b.size
      · have HS : Hid _ := less_bytes a b k h1 h2 _ HL.out
        by_cases e : (a[k].toNat : Int) = b[k].toNat
        · have e2 : ((a[k].toNat : Int) != b[k].toNat) = false := by simpa using e
          have HE : Hid _ := e
          clear e
          go_wp2
          go_quiet (fail)
          go_wp2
          go_roundw
          case rel => exact ⟨k + 1, by omega, by omega, by go_num, HS.out.1 HE.out, _, rfl⟩
          case measure => simp [intOf]; omega
        · have e2 : ((a[k].toNat : Int) != b[k].toNat) = true := by simpa using e
          have HE : Hid _ := e
          clear e
          go_wp2
          go_quiet (fail)
          go_wp2
          go_quiet (fail)
          go_wp2
          go_ret
          exact ⟨ret_bool (by rw [← HS.out.2 HE.out]; congr 1; apply propext; omega), _, by rw [World.drewN_drewN, World.drewN_drewN]⟩
      · go_wp2
        go_ret
        exact ⟨ret_bool (by rw [← HL.out, less_end _ _ k (by simp; omega) (by simpa using hk1) (by simpa using hk2)]; simp), _, rfl⟩
    · have h3 : decide ((k : Int) < a.size) = false := decide_eq_false (by omega)
      go_wp2
      go_ret
      exact ⟨ret_bool (by rw [← HL.out, less_end _ _ k (by simp; omega) (by simpa using hk1) (by simpa using hk2)]; simp), _, rfl⟩

theorem prefix_eq (a b : ByteArray) (h : b.size ≤ a.size) : ((a.extract 0 b.size).toList == b.toList) = b.data.toList.isPrefixOf a.data.toList := by
  rw [ByteArray.toList_eq, ByteArray.toList_eq, ByteArray.data_extract, Array.toList_extract, Bool.eq_iff_iff, beq_iff_eq, List.isPrefixOf_iff_prefix, List.prefix_iff_eq_take]
  simp [eq_comm]
theorem prefix_long (a b : ByteArray) (h : a.size < b.size) : b.data.toList.isPrefixOf a.data.toList = false := by
  rw [Bool.eq_false_iff]; intro h2
  have := (List.isPrefixOf_iff_prefix.1 h2).length_le
  simp at this; have e1 : a.data.size = a.size := rfl; have e2 : b.data.size = b.size := rfl; omega

set_option maxHeartbeats 400000 in
theorem begins_any (w : World) (a b : ByteArray) (ha : a.size ≤ 9223372036854775807) (hb : b.size ≤ 9223372036854775807) :
    Calls Tryz.prog 188 #[.string a, .string b] w fun e w' => e = .returned (.bool (b.data.toList.isPrefixOf a.data.toList)) ∧ w' = w := by
  by_cases h : b.size ≤ a.size
  · go_enter Tryz.func188, Tryz.ntmps188
    go_wp2
    go_ret
    exact ⟨ret_bool (prefix_eq a b h), rfl⟩
  · go_enter Tryz.func188, Tryz.ntmps188
    go_wp2
    go_ret
    exact ⟨ret_bool (prefix_long a b (by omega)).symm, rfl⟩
end Go.Proofs.YtcoengihaobddaaGreatDoor.ref
namespace Go.Proofs.YtcoengihaobddaaGreatDoor.ref
open Go.ChangeShapes Go.WideShapes Go.ChangeAt Go.RowKit Go.Proofs.YtcoengihaobddaaGreatDoor.disk
open Go.Proofs.YtcoengihaobddaaGreatDoor.keys (ret_int ret_bool beq_no beq_yes keyB ref_any codeB)
set_option linter.unusedVariables false

theorem key_is (s : ByteArray) (w : World) (hs : s.size ≤ maxLen) {k : Bool} (h : keyB s.data.toList = k) :
    Calls Tryz.prog 90 #[.string s] w fun e w' => e = .returned (.int .i64 (codeB k)) ∧ w' = w := by
  rw [← h]; exact ref_any s w hs

def putE : Bool → Nat → Int
  | false, _ => 2
  | true, n => if 300 < n then 3 else 0
def delE : Bool → Bool → Int
  | false, _ => 2
  | true, true => 5
  | true, false => 0

set_option maxHeartbeats 400000 in
theorem putError_any (w : World) (s : ByteArray) (hs : s.size ≤ maxLen) (a : Option Addr) (n cap : Nat) :
    Calls Tryz.prog 93 #[.string s, .slice a n cap] w fun e w' => e = .returned (.int .i64 (putE (keyB s.data.toList) n)) ∧ w' = w := by
  cases hk : keyB s.data.toList
  · have HK : Hid _ := hk
    clear hk
    go_enter Tryz.func93, Tryz.ntmps93
    go_wp2_with (go_at_call 90; refine (key_is _ _ hs HK.out).mono ?_; rintro e w' ⟨rfl, rfl⟩; unfold codeB)
    go_ret
    exact ⟨rfl, rfl⟩
  · have HK : Hid _ := hk
    clear hk
    by_cases hn : 300 < n
    · go_enter Tryz.func93, Tryz.ntmps93
      go_wp2_with (go_at_call 90; refine (key_is _ _ hs HK.out).mono ?_; rintro e w' ⟨rfl, rfl⟩; unfold codeB)
      go_ret
      exact ⟨ret_int (if_pos hn).symm, rfl⟩
    · go_enter Tryz.func93, Tryz.ntmps93
      go_wp2_with (go_at_call 90; refine (key_is _ _ hs HK.out).mono ?_; rintro e w' ⟨rfl, rfl⟩; unfold codeB)
      go_ret
      exact ⟨ret_int (if_neg hn).symm, rfl⟩

set_option maxHeartbeats 400000 in
theorem deleteError_any (w : World) (F G : Nat → Prop) (b : Nat) (vs : List Ver) (last : Int) (h : RefAt w F G b vs last) (hlen : vs.length ≤ 9223372036854775807) (s : ByteArray) (hs : s.size ≤ maxLen) :
    Calls Tryz.prog 100 #[.pointer (some ⟨b, 0, none⟩), .string s] w fun e w' => e = .returned (.int .i64 (delE (keyB s.data.toList) (bareB vs s))) ∧ ∃ n, w' = w.drewN n := by
  have HH : Hid _ := h
  clear h
  cases hk : keyB s.data.toList
  · have HK : Hid _ := hk
    clear hk
    go_enter Tryz.func100, Tryz.ntmps100
    go_wp2_with (go_at_call 90; refine (key_is _ _ hs HK.out).mono ?_; rintro e w' ⟨rfl, rfl⟩; unfold codeB)
    go_ret
    exact ⟨rfl, 0, rfl⟩
  · have HK : Hid _ := hk
    clear hk
    cases hb : bareB vs s
    all_goals
      have HB : Hid _ := hb
      clear hb
      go_enter Tryz.func100, Tryz.ntmps100
      go_wp2_with (first
        | (go_at_call 90; refine (key_is _ _ hs HK.out).mono ?_; rintro e w' ⟨rfl, rfl⟩; unfold codeB)
        | (go_at_call 152; refine (bare_any _ F G b vs last HH.out hlen s).mono ?_; rintro e w' ⟨rfl, n, rfl⟩; rw [HB.out]))
      go_ret
      exact ⟨rfl, _, rfl⟩

def eraE : Bool → Option Ver → Int
  | false, _ => 2
  | true, none => 5
  | true, some _ => 0

set_option maxHeartbeats 400000 in
theorem eraseError_any (w : World) (F G : Nat → Prop) (b : Nat) (vs : List Ver) (last : Int) (h : RefAt w F G b vs last) (hlen : vs.length ≤ 9223372036854775807) (s : ByteArray) (hs : s.size ≤ maxLen) (n : Int) :
    Calls Tryz.prog 101 #[.pointer (some ⟨b, 0, none⟩), .string s, .int .i64 n] w fun e w' => e = .returned (.int .i64 (eraE (keyB s.data.toList) (findV vs s n))) ∧ w' = w := by
  have HH : Hid _ := h
  clear h
  cases hk : keyB s.data.toList
  · have HK : Hid _ := hk
    clear hk
    go_enter Tryz.func101, Tryz.ntmps101
    go_wp2_with (go_at_call 90; refine (key_is _ _ hs HK.out).mono ?_; rintro e w' ⟨rfl, rfl⟩; unfold codeB)
    go_ret
    exact ⟨rfl, rfl⟩
  · have HK : Hid _ := hk
    clear hk
    rcases findI_spec vs s n with ⟨h1, h2⟩ | ⟨i, hi, h1, h2⟩
    · rw [h2]
      have H1 : Hid _ := h1
      clear h1 h2
      go_enter Tryz.func101, Tryz.ntmps101
      go_wp2_with (first
        | (go_at_call 90; refine (key_is _ _ hs HK.out).mono ?_; rintro e w' ⟨rfl, rfl⟩; unfold codeB)
        | (go_at_call 153; refine (find_any _ F G b vs last HH.out hlen s n).mono ?_; rintro e w' ⟨rfl, rfl⟩; rw [H1.out]))
      go_ret
      exact ⟨rfl, rfl⟩
    · rw [h2]
      have H1 : Hid _ := h1
      clear h1 h2
      go_enter Tryz.func101, Tryz.ntmps101
      go_wp2_with (first
        | (go_at_call 90; refine (key_is _ _ hs HK.out).mono ?_; rintro e w' ⟨rfl, rfl⟩; unfold codeB)
        | (go_at_call 153; refine (find_any _ F G b vs last HH.out hlen s n).mono ?_; rintro e w' ⟨rfl, rfl⟩; rw [H1.out]))
      go_ret
      exact ⟨rfl, rfl⟩

/-- What is told of a version that may be: its body, or why there is none. -/
def ansE : Bool → Option Ver → Int
  | false, _ => 2
  | true, none => 5
  | true, some v => cond v.mark 5 0
def BodyIs (w : World) (G : Nat → Prop) (o : Option Ver) (x : Value) (c : Int) : Prop :=
  (c = 0 → ∃ u a cap, o = some u ∧ x = .slice a u.body.length cap ∧ Bytes w G a u.body) ∧ (c ≠ 0 → x = .slice none 0 0)

set_option maxHeartbeats 400000 in
theorem at_any (w : World) (F G : Nat → Prop) (b : Nat) (vs : List Ver) (last : Int) (h : RefAt w F G b vs last) (hlen : vs.length ≤ 9223372036854775807) (s : ByteArray) (hs : s.size ≤ maxLen) (n : Int) :
    Calls Tryz.prog 107 #[.pointer (some ⟨b, 0, none⟩), .string s, .int .i64 n] w fun e w' =>
      (∃ x, e = .returned (.tuple #[x, .int .i64 (ansE (keyB s.data.toList) (findV vs s n))]) ∧ BodyIs w G (findV vs s n) x (ansE (keyB s.data.toList) (findV vs s n))) ∧ w' = w := by
  have HH : Hid _ := h
  obtain ⟨a, cap, cs, h⟩ := h
  have HR : Hid _ := h
  clear h
  cases hk : keyB s.data.toList
  · have HK : Hid _ := hk
    clear hk
    go_enter Tryz.func107, Tryz.ntmps107
    go_wp2_with (go_at_call 90; refine (key_is _ _ hs HK.out).mono ?_; rintro e w' ⟨rfl, rfl⟩; unfold codeB)
    go_ret2
    exact ⟨⟨_, rfl, by simp [BodyIs, ansE]⟩, rfl⟩
  · have HK : Hid _ := hk
    clear hk
    rcases findI_spec vs s n with ⟨h1, h2⟩ | ⟨i, hi, h1, h2⟩
    · rw [h2]
      have H1 : Hid _ := h1
      clear h1 h2
      go_enter Tryz.func107, Tryz.ntmps107
      go_wp2_with (first
        | (go_at_call 90; refine (key_is _ _ hs HK.out).mono ?_; rintro e w' ⟨rfl, rfl⟩; unfold codeB)
        | (go_at_call 153; refine (find_any _ F G b vs last HH.out hlen s n).mono ?_; rintro e w' ⟨rfl, rfl⟩; rw [H1.out]))
      go_ret2
      exact ⟨⟨_, rfl, by simp [BodyIs, ansE]⟩, rfl⟩
    · rw [h2]
      have H1 : Hid _ := h1
      clear h1 h2
      obtain ⟨g, rfl⟩ := HR.out.rowAt (by omega)
      have hc0 := HR.out.c0
      obtain ⟨_, _, h2, a', cap', h3, hb⟩ := HR.out.cells i hi
      have HB : Hid _ := hb
      clear hb
      have hm0 : decide ((i : Int) < 0) = false := decide_eq_false (by omega)
      cases hm : vs[i].mark
      · rw [hm] at h2
        have HM : Hid _ := hm
        clear hm
        go_enter Tryz.func107, Tryz.ntmps107
        go_wp2_with (first
          | (go_at_call 90; refine (key_is _ _ hs HK.out).mono ?_; rintro e w' ⟨rfl, rfl⟩; unfold codeB)
          | (go_at_call 153; refine (find_any _ F G b vs last HH.out hlen s n).mono ?_; rintro e w' ⟨rfl, rfl⟩; rw [H1.out]))
        go_ret2
        exact ⟨⟨.slice a' vs[i].body.length cap', by simp [ansE, HM.out], by simp only [BodyIs, ansE, HM.out, cond_false]; exact ⟨fun _ => ⟨vs[i], a', cap', rfl, rfl, HB.out⟩, fun h => absurd rfl h⟩⟩, rfl⟩
      · rw [hm] at h2
        have HM : Hid _ := hm
        clear hm
        go_enter Tryz.func107, Tryz.ntmps107
        go_wp2_with (first
          | (go_at_call 90; refine (key_is _ _ hs HK.out).mono ?_; rintro e w' ⟨rfl, rfl⟩; unfold codeB)
          | (go_at_call 153; refine (find_any _ F G b vs last HH.out hlen s n).mono ?_; rintro e w' ⟨rfl, rfl⟩; rw [H1.out]))
        go_ret2
        exact ⟨⟨_, by simp [ansE, HM.out]; rfl, by simp [BodyIs, ansE, HM.out]⟩, rfl⟩

set_option maxHeartbeats 400000 in
theorem get_any (w : World) (F G : Nat → Prop) (b : Nat) (vs : List Ver) (last : Int) (h : RefAt w F G b vs last) (hlen : vs.length ≤ 9223372036854775807) (s : ByteArray) (hs : s.size ≤ maxLen) :
    Calls Tryz.prog 103 #[.pointer (some ⟨b, 0, none⟩), .string s] w fun e w' =>
      (∃ x n, e = .returned (.tuple #[x, .int .i64 n, .int .i64 (ansE (keyB s.data.toList) (newestV vs s))]) ∧ BodyIs w G (newestV vs s) x (ansE (keyB s.data.toList) (newestV vs s)) ∧
        (ansE (keyB s.data.toList) (newestV vs s) = 0 → ∀ u, newestV vs s = some u → n = u.num)) ∧ ∃ n, w' = w.drewN n := by
  have HH : Hid _ := h
  obtain ⟨a, cap, cs, h⟩ := h
  have HR : Hid _ := h
  clear h
  cases hk : keyB s.data.toList
  · have HK : Hid _ := hk
    clear hk
    go_enter Tryz.func103, Tryz.ntmps103
    go_wp2_with (go_at_call 90; refine (key_is _ _ hs HK.out).mono ?_; rintro e w' ⟨rfl, rfl⟩; unfold codeB)
    go_ret3
    exact ⟨⟨_, _, rfl, by simp [BodyIs, ansE], by simp [ansE]⟩, 0, rfl⟩
  · have HK : Hid _ := hk
    clear hk
    go_enter Tryz.func103, Tryz.ntmps103
    go_wp2_with (go_at_call 90; refine (key_is _ _ hs HK.out).mono ?_; rintro e w' ⟨rfl, rfl⟩; unfold codeB)
    refine (newest_any _ F G b vs last HH.out hlen s).mono ?_
    rintro e w1 ⟨⟨i, rfl, hi⟩, nn, rfl⟩
    rcases hi.whole with ⟨rfl, hv⟩ | ⟨m, hm, rfl, hv⟩
    · have HV : Hid _ := hv
      clear hv hi
      go_wp2
      go_ret3
      exact ⟨⟨_, _, by rw [HV.out]; rfl, by rw [HV.out]; simp [BodyIs, ansE], by rw [HV.out]; simp⟩, _, rfl⟩
    · have HV : Hid _ := hv
      clear hv hi
      obtain ⟨g, rfl⟩ := HR.out.rowAt (by omega)
      have hc0 := HR.out.c0
      obtain ⟨_, h1, h2, a', cap', h3, hb⟩ := HR.out.cells m hm
      have HB : Hid _ := hb
      clear hb
      have hm0 : decide ((m : Int) < 0) = false := decide_eq_false (by omega)
      cases hmk : vs[m].mark
      · rw [hmk] at h2
        have HM : Hid _ := hmk
        clear hmk
        go_wp2
        go_quiet (fail)
        go_wp2
        go_ret3
        exact ⟨⟨.slice a' vs[m].body.length cap', vs[m].num, by rw [HV.out]; simp [ansE, HM.out], by rw [HV.out]; simp only [BodyIs, ansE, HM.out, cond_false]; exact ⟨fun _ => ⟨vs[m], a', cap', rfl, rfl, HB.out⟩, fun h => absurd rfl h⟩,
          by rw [HV.out]; intro _ u hu; cases hu; rfl⟩, _, by rw [World.drewN_drewN]⟩
      · rw [hmk] at h2
        have HM : Hid _ := hmk
        clear hmk
        go_wp2
        go_ret3
        exact ⟨⟨_, _, by rw [HV.out]; simp [ansE, HM.out]; exact ⟨rfl, rfl⟩, by rw [HV.out]; simp [BodyIs, ansE, HM.out], by rw [HV.out]; simp [ansE, HM.out]⟩, _, rfl⟩

set_option maxHeartbeats 400000 in
theorem ahead_any (w : World) (u v : Ver) (x y : Value) (hx : x.oneCell' = true) (hy : y.oneCell' = true) (hu : u.key.size ≤ 9223372036854775807) (hv : v.key.size ≤ 9223372036854775807) :
    Calls Tryz.prog 157 #[.agg #[.string u.key, .int .i64 u.num, .bool u.mark, x], .agg #[.string v.key, .int .i64 v.num, .bool v.mark, y]] w fun e w' => e = .returned (.bool (u.ahead v)) ∧ Kept (fun _ => False) w w' := by
  cases hl : lessB u.key v.key
  · have HL : Hid _ := hl
    clear hl
    by_cases hk : u.key.toList = v.key.toList
    · have HK : Hid _ := key_inj.1 hk
      go_enter Tryz.func157, Tryz.ntmps157
      go_wp2_with (go_at_call 189; refine (less_any _ u.key v.key hu hv).mono ?_; rintro e w1 ⟨rfl, n, rfl⟩; rw [HL.out])
      go_ret
      exact ⟨ret_bool (by unfold Ver.ahead; rw [HL.out, decide_eq_true HK.out]; simp), ((Kept.alloc _ _ _).trans (Kept.alloc _ _ _) (fun _ h => .inl h)).trans ⟨rfl, rfl, rfl, Nat.le_refl _, fun _ _ _ => rfl⟩ (fun _ h => .inl h)⟩
    · have hk2 : (u.key.toList == v.key.toList) = false := by simpa using hk
      have HK : Hid _ := mt key_inj.2 hk
      go_enter Tryz.func157, Tryz.ntmps157
      go_wp2_with (go_at_call 189; refine (less_any _ u.key v.key hu hv).mono ?_; rintro e w1 ⟨rfl, n, rfl⟩; rw [HL.out])
      go_ret
      exact ⟨ret_bool (by unfold Ver.ahead; rw [HL.out, decide_eq_false HK.out]; simp), ((Kept.alloc _ _ _).trans (Kept.alloc _ _ _) (fun _ h => .inl h)).trans ⟨rfl, rfl, rfl, Nat.le_refl _, fun _ _ _ => rfl⟩ (fun _ h => .inl h)⟩
  · have HL : Hid _ := hl
    clear hl
    go_enter Tryz.func157, Tryz.ntmps157
    go_wp2_with (go_at_call 189; refine (less_any _ u.key v.key hu hv).mono ?_; rintro e w1 ⟨rfl, n, rfl⟩; rw [HL.out])
    go_ret
    exact ⟨ret_bool (by unfold Ver.ahead; rw [HL.out]; simp), ((Kept.alloc _ _ _).trans (Kept.alloc _ _ _) (fun _ h => .inl h)).trans ⟨rfl, rfl, rfl, Nat.le_refl _, fun _ _ _ => rfl⟩ (fun _ h => .inl h)⟩

set_option maxHeartbeats 1000000 in
theorem wanted_any (w : World) (v : Ver) (x : Value) (hx : x.oneCell' = true) (hv : v.key.size ≤ 9223372036854775807) (p k : ByteArray) (hp : p.size ≤ 9223372036854775807) (hk : k.size ≤ 9223372036854775807) (n : Int) :
    Calls Tryz.prog 156 #[.agg #[.string v.key, .int .i64 v.num, .bool v.mark, x], .string p, .string k, .int .i64 n] w fun e w' => e = .returned (.bool (wantedB v p k n)) ∧ Kept (fun _ => False) w w' := by
  have hdone : ∀ nn o, Kept (fun _ => False) w ((w.alloc o).drewN nn) := fun nn o => (Kept.alloc _ _ _).trans ⟨rfl, rfl, rfl, Nat.le_refl _, fun _ _ _ => rfl⟩ (fun _ h => .inl h)
  have HD : Hid _ := hdone
  clear hdone
  cases hb : p.data.toList.isPrefixOf v.key.data.toList
  · have HB : Hid _ := hb
    clear hb
    go_enter Tryz.func156, Tryz.ntmps156
    go_wp2_with (first
      | (go_at_call 188; refine (begins_any _ v.key p hv hp).mono ?_; rintro e w1 ⟨rfl, rfl⟩; rw [HB.out])
      | (go_at_call 189; refine (less_any _ k v.key hk hv).mono ?_; rintro e w1 ⟨rfl, n, rfl⟩; generalize lessB k v.key = lb))
    go_ret
    exact ⟨ret_bool (by unfold wantedB; rw [HB.out]; rfl), HD.out _ _⟩
  · have HB : Hid _ := hb
    clear hb
    by_cases he : k.toList = []
    · have HE : Hid (k = ByteArray.empty) := by show k = ByteArray.empty; exact key_inj.1 (by rw [he, ByteArray.toList_eq]; rfl)
      go_enter Tryz.func156, Tryz.ntmps156
      go_wp2_with (first
        | (go_at_call 188; refine (begins_any _ v.key p hv hp).mono ?_; rintro e w1 ⟨rfl, rfl⟩; rw [HB.out])
        | (go_at_call 189; refine (less_any _ k v.key hk hv).mono ?_; rintro e w1 ⟨rfl, n, rfl⟩; generalize lessB k v.key = lb))
      go_ret
      exact ⟨ret_bool (by unfold wantedB; rw [HB.out, decide_eq_true HE.out]; rfl), HD.out _ _⟩
    · have HE : Hid (¬ k = ByteArray.empty) := by show ¬ k = ByteArray.empty; exact fun e => he (by rw [e, ByteArray.toList_eq]; rfl)
      cases hl : lessB k v.key
      · have HL : Hid _ := hl
        clear hl
        by_cases hkk : v.key.toList = k.toList
        · have HK : Hid _ := key_inj.1 hkk
          go_enter Tryz.func156, Tryz.ntmps156
          go_wp2_with (first
            | (go_at_call 188; refine (begins_any _ v.key p hv hp).mono ?_; rintro e w1 ⟨rfl, rfl⟩; rw [HB.out])
            | (go_at_call 189; refine (less_any _ k v.key hk hv).mono ?_; rintro e w1 ⟨rfl, n, rfl⟩; rw [HL.out]))
          go_ret
          exact ⟨ret_bool (by unfold wantedB; rw [HB.out, HL.out, decide_eq_false HE.out, decide_eq_true HK.out]; simp [he]), HD.out _ _⟩
        · have hk2 : (v.key.toList == k.toList) = false := by simpa using hkk
          have HK : Hid _ := mt key_inj.2 hkk
          go_enter Tryz.func156, Tryz.ntmps156
          go_wp2_with (first
            | (go_at_call 188; refine (begins_any _ v.key p hv hp).mono ?_; rintro e w1 ⟨rfl, rfl⟩; rw [HB.out])
            | (go_at_call 189; refine (less_any _ k v.key hk hv).mono ?_; rintro e w1 ⟨rfl, n, rfl⟩; rw [HL.out]))
          go_ret
          exact ⟨ret_bool (by unfold wantedB; rw [HB.out, HL.out, decide_eq_false HE.out, decide_eq_false HK.out]; simp [he]), HD.out _ _⟩
      · have HL : Hid _ := hl
        clear hl
        go_enter Tryz.func156, Tryz.ntmps156
        go_wp2_with (first
          | (go_at_call 188; refine (begins_any _ v.key p hv hp).mono ?_; rintro e w1 ⟨rfl, rfl⟩; rw [HB.out])
          | (go_at_call 189; refine (less_any _ k v.key hk hv).mono ?_; rintro e w1 ⟨rfl, n, rfl⟩; rw [HL.out]))
        go_ret
        exact ⟨ret_bool (by unfold wantedB; rw [HB.out, HL.out]; simp), HD.out _ _⟩

end Go.Proofs.YtcoengihaobddaaGreatDoor.ref
namespace Go.Proofs.YtcoengihaobddaaGreatDoor.ref
open Go.ChangeShapes Go.WideShapes Go.ChangeAt Go.RowKit Go.Proofs.YtcoengihaobddaaGreatDoor.disk
open Go.Proofs.YtcoengihaobddaaGreatDoor.keys (ret_int ret_bool beq_no beq_yes keyB ref_any codeB)
set_option linter.unusedVariables false

/-- What List answers in the place of OK, at once. -/
def listE (p k : ByteArray) (n m : Int) : Int :=
  if (p ≠ ByteArray.empty ∧ keyB p.data.toList = false) ∨ (k ≠ ByteArray.empty ∧ keyB k.data.toList = false) then 2 else if n < 0 ∨ m < 1 ∨ 50 < m then 4 else 0
theorem empty_list (k : ByteArray) : k.toList = [] ↔ k = ByteArray.empty :=
  ⟨fun h => key_inj.1 (by rw [h, ByteArray.toList_eq]; rfl), fun h => by rw [h, ByteArray.toList_eq]; rfl⟩
theorem code_ne (k : Bool) : (codeB k != 0) = !k := by cases k <;> rfl

set_option maxHeartbeats 1000000 in
theorem listError_any (w : World) (p k : ByteArray) (hp : p.size ≤ maxLen) (hk : k.size ≤ maxLen) (n m : Int) :
    Calls Tryz.prog 155 #[.string p, .string k, .int .i64 n, .int .i64 m] w fun e w' => e = .returned (.int .i64 (listE p k n m)) ∧ w' = w := by
  have hfin : ∀ b1 b2, keyB p.data.toList = b1 → keyB k.data.toList = b2 → ∀ c', (if (¬ p.toList = [] ∧ b1 = false) ∨ (¬ k.toList = [] ∧ b2 = false) then 2 else if n < 0 ∨ m < 1 ∨ 50 < m then (4 : Int) else 0) = c' → Ending.returned (.int .i64 c') = .returned (.int .i64 (listE p k n m)) :=
    fun b1 b2 h1 h2 c' h => by rw [← h]; unfold listE; rw [h1, h2]; simp only [ne_eq, ← empty_list]
  have HF : Hid _ := hfin
  clear hfin
  generalize h1 : keyB p.data.toList = b1
  generalize h2 : keyB k.data.toList = b2
  have H1 : Hid _ := h1
  have H2 : Hid _ := h2
  clear h1 h2
  have hc1 := code_ne b1
  have hc2 := code_ne b2
  go_enter Tryz.func155, Tryz.ntmps155
  go_wp2_with fail
  refine (key_is _ _ hp H1.out).mono ?_
  rintro e w' ⟨rfl, rfl⟩
  go_wp2_with fail
  refine (key_is _ _ hk H2.out).mono ?_
  rintro e w' ⟨rfl, rfl⟩
  go_wp2
  all_goals
    go_ret
    refine ⟨HF.out b1 b2 H1.out H2.out _ ?_, rfl⟩
    clear HF H1 H2 hc1 hc2 hp hk
    first
      | (simp_all; done)
      | (simp_all; omega)
end Go.Proofs.YtcoengihaobddaaGreatDoor.ref

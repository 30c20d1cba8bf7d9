/- The walks of 'Keys': isKeyByte, isKey, Key of the program and Key of the document's answer, each for every text. -/
import Derived.Test.YtcoengihaobddaaRows
import Derived.WalkKit
import Derived.ProofKit
import Derived.OpenShut
import Derived.ShutString
namespace Go.Proofs.Ytcoengihaobddaa.keys
open Go.ChangeShapes Go.WideShapes Go.ChangeAt Go.RowKit
open Go.ChangeMaps (open_string shut_string)

/-- Is this byte one that a key may have? -/
def byteB (c : Int) : Bool := (decide (97 ≤ c) && decide (c ≤ 122)) || (decide (48 ≤ c) && decide (c ≤ 57)) || (c == 45) || (c == 47)
def allB (l : List UInt8) : Bool := l.all fun c => byteB (c.toNat : Int)
def keyB (l : List UInt8) : Bool := decide (1 ≤ l.length) && decide (l.length ≤ 8) && allB l

theorem take_snoc (s : ByteArray) (k : Nat) (h : k < s.size) : s.data.toList.take (k + 1) = s.data.toList.take k ++ [s[k]] := by
  rw [List.take_succ_eq_append_getElem (by simpa using h)]; rfl
theorem all_snoc (s : ByteArray) (k : Nat) (h : k < s.size) : allB (s.data.toList.take (k + 1)) = (allB (s.data.toList.take k) && byteB (s[k].toNat : Int)) := by
  rw [take_snoc s k h]; simp [allB]
theorem all_no (s : ByteArray) (k : Nat) (h : k < s.size) (hb : byteB (s[k].toNat : Int) = false) : allB s.data.toList = false := by
  have e : s.data.toList = s.data.toList.take (k + 1) ++ s.data.toList.drop (k + 1) := (List.take_append_drop _ _).symm
  rw [e]
  have h2 := all_snoc s k h
  rw [hb, Bool.and_false] at h2
  unfold allB at h2 ⊢
  rw [List.all_append, h2, Bool.false_and]
theorem ret_int {k : IntKind} {a b : Int} (h : a = b) : Ending.returned (.int k a) = .returned (.int k b) := by rw [h]

theorem ret_bool {a b : Bool} (h : a = b) : Ending.returned (.bool a) = .returned (.bool b) := by rw [h]
theorem byte_yes (c : Int) (h : (97 ≤ c ∧ c ≤ 122) ∨ (48 ≤ c ∧ c ≤ 57) ∨ c = 45 ∨ c = 47) : true = byteB c := by
  unfold byteB; simp only [Bool.true_eq, Bool.or_eq_true, Bool.and_eq_true, decide_eq_true_eq, beq_iff_eq]; omega
theorem byte_no (c : Int) (h1 : c < 97 ∨ 122 < c) (h2 : c < 48 ∨ 57 < c) (h3 : ¬ c = 45) (h4 : ¬ c = 47) : false = byteB c := by
  symm; rw [Bool.eq_false_iff]; unfold byteB; simp only [ne_eq, Bool.or_eq_true, Bool.and_eq_true, decide_eq_true_eq, beq_iff_eq]; omega
theorem beq_no {a b : Int} (h : (a == b) = false) : ¬ a = b := by simpa using h
theorem beq_yes {a b : Int} (h : (a == b) = true) : a = b := by simpa using h

set_option maxHeartbeats 400000 in
theorem byte_any (c : Int) (w : World) (h0 : 0 ≤ c) (h1 : c ≤ 255) :
    Calls Try.prog 22 #[.int .u8 c] w fun e w' => e = .returned (.bool (byteB c)) ∧ w' = w := by
  go_enter Try.func22, Try.ntmps22
  go_wp2
  · go_ret; exact ⟨ret_bool (byte_yes c (by omega)), rfl⟩
  · go_ret; exact ⟨ret_bool (byte_no c (by omega) (by omega) (beq_no ‹_›) (beq_no ‹_›)), rfl⟩
  · go_ret; exact ⟨ret_bool (byte_yes c (by omega)), rfl⟩
  · go_ret; exact ⟨ret_bool (byte_no c (by omega) (by omega) (beq_no ‹_›) (beq_no ‹_›)), rfl⟩
  · go_ret; exact ⟨ret_bool (byte_yes c (.inr (.inr (.inl (beq_yes ‹_›))))), rfl⟩
  · go_ret; exact ⟨ret_bool (byte_yes c (.inr (.inr (.inr (beq_yes ‹_›))))), rfl⟩
  · go_ret; exact ⟨ret_bool (byte_no c (by omega) (by omega) (beq_no ‹_›) (beq_no ‹_›)), rfl⟩

set_option maxHeartbeats 400000 in
theorem isKey_any (s : ByteArray) (w : World) (hs : s.size ≤ maxLen) :
    Calls Try.prog 20 #[.string s] w fun e w' => e = .returned (.bool (keyB s.data.toList)) ∧ w' = w := by
  unfold maxLen at hs
  by_cases hlo : s.size < 1
  · go_enter Try.func20, Try.ntmps20
    go_wp2
    go_ret
    refine ⟨ret_bool ?_, rfl⟩
    have : ¬ 1 ≤ s.data.toList.length := by simpa using hlo
    simp only [keyB, this, decide_false, Bool.false_and]
  · by_cases hhi : 8 < s.size
    · go_enter Try.func20, Try.ntmps20
      go_wp2
      go_ret
      refine ⟨ret_bool ?_, rfl⟩
      have : ¬ s.data.toList.length ≤ 8 := by simpa using hhi
      simp only [keyB, this, decide_false, Bool.false_and, Bool.and_false]
    · have hkey : keyB s.data.toList = allB s.data.toList := by
        have h1 : 1 ≤ s.data.toList.length := by simp; omega
        have h2 : s.data.toList.length ≤ 8 := by simp; omega
        simp only [keyB, h1, h2, decide_true, Bool.true_and]
      have HK : Hid (keyB s.data.toList = allB s.data.toList) := hkey
      clear hkey
      go_enter Try.func20, Try.ntmps20
      go_wp2
      go_loop [14] (fun i => ∃ k : Nat, k ≤ s.size ∧ i = .int .i64 k ∧ allB (s.data.toList.take k) = true) (fun i => s.size - (intOf i).toNat)
      case atStart => exact ⟨0, Nat.zero_le _, rfl, rfl⟩
      case round =>
        obtain ⟨k, hk, rfl, hall⟩ := hrel
        have HA : Hid (allB (s.data.toList.take k) = true) := hall
        clear hall
        by_cases hlt : k < s.size
        · cases hb : byteB (s[k].toNat : Int)
          · go_wp2_with (go_at_call 22; refine (byte_any _ _ (by omega) (by have := s[k].toNat_lt; omega)).mono ?_; rintro e w' ⟨rfl, rfl⟩)
            go_ret
            exact ⟨ret_bool (by rw [HK.out, all_no s k hlt hb]), rfl⟩
          · have HB : Hid (allB (s.data.toList.take (k + 1)) = true) := by
              show allB (s.data.toList.take (k + 1)) = true
              rw [all_snoc s k hlt, HA.out, hb]; rfl
            go_wp2_with (go_at_call 22; refine (byte_any _ _ (by omega) (by have := s[k].toNat_lt; omega)).mono ?_; rintro e w' ⟨rfl, rfl⟩)
            go_round
            case rel => exact ⟨k + 1, by omega, by go_num, HB.out⟩
            case measure => simp [intOf]; omega
        · go_wp2
          go_ret
          refine ⟨ret_bool ?_, rfl⟩
          rw [HK.out]
          have h := HA.out
          rw [List.take_of_length_le (by simp; omega)] at h
          exact h.symm

/-- The error's number: 0 (OK), 2 (ErrKey). -/
def codeB : Bool → Int
  | true => 0
  | false => 2

theorem errno_any (s : ByteArray) (w : World) (hs : s.size ≤ maxLen) :
    Calls Try.prog 8 #[.string s] w fun e w' => e = .returned (.int .i64 (codeB (keyB s.data.toList))) ∧ w' = w := by
  cases hk : keyB s.data.toList
  all_goals
    go_enter Try.func8, Try.ntmps8
    go_wp2_with (go_at_call 20; refine (isKey_any _ _ hs).mono ?_; rintro e w' ⟨rfl, rfl⟩)
    go_ret
    exact ⟨rfl, rfl⟩

set_option maxHeartbeats 1000000 in
theorem ref_any (s : ByteArray) (w : World) (hs : s.size ≤ maxLen) :
    Calls Try.prog 9 #[.string s] w fun e w' => e = .returned (.int .i64 (codeB (keyB s.data.toList))) ∧ w' = w := by
  unfold maxLen at hs
  by_cases hlo : s.size < 1
  · go_enter Try.func9, Try.ntmps9
    go_wp2
    go_ret
    refine ⟨ret_int ?_, rfl⟩
    have : ¬ 1 ≤ s.data.toList.length := by simpa using hlo
    simp only [keyB, this, decide_false, Bool.false_and]; rfl
  · by_cases hhi : 8 < s.size
    · go_enter Try.func9, Try.ntmps9
      go_wp2
      go_ret
      refine ⟨ret_int ?_, rfl⟩
      have : ¬ s.data.toList.length ≤ 8 := by simpa using hhi
      simp only [keyB, this, decide_false, Bool.false_and, Bool.and_false]; rfl
    · have hkey : keyB s.data.toList = allB s.data.toList := by
        have h1 : 1 ≤ s.data.toList.length := by simp; omega
        have h2 : s.data.toList.length ≤ 8 := by simp; omega
        simp only [keyB, h1, h2, decide_true, Bool.true_and]
      have HK : Hid (keyB s.data.toList = allB s.data.toList) := hkey
      clear hkey
      go_enter Try.func9, Try.ntmps9
      go_wp2
      go_loop [3] (fun i => ∃ k : Nat, k ≤ s.size ∧ i = .int .i64 k ∧ allB (s.data.toList.take k) = true) (fun i => s.size - (intOf i).toNat)
      case atStart => exact ⟨0, Nat.zero_le _, rfl, rfl⟩
      case round =>
        obtain ⟨k, hk, rfl, hall⟩ := hrel
        have HA : Hid (allB (s.data.toList.take k) = true) := hall
        clear hall
        by_cases hlt : k < s.size
        · have HB : Hid (true = byteB (s[k].toNat : Int) → allB (s.data.toList.take (k + 1)) = true) := by
            intro hb
            show allB (s.data.toList.take (k + 1)) = true
            rw [all_snoc s k hlt, HA.out, ← hb]; rfl
          have HN : Hid (false = byteB (s[k].toNat : Int) → (2 : Int) = codeB (keyB s.data.toList)) := by
            intro hb
            rw [HK.out, all_no s k hlt hb.symm]; rfl
          have hr1 : (0 : Int) ≤ s[k].toNat := by omega
          go_wp2
          all_goals
            first
              | (go_round
                 case rel =>
                   simp only [bne_eq_false_iff_eq] at *
                   exact ⟨k + 1, by omega, by go_num, HB.out (byte_yes _ (by omega))⟩
                 case measure => simp [intOf]; omega)
              | (go_ret
                 simp only [bne_iff_ne, ne_eq] at *
                 exact ⟨ret_int (HN.out (byte_no _ (by omega) (by omega) (by omega) (by omega))), trivial⟩)
        · go_wp2
          go_ret
          refine ⟨ret_int ?_, rfl⟩
          have h := HA.out
          rw [List.take_of_length_le (by simp; omega)] at h
          rw [HK.out, h]; rfl

/-- THE LAW: both keys' errors are the same number, for every text. -/
theorem walk (a0 : ByteArray) (w0 : a0.size ≤ maxLen) (w : World) :
    Calls Try.prog 4 #[.string a0] w fun e w' => e = .returned (.bool true) ∧ Grown w w' := by
  go_enter Try.func4, Try.ntmps4
  go_wp2_with (first
    | (go_at_call 8; refine (errno_any _ _ w0).mono ?_; rintro e w' ⟨rfl, rfl⟩)
    | (go_at_call 9; refine (ref_any _ _ w0).mono ?_; rintro e w' ⟨rfl, rfl⟩))
  go_ret
  exact ⟨by simp, Grown.refl _⟩
end Go.Proofs.Ytcoengihaobddaa.keys

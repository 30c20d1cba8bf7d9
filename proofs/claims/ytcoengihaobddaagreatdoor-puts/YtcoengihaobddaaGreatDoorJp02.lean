/- Part 2 of 39 of a proof: KeysWalks, Disk1, Disk2, Disk3, Disk4 -/
import Derived.Test.YtcoengihaobddaaGreatDoorRows
import Derived.WalkKit
import Derived.ProofKit
import Derived.OpenShut
import Derived.ShutString
import Derived.Test.YtcoengihaobddaaGreatDoorJp01
import Derived.Laws.MakeOwn
import Derived.Deep.WholeRow
import Derived.Deep.CutRange
namespace Go.Proofs.YtcoengihaobddaaGreatDoor.keys
open Go.ChangeShapes Go.WideShapes Go.ChangeAt Go.RowKit
open Go.ChangeMaps (open_string shut_string)

/-- Is this byte one that a key may have? -/
def byteB (c : Int) : Bool := (decide (97 ≤ c) && decide (c ≤ 122)) || (decide (48 ≤ c) && decide (c ≤ 57)) || (c == 45) || (c == 47)
def allB (l : List UInt8) : Bool := l.all fun c => byteB (c.toNat : Int)
def keyB (l : List UInt8) : Bool := decide (1 ≤ l.length) && decide (l.length ≤ 8) && allB l

theorem take_snoc (s : ByteArray) (k : Nat) (h : k < s.size) : s.data.toList.take (k + 1) = s.data.toList.take k ++ [s[k]] := by
  rw [List.take_succ_eq_append_getElem (by simpa using h)]; rfl
theorem all_snoc (s : ByteArray) (k : Nat) (h : k < s.size) : allB (s.data.toList.take (k + 1)) = (allB (s.data.toList.take k) && byteB (s[k].toNat : Int)) := by
  rw [take_snoc s k h]; simp [allB]
theorem all_no (s : ByteArray) (k : Nat) (h : k < s.size) (hb : byteB (s[k].toNat : Int) = false) : allB s.data.toList = false := by
  have e : s.data.toList = s.data.toList.take (k + 1) ++ s.data.toList.drop (k + 1) := (List.take_append_drop _ _).symm
  rw [e]
  have h2 := all_snoc s k h
  rw [hb, Bool.and_false] at h2
  unfold allB at h2 ⊢
  rw [List.all_append, h2, Bool.false_and]
theorem ret_int {k : IntKind} {a b : Int} (h : a = b) : Ending.returned (.int k a) = .returned (.int k b) := by rw [h]

theorem ret_bool {a b : Bool} (h : a = b) : Ending.returned (.bool a) = .returned (.bool b) := by rw [h]
theorem byte_yes (c : Int) (h : (97 ≤ c ∧ c ≤ 122) ∨ (48 ≤ c ∧ c ≤ 57) ∨ c = 45 ∨ c = 47) : true = byteB c := by
  unfold byteB; simp only [Bool.true_eq, Bool.or_eq_true, Bool.and_eq_true, decide_eq_true_eq, beq_iff_eq]; omega
theorem byte_no (c : Int) (h1 : c < 97 ∨ 122 < c) (h2 : c < 48 ∨ 57 < c) (h3 : ¬ c = 45) (h4 : ¬ c = 47) : false = byteB c := by
  symm; rw [Bool.eq_false_iff]; unfold byteB; simp only [ne_eq, Bool.or_eq_true, Bool.and_eq_true, decide_eq_true_eq, beq_iff_eq]; omega
theorem beq_no {a b : Int} (h : (a == b) = false) : ¬ a = b := by simpa using h
theorem beq_yes {a b : Int} (h : (a == b) = true) : a = b := by simpa using h

set_option maxHeartbeats 400000 in
theorem byte_any (c : Int) (w : World) (h0 : 0 ≤ c) (h1 : c ≤ 255) :
    Calls Tryz.prog 71 #[.int .u8 c] w fun e w' => e = .returned (.bool (byteB c)) ∧ w' = w := by
  go_enter Tryz.func71, Tryz.ntmps71
  go_wp2
  · go_ret; exact ⟨ret_bool (byte_yes c (by omega)), rfl⟩
  · go_ret; exact ⟨ret_bool (byte_no c (by omega) (by omega) (beq_no ‹_›) (beq_no ‹_›)), rfl⟩
  · go_ret; exact ⟨ret_bool (byte_yes c (by omega)), rfl⟩
  · go_ret; exact ⟨ret_bool (byte_no c (by omega) (by omega) (beq_no ‹_›) (beq_no ‹_›)), rfl⟩
  · go_ret; exact ⟨ret_bool (byte_yes c (.inr (.inr (.inl (beq_yes ‹_›))))), rfl⟩
  · go_ret; exact ⟨ret_bool (byte_yes c (.inr (.inr (.inr (beq_yes ‹_›))))), rfl⟩
  · go_ret; exact ⟨ret_bool (byte_no c (by omega) (by omega) (beq_no ‹_›) (beq_no ‹_›)), rfl⟩

set_option maxHeartbeats 400000 in
theorem isKey_any (s : ByteArray) (w : World) (hs : s.size ≤ maxLen) :
    Calls Tryz.prog 49 #[.string s] w fun e w' => e = .returned (.bool (keyB s.data.toList)) ∧ w' = w := by
  unfold maxLen at hs
  by_cases hlo : s.size < 1
  · go_enter Tryz.func49, Tryz.ntmps49
    go_wp2
    go_ret
    refine ⟨ret_bool ?_, rfl⟩
    have : ¬ 1 ≤ s.data.toList.length := by simpa using hlo
    simp only [keyB, this, decide_false, Bool.false_and]
  · by_cases hhi : 8 < s.size
    · go_enter Tryz.func49, Tryz.ntmps49
      go_wp2
      go_ret
      refine ⟨ret_bool ?_, rfl⟩
      have : ¬ s.data.toList.length ≤ 8 := by simpa using hhi
      simp only [keyB, this, decide_false, Bool.false_and, Bool.and_false]
    · have hkey : keyB s.data.toList = allB s.data.toList := by
        have h1 : 1 ≤ s.data.toList.length := by simp; omega
        have h2 : s.data.toList.length ≤ 8 := by simp; omega
        simp only [keyB, h1, h2, decide_true, Bool.true_and]
      have HK : Hid (keyB s.data.toList = allB s.data.toList) := hkey
      clear hkey
      go_enter Tryz.func49, Tryz.ntmps49
      go_wp2
      go_loop [14] (fun i => ∃ k : Nat, k ≤ s.size ∧ i = .int .i64 k ∧ allB (s.data.toList.take k) = true) (fun i => s.size - (intOf i).toNat)
      case atStart => exact ⟨0, Nat.zero_le _, rfl, rfl⟩
      case round =>
        obtain ⟨k, hk, rfl, hall⟩ := hrel
        have HA : Hid (allB (s.data.toList.take k) = true) := hall
        clear hall
        by_cases hlt : k < s.size
        · cases hb : byteB (s[k].toNat : Int)
          · go_wp2_with (go_at_call 71; refine (byte_any _ _ (by omega) (by have := s[k].toNat_lt; omega)).mono ?_; rintro e w' ⟨rfl, rfl⟩)
            go_ret
            exact ⟨ret_bool (by rw [HK.out, all_no s k hlt hb]), rfl⟩
          · have HB : Hid (allB (s.data.toList.take (k + 1)) = true) := by
              show allB (s.data.toList.take (k + 1)) = true
              rw [all_snoc s k hlt, HA.out, hb]; rfl
            go_wp2_with (go_at_call 71; refine (byte_any _ _ (by omega) (by have := s[k].toNat_lt; omega)).mono ?_; rintro e w' ⟨rfl, rfl⟩)
            go_round
            case rel => exact ⟨k + 1, by omega, by go_num, HB.out⟩
            case measure => simp [intOf]; omega
        · go_wp2
          go_ret
          refine ⟨ret_bool ?_, rfl⟩
          rw [HK.out]
          have h := HA.out
          rw [List.take_of_length_le (by simp; omega)] at h
          exact h.symm

/-- The error's number: 0 (OK), 2 (ErrKey). -/
def codeB : Bool → Int
  | true => 0
  | false => 2

theorem errno_any (s : ByteArray) (w : World) (hs : s.size ≤ maxLen) :
    Calls Tryz.prog 89 #[.string s] w fun e w' => e = .returned (.int .i64 (codeB (keyB s.data.toList))) ∧ w' = w := by
  cases hk : keyB s.data.toList
  all_goals
    go_enter Tryz.func89, Tryz.ntmps89
    go_wp2_with (go_at_call 49; refine (isKey_any _ _ hs).mono ?_; rintro e w' ⟨rfl, rfl⟩)
    go_ret
    exact ⟨rfl, rfl⟩

set_option maxHeartbeats 1000000 in
theorem ref_any (s : ByteArray) (w : World) (hs : s.size ≤ maxLen) :
    Calls Tryz.prog 90 #[.string s] w fun e w' => e = .returned (.int .i64 (codeB (keyB s.data.toList))) ∧ w' = w := by
  unfold maxLen at hs
  by_cases hlo : s.size < 1
  · go_enter Tryz.func90, Tryz.ntmps90
    go_wp2
    go_ret
    refine ⟨ret_int ?_, rfl⟩
    have : ¬ 1 ≤ s.data.toList.length := by simpa using hlo
    simp only [keyB, this, decide_false, Bool.false_and]; rfl
  · by_cases hhi : 8 < s.size
    · go_enter Tryz.func90, Tryz.ntmps90
      go_wp2
      go_ret
      refine ⟨ret_int ?_, rfl⟩
      have : ¬ s.data.toList.length ≤ 8 := by simpa using hhi
      simp only [keyB, this, decide_false, Bool.false_and, Bool.and_false]; rfl
    · have hkey : keyB s.data.toList = allB s.data.toList := by
        have h1 : 1 ≤ s.data.toList.length := by simp; omega
        have h2 : s.data.toList.length ≤ 8 := by simp; omega
        simp only [keyB, h1, h2, decide_true, Bool.true_and]
      have HK : Hid (keyB s.data.toList = allB s.data.toList) := hkey
      clear hkey
      go_enter Tryz.func90, Tryz.ntmps90
      go_wp2
      go_loop [3] (fun i => ∃ k : Nat, k ≤ s.size ∧ i = .int .i64 k ∧ allB (s.data.toList.take k) = true) (fun i => s.size - (intOf i).toNat)
      case atStart => exact ⟨0, Nat.zero_le _, rfl, rfl⟩
      case round =>
        obtain ⟨k, hk, rfl, hall⟩ := hrel
        have HA : Hid (allB (s.data.toList.take k) = true) := hall
        clear hall
        by_cases hlt : k < s.size
        · have HB : Hid (true = byteB (s[k].toNat : Int) → allB (s.data.toList.take (k + 1)) = true) := by
            intro hb
            show allB (s.data.toList.take (k + 1)) = true
            rw [all_snoc s k hlt, HA.out, ← hb]; rfl
          have HN : Hid (false = byteB (s[k].toNat : Int) → (2 : Int) = codeB (keyB s.data.toList)) := by
            intro hb
            rw [HK.out, all_no s k hlt hb.symm]; rfl
          have hr1 : (0 : Int) ≤ s[k].toNat := by omega
          go_wp2
          all_goals
            first
              | (go_round
                 case rel =>
                   simp only [bne_eq_false_iff_eq] at *
                   exact ⟨k + 1, by omega, by go_num, HB.out (byte_yes _ (by omega))⟩
                 case measure => simp [intOf]; omega)
              | (go_ret
                 simp only [bne_iff_ne, ne_eq] at *
                 exact ⟨ret_int (HN.out (byte_no _ (by omega) (by omega) (by omega) (by omega))), trivial⟩)
        · go_wp2
          go_ret
          refine ⟨ret_int ?_, rfl⟩
          have h := HA.out
          rw [List.take_of_length_le (by simp; omega)] at h
          rw [HK.out, h]; rfl

/-- THE LAW: both keys' errors are the same number, for every text. -/
theorem walk (a0 : ByteArray) (w0 : a0.size ≤ maxLen) (w : World) :
    Calls Tryz.prog 57 #[.string a0] w fun e w' => e = .returned (.bool true) ∧ Grown w w' := by
  go_enter Tryz.func57, Tryz.ntmps57
  go_wp2_with (first
    | (go_at_call 89; refine (errno_any _ _ w0).mono ?_; rintro e w' ⟨rfl, rfl⟩)
    | (go_at_call 90; refine (ref_any _ _ w0).mono ?_; rintro e w' ⟨rfl, rfl⟩))
  go_ret
  exact ⟨by simp, Grown.refl _⟩
end Go.Proofs.YtcoengihaobddaaGreatDoor.keys
namespace Go.Proofs.YtcoengihaobddaaGreatDoor.disk
open Go.ChangeShapes Go.WideShapes Go.ChangeAt Go.RowKit

/-- The head of a disk, one cell turned. -/
theorem DiskAt.set_fuse {w : World} {bd : Nat} {S : Nat → Prop} {D : Dk} {ba pa : Option Addr} {bc pc : Nat} (h : DiskAt w bd S D ba pa bc pc) (n : Int) :
    DiskAt (w.setCell ⟨bd, 2, none⟩ (.int .i64 n)) bd S { D with fuse := n } ba pa bc pc := by
  refine ⟨⟨h.ok.bs, h.ok.ps, h.ok.few⟩, ?_, ?_, ?_, h.own, h.ap1, h.ap2, h.ap3⟩
  · rw [heap_setCell_same w bd 2 _ _ _ h.head]; rfl
  · exact (Kept.setCell (S := fun k => k = bd) w ⟨bd, 2, none⟩ _ rfl).owns h.rows (fun k hk e => h.ap1 (by rw [hk, e]))
  · exact (Kept.setCell (S := fun k => k = bd) w ⟨bd, 2, none⟩ _ rfl).owns h.pend (fun k hk e => h.ap2 (by rw [hk, e]))
theorem DiskAt.set_reads {w : World} {bd : Nat} {S : Nat → Prop} {D : Dk} {ba pa : Option Addr} {bc pc : Nat} (h : DiskAt w bd S D ba pa bc pc) (n : Int) :
    DiskAt (w.setCell ⟨bd, 3, none⟩ (.int .i64 n)) bd S { D with reads := n } ba pa bc pc := by
  refine ⟨⟨h.ok.bs, h.ok.ps, h.ok.few⟩, ?_, ?_, ?_, h.own, h.ap1, h.ap2, h.ap3⟩
  · rw [heap_setCell_same w bd 3 _ _ _ h.head]; rfl
  · exact (Kept.setCell (S := fun k => k = bd) w ⟨bd, 3, none⟩ _ rfl).owns h.rows (fun k hk e => h.ap1 (by rw [hk, e]))
  · exact (Kept.setCell (S := fun k => k = bd) w ⟨bd, 3, none⟩ _ rfl).owns h.pend (fun k hk e => h.ap2 (by rw [hk, e]))

/-- The fuse behind one write or flush. -/
def burnt (n : Int) : Int := if 0 < n then n - 1 else n
/-- The fuse's bounds: an int. -/
def IntOk (n : Int) : Prop := -9223372036854775808 ≤ n ∧ n ≤ 9223372036854775807

theorem burnt_of {n : Int} (h : 0 < n) : burnt n = n - 1 := if_pos h
theorem burnt_not {n : Int} (h : ¬ 0 < n) : burnt n = n := if_neg h
theorem DiskAt.at_fuse {w : World} {bd : Nat} {S : Nat → Prop} {D : Dk} {ba pa : Option Addr} {bc pc : Nat} (h : DiskAt w bd S D ba pa bc pc) {n : Int} (e : D.fuse = n) : DiskAt w bd S { D with fuse := n } ba pa bc pc := by
  subst e; exact h

theorem burn_any (w : World) (bd : Nat) (S : Nat → Prop) (D : Dk) (ba pa : Option Addr) (bc pc : Nat) (h : DiskAt w bd S D ba pa bc pc) (hi : IntOk D.fuse) :
    Calls Tryz.prog 65 #[.pointer (some ⟨bd, 0, none⟩)] w fun e w' =>
      e = .returned (.bool (!(D.fuse == 0))) ∧ DiskAt w' bd S { D with fuse := burnt D.fuse } ba pa bc pc ∧ Kept (fun k => k = bd) w w' := by
  have hc := h.c2
  have hf := h.fz 2
  obtain ⟨hi1, hi2⟩ := hi
  have hs := h.set_fuse (D.fuse - 1)
  have HS : Hid (DiskAt (w.setCell ⟨bd, 2, none⟩ (.int .i64 (D.fuse - 1))) bd S { D with fuse := D.fuse - 1 } ba pa bc pc) := hs
  have HH : Hid (DiskAt w bd S D ba pa bc pc) := h
  clear hs h
  generalize hfu : D.fuse = n at *
  have HF : Hid (D.fuse = n) := hfu
  clear hfu
  by_cases h0 : n = 0
  · subst h0
    go_enter Tryz.func65, Tryz.ntmps65
    go_wp2
    go_ret
    exact ⟨rfl, HH.out.at_fuse HF.out, Kept.refl _ _⟩
  · by_cases h1 : 0 < n
    · have HB : Hid (burnt n = n - 1) := burnt_of h1
      go_enter Tryz.func65, Tryz.ntmps65
      go_wp2
      go_ret
      exact ⟨by simp [h0], by rw [HB.out]; exact HS.out, Kept.setCell _ _ _ rfl⟩
    · have HB : Hid (burnt n = n) := burnt_not h1
      go_enter Tryz.func65, Tryz.ntmps65
      go_wp2
      go_ret
      exact ⟨by simp, by rw [HB.out]; exact HH.out.at_fuse HF.out, Kept.refl _ _⟩

theorem blocks_any (w : World) (bd : Nat) (S : Nat → Prop) (D : Dk) (ba pa : Option Addr) (bc pc : Nat) (h : DiskAt w bd S D ba pa bc pc) :
    Calls Tryz.prog 54 #[.pointer (some ⟨bd, 0, none⟩)] w fun e w' => e = .returned (.int .i64 D.bs.length) ∧ w' = w := by
  have hc := h.c0
  clear h
  go_enter Tryz.func54, Tryz.ntmps54
  go_wp2
  go_ret
  exact ⟨rfl, rfl⟩

theorem reads_any (w : World) (bd : Nat) (S : Nat → Prop) (D : Dk) (ba pa : Option Addr) (bc pc : Nat) (h : DiskAt w bd S D ba pa bc pc) :
    Calls Tryz.prog 86 #[.pointer (some ⟨bd, 0, none⟩)] w fun e w' => e = .returned (.int .i64 D.reads) ∧ w' = w := by
  have hc := h.c3
  clear h
  go_enter Tryz.func86, Tryz.ntmps86
  go_wp2
  go_ret
  exact ⟨rfl, rfl⟩

theorem fuse_any (w : World) (bd : Nat) (S : Nat → Prop) (D : Dk) (ba pa : Option Addr) (bc pc : Nat) (h : DiskAt w bd S D ba pa bc pc) (n : Int) :
    Calls Tryz.prog 43 #[.pointer (some ⟨bd, 0, none⟩), .int .i64 n] w fun e w' => e = .returned (.tuple #[]) ∧ DiskAt w' bd S { D with fuse := n } ba pa bc pc ∧ Kept (fun k => k = bd) w w' := by
  have hc := h.c2
  have hf := h.fz 2
  have HS : Hid (DiskAt (w.setCell ⟨bd, 2, none⟩ (.int .i64 n)) bd S { D with fuse := n } ba pa bc pc) := h.set_fuse n
  clear h
  go_enter Tryz.func43, Tryz.ntmps43
  go_wp2
  go_end0
  exact ⟨rfl, HS.out, Kept.setCell _ _ _ rfl⟩
end Go.Proofs.YtcoengihaobddaaGreatDoor.disk
namespace Go.Proofs.YtcoengihaobddaaGreatDoor.disk
open Go.ChangeShapes Go.WideShapes Go.ChangeAt Go.RowKit

/-- A block of noughts. -/
def zeroB : List Value := List.replicate 128 (.int .u8 0)
theorem Tryz.infoBlock : (Tryz.prog.info? 131).map (fun i => (i.zero, i.size, i.bytes)) = some (some (.agg zeroB.toArray), 128, 128) := by kernel_rfl
theorem zeroB_ok : BlkOk zeroB := ⟨by simp [zeroB], fun v hv => by rw [List.eq_of_mem_replicate hv]; rfl⟩
theorem zeros_flat : ∀ n, (List.replicate n zeroB).flatten = List.replicate (n * 128) (Value.int .u8 0)
  | 0 => by simp
  | n + 1 => by rw [List.replicate_succ, List.flatten_cons, zeros_flat n, Nat.add_mul, Nat.one_mul, Nat.add_comm, ← List.replicate_append_replicate]; rfl
theorem made_const (z : Array Value) (v : Value) (hz : 0 < z.size) (h : ∀ i (hi : i < z.size), z[i] = v) (n : Nat) : (madeCells z n).toList = List.replicate n v := by
  apply List.ext_getElem
  · simp [madeCells]
  · intro i h1 h2
    have hm : i % z.size < z.size := Nat.mod_lt _ hz
    simp only [madeCells, Array.toList_map, List.getElem_map, Array.getElem_toList, Array.getElem_range, List.getElem_replicate]
    rw [getElem!_pos z _ hm]
    exact h _ hm
theorem made_zeros (n : Nat) : (madeCells (Value.agg zeroB.toArray).cells n).toList = List.replicate n (Value.int .u8 0) := by
  have e : (Value.agg zeroB.toArray).cells = zeroB.toArray := rfl
  have hs : zeroB.toArray.size = 128 := by rw [List.size_toArray]; exact zeroB_ok.1
  rw [e]
  refine made_const _ _ (by omega) (fun i hi => ?_) n
  rw [List.getElem_toArray]
  exact List.eq_of_mem_replicate (List.getElem_mem _)

/-- A disk of so many blocks, all of them noughts. -/
def Dk.fresh (n : Nat) : Dk := { bs := List.replicate n zeroB, ps := [], fuse := -1, reads := 0 }
/-- How many blocks New gives. -/
def sized (n : Int) : Nat := if n < 0 ∨ 1000 < n then 0 else n.toNat

theorem fresh_at (w : World) (n : Nat) (hn : n ≤ 1000) :
    DiskAt ((w.alloc (.cells (madeCells (Value.agg zeroB.toArray).cells (n * 128)) 131)).alloc
      (.cells #[.slice (some ⟨w.heap.size, 0, none⟩) n n, .slice none 0 0, .int .i64 (-1), .int .i64 0] 118)) (w.heap.size + 1) (fun k => k = w.heap.size + 1 ∨ k = w.heap.size) (Dk.fresh n) (some ⟨w.heap.size, 0, none⟩) none n 0 := by
  have hl : (List.replicate n zeroB).length = n := by simp
  refine ⟨⟨fun b hb => by rw [List.eq_of_mem_replicate hb]; exact zeroB_ok, fun p hp => (by cases hp), by simpa [Dk.fresh] using hn⟩, ?_, ?_, World.ownsRow_nil _ _ _ _, ?_, ?_, ?_, ?_⟩
  · simp only [Dk.fresh, hl, List.length_nil]
    exact heap_alloc2_new w _ _
  · simp only [Dk.fresh, hl]
    refine World.ownsRow.alloc ⟨?_, .inr ⟨w.heap.size, n, _, rfl, Nat.zero_le _, heap_alloc_new w _, Nat.le_refl _, by unfold maxLen; omega, by rw [size_madeCells], ?_⟩⟩ _
    · rw [zeros_flat]; simp
    · rw [made_zeros, zeros_flat, List.take_of_length_le (by simp)]
  · intro k; simp [Value.ownBlock, eq_comm]
  · simp [Value.ownBlock]
  · simp [Value.ownBlock]
  · intro k _; simp [Value.ownBlock]

set_option maxHeartbeats 400000 in
theorem new_any (w : World) (n : Int) (hi : IntOk n) :
    Calls Tryz.prog 39 #[.int .i64 n] w fun e w' =>
      e = .returned (.pointer (some ⟨w.heap.size + 1, 0, none⟩)) ∧ Disk w' (w.heap.size + 1) (fun k => k = w.heap.size + 1 ∨ k = w.heap.size) (Dk.fresh (sized n)) ∧ Kept (fun _ => False) w w' := by
  obtain ⟨i0, hi0, hz0, hz1, hz2⟩ := info_parts Tryz.infoBlock
  obtain ⟨hi1, hi2⟩ := hi
  have HN : Hid (∀ m : Nat, m ≤ 1000 → ∀ W : World, (Instr.makeSlice 115 (.int .i64 m) (.int .i64 m)).run Tryz.prog W =
      .ok (.slice (some ⟨W.heap.size, 0, none⟩) m m) (W.alloc (.cells (madeCells (Value.agg zeroB.toArray).cells (m * 128)) 131))) := fun m hm W => by
    have := run_make (P := Tryz.prog) W 115 131 i0 _ Tryz.underlying115 hi0 hz0 .i64 .i64 m m (by omega) (by omega) (by rw [hz2]; omega) (by omega)
    rw [hz1] at this
    simpa using this
  clear hi0 hz0 hz1 hz2
  by_cases hn : n < 0 ∨ 1000 < n
  · have HZ : Hid (sized n = 0) := if_pos hn
    have hmk : ∀ W : World, (Instr.makeSlice 115 (.int .i64 0) (.int .i64 0)).run Tryz.prog W = .ok (.slice (some ⟨W.heap.size, 0, none⟩) 0 0) (W.alloc (.cells (madeCells (Value.agg zeroB.toArray).cells (0 * 128)) 131)) := HN.out 0 (by omega)
    generalize hZ : madeCells (Value.agg zeroB.toArray).cells (0 * 128) = Z at hmk
    have HZZ : Hid (madeCells (Value.agg zeroB.toArray).cells (0 * 128) = Z) := hZ
    clear hZ HN
    by_cases hlo : n < 0
    · clear hn
      go_enter Tryz.func39, Tryz.ntmps39
      go_wp2
      go_ret
      refine ⟨rfl, ?_, (Kept.alloc _ _ _).trans (Kept.alloc _ _ _) (fun _ h => .inl h)⟩
      rw [HZ.out, ← HZZ.out]
      exact ⟨_, _, _, _, fresh_at w 0 (by omega)⟩
    · have hhi : 1000 < n := by omega
      clear hn
      go_enter Tryz.func39, Tryz.ntmps39
      go_wp2
      go_ret
      refine ⟨rfl, ?_, (Kept.alloc _ _ _).trans (Kept.alloc _ _ _) (fun _ h => .inl h)⟩
      rw [HZ.out, ← HZZ.out]
      exact ⟨_, _, _, _, fresh_at w 0 (by omega)⟩
  · obtain ⟨m, rfl⟩ : ∃ m : Nat, n = m := ⟨n.toNat, by omega⟩
    have hlo : ¬ (m : Int) < 0 := by omega
    have hm : m ≤ 1000 := by omega
    have HZ : Hid (sized (m : Int) = m) := by show sized (m : Int) = m; unfold sized; rw [if_neg hn]; simp
    have hmk := HN.out m hm
    generalize hZ : madeCells (Value.agg zeroB.toArray).cells (m * 128) = Z at hmk
    have HZZ : Hid (madeCells (Value.agg zeroB.toArray).cells (m * 128) = Z) := hZ
    clear hZ HN hn
    go_enter Tryz.func39, Tryz.ntmps39
    go_wp2
    go_ret
    refine ⟨rfl, ?_, (Kept.alloc _ _ _).trans (Kept.alloc _ _ _) (fun _ h => .inl h)⟩
    rw [HZ.out, ← HZZ.out]
    exact ⟨_, _, _, _, fresh_at w m hm⟩
end Go.Proofs.YtcoengihaobddaaGreatDoor.disk
namespace Go.Proofs.YtcoengihaobddaaGreatDoor.disk
set_option maxRecDepth 8000
open Go.ChangeShapes Go.WideShapes Go.ChangeAt Go.RowKit

def zeroW : List Value := .int .i64 0 :: zeroB
theorem Tryz.infoWrite : (Tryz.prog.info? 133).map (fun i => (i.zero, i.size, i.bytes)) = some (some (.agg zeroW.toArray), 129, 136) := by kernel_rfl
theorem zero_run {t : TypeId} {v : Value} {n b : Nat} (h : (Tryz.prog.info? t).map (fun i => (i.zero, i.size, i.bytes)) = some (some v, n, b)) : ∀ w, (zeroValue t).run Tryz.prog w = .ok v w := by
  obtain ⟨i, hi, hz, _, _⟩ := info_parts h
  intro w
  simp [zeroValue, typeInfo, hi, hz]
theorem size_of {t : TypeId} {v : Value} {n b : Nat} (h : (Tryz.prog.info? t).map (fun i => (i.zero, i.size, i.bytes)) = some (some v, n, b)) : (Tryz.prog.info? t).map (·.size) = some n := by
  obtain ⟨i, hi, _, hs, _⟩ := info_parts h
  simp [hi, hs]

/-- What was last written, or lies there. -/
def lastOf (i : Nat) (ps : List (Nat × List Value)) (b : List Value) : List Value := ps.foldl (fun b p => if p.1 = i then p.2 else b) b
def Dk.look (D : Dk) (a : Int) : List Value := if 0 ≤ a ∧ a < D.bs.length then lastOf a.toNat D.ps (D.bs.getD a.toNat []) else zeroB

theorem DiskAt.row {w : World} {bd : Nat} {S : Nat → Prop} {D : Dk} {ba pa : Option Addr} {bc pc : Nat} (h : DiskAt w bd S D ba pa bc pc) (hn : 0 < D.bs.length) : ∃ g, ba = some ⟨g, 0, none⟩ := by
  rcases h.rows.2 with ⟨_, h0⟩ | ⟨g, cap, cur, hv, _⟩
  · omega
  · cases hv; exact ⟨g, rfl⟩
theorem DiskAt.prow {w : World} {bd : Nat} {S : Nat → Prop} {D : Dk} {ba pa : Option Addr} {bc pc : Nat} (h : DiskAt w bd S D ba pa bc pc) (hn : 0 < D.ps.length) : ∃ g, pa = some ⟨g, 0, none⟩ := by
  rcases h.pend.2 with ⟨_, h0⟩ | ⟨g, cap, cur, hv, _⟩
  · omega
  · cases hv; exact ⟨g, rfl⟩

/-- A whole value into the block that was made last. -/
theorem wpList_store_new {P : Program} {ops : Array Oper} {rest : List Oper} {op : Oper} {a : Act} {W : World} {Q : Exit → Act → World → Prop} (hgd : op.guard = none) (ty : TypeId) (x y : Operand) (ho : op.op = .store ty x y)
    (n : Nat) (c : Array Value) (cs : List Value) (hn : n = W.heap.size) (hx : a.eval x = .pointer (some ⟨n, 0, none⟩)) (hy : a.eval y = .agg cs.toArray)
    (hi : (P.info? ty).map (·.size) = some cs.length) (hc : c.size = cs.length) (h1 : ∀ v ∈ cs, v.oneCell' = true)
    (h : wpList P ops Q rest (a.put op.dst undef) (W.alloc (.cells cs.toArray ty))) : wpList P ops Q (op :: rest) a (W.alloc (.cells c ty)) := by
  subst hn
  refine wpList_plain hgd fun _ hK => ?_
  unfold Oper.wp execOp
  simp only [ho, hx, hy, run_storeAt_new (P := P) W ty c cs.toArray (by simpa using hi) (by simpa using hc) (all_oneCell_toArray h1), Sem.run_bind, Result.andThen_ok, Sem.run_pure]
  exact hK _ _ h

/-- In the middle of Read: the disk, the result's block, the block that was read so far. -/
structure RdInv (w wr : World) (bd : Nat) (S : Nat → Prop) (D : Dk) (ba pa : Option Addr) (bc pc : Nat) (Zb cur : List Value) : Prop where
  disk : DiskAt wr bd S D ba pa bc pc
  kept : Kept (fun k => k = bd) w wr
  resb : wr.heap[w.heap.size]? = some (.cells Zb.toArray 131 (0, 0))
  curb : wr.heap[w.heap.size + 1]? = some (.cells cur.toArray 131 (0, 0))
theorem RdInv.lt {w wr : World} {bd : Nat} {S : Nat → Prop} {D : Dk} {ba pa : Option Addr} {bc pc : Nat} {Zb cur : List Value} (h : RdInv w wr bd S D ba pa bc pc Zb cur) : w.heap.size + 1 < wr.heap.size :=
  (Array.getElem?_eq_some_iff.1 h.curb).1
theorem RdInv.alloc {w wr : World} {bd : Nat} {S : Nat → Prop} {D : Dk} {ba pa : Option Addr} {bc pc : Nat} {Zb cur : List Value} (h : RdInv w wr bd S D ba pa bc pc Zb cur) (o : Obj) : RdInv w (wr.alloc o) bd S D ba pa bc pc Zb cur := by
  have hl := h.lt
  refine ⟨h.disk.kept (Kept.alloc (fun _ => False) wr o) (fun _ _ hf => hf), h.kept.trans (Kept.alloc _ wr o) (fun _ h => .inl h), ?_, ?_⟩
  · rw [Below.heap_alloc wr o _ (by omega)]; exact h.resb
  · rw [Below.heap_alloc wr o _ hl]; exact h.curb
theorem RdInv.set {w wr : World} {bd : Nat} {S : Nat → Prop} {D : Dk} {ba pa : Option Addr} {bc pc : Nat} {Zb cur : List Value} (h : RdInv w wr bd S D ba pa bc pc Zb cur) (hS : ∀ k, S k → k < w.heap.size)
    (cs : List Value) (hl : cur.length = cs.length) : RdInv w (wr.setCells (w.heap.size + 1) 0 cs) bd S D ba pa bc pc Zb cs := by
  refine ⟨h.disk.kept (Kept.setCells (S := fun k => k = w.heap.size + 1) _ rfl cs 0 wr) (fun k hk e => by have := hS k hk; omega), h.kept.trans (Kept.setCells (S := fun k => k = w.heap.size + 1) _ rfl cs 0 wr) (fun k hk => .inr (by omega)), ?_, ?_⟩
  · rw [heap_setCells_other _ _ (by omega)]; exact h.resb
  · rw [heap_setCells_same _ _ cs 0 wr _ h.curb (by simp; omega)]
    congr 2
    apply Array.ext'
    simp [hl]
theorem RdInv.done {w wr : World} {bd : Nat} {S : Nat → Prop} {D : Dk} {ba pa : Option Addr} {bc pc : Nat} {Zb cur : List Value} (h : RdInv w wr bd S D ba pa bc pc Zb cur) (hS : ∀ k, S k → k < w.heap.size)
    (hl : Zb.length = cur.length) : DiskAt (wr.setCells w.heap.size 0 cur) bd S D ba pa bc pc ∧ Kept (fun k => k = bd) w (wr.setCells w.heap.size 0 cur) ∧
      (wr.setCells w.heap.size 0 cur).heap[w.heap.size]? = some (.cells cur.toArray 131 (0, 0)) := by
  refine ⟨h.disk.kept (Kept.setCells (S := fun k => k = w.heap.size) _ rfl cur 0 wr) (fun k hk e => by have := hS k hk; omega), h.kept.trans (Kept.setCells (S := fun k => k = w.heap.size) _ rfl cur 0 wr) (fun k hk => .inr (by omega)), ?_⟩
  rw [heap_setCells_same _ _ cur 0 wr _ h.resb (by simp; omega)]
  congr 2
  apply Array.ext'
  simp [hl]
/-- A block that is known whole, as a range. -/
theorem range_of_block {w : World} {b : Nat} {t : TypeId} {cs : List Value} (hb : w.heap[b]? = some (.cells cs.toArray t (0, 0))) : w.rangeAt b 0 cs := fun j v hv => by
  rw [cell_of_row w b (0 + j) _ t (0, 0) hb]; simpa using hv
theorem there_of_block {w : World} {b : Nat} {t : TypeId} {cs : List Value} (hb : w.heap[b]? = some (.cells cs.toArray t (0, 0))) : w.there b 0 cs.length := fun j hj =>
  ⟨(range_of_block hb).isSome j hj, frozen_of_row w b _ _ t hb⟩
/-- .. from its second cell on. -/
theorem range_of_block1 {w : World} {b : Nat} {t : TypeId} {c : Value} {cs : List Value} (hb : w.heap[b]? = some (.cells (c :: cs).toArray t (0, 0))) : w.rangeAt b 1 cs := fun j v hv => by
  rw [cell_of_row w b (1 + j) _ t (0, 0) hb, Nat.add_comm]; simpa using hv
theorem DiskAt.range {w : World} {bd : Nat} {S : Nat → Prop} {D : Dk} {g : Nat} {pa : Option Addr} {bc pc : Nat} (h : DiskAt w bd S D (some ⟨g, 0, none⟩) pa bc pc) (i : Nat) (hi : i < D.bs.length) : w.rangeAt g (i * 128) D.bs[i] :=
  owns_range h.rows (fun b hb => (h.ok.bs b hb).1) i hi
theorem wcells_len {D : Dk} (h : D.Ok) : ∀ b ∈ D.ps.map wcells, b.length = 129 := fun b hb => by
  obtain ⟨p, hp, rfl⟩ := List.mem_map.1 hb
  have := (h.ps p hp).2.1
  simp [wcells, this]
theorem DiskAt.prange {w : World} {bd : Nat} {S : Nat → Prop} {D : Dk} {g : Nat} {ba : Option Addr} {bc pc : Nat} (h : DiskAt w bd S D ba (some ⟨g, 0, none⟩) bc pc) (i : Nat) (hi : i < D.ps.length) : w.rangeAt g (i * 129) (.int .i64 (D.ps[i].1 : Int) :: D.ps[i].2) := by
  have hp := h.pend
  rw [show D.ps.length = (D.ps.map wcells).length from by simp] at hp
  have := owns_range hp (wcells_len h.ok) i (by simpa using hi)
  simpa [wcells] using this

theorem lastOf_snoc (i : Nat) (ps : List (Nat × List Value)) (b : List Value) (k : Nat) (hk : k < ps.length) : lastOf i (ps.take (k + 1)) b = if ps[k].1 = i then ps[k].2 else lastOf i (ps.take k) b := by
  unfold lastOf
  rw [List.take_succ_eq_append_getElem hk, List.foldl_append]; rfl
theorem lastOf_ok {i : Nat} {b : List Value} (hb : BlkOk b) : ∀ {ps : List (Nat × List Value)}, (∀ p ∈ ps, BlkOk p.2) → BlkOk (lastOf i ps b) := by
  intro ps
  induction ps generalizing b with
  | nil => intro _; exact hb
  | cons p ps ih =>
    intro h
    unfold lastOf
    rw [List.foldl_cons]
    refine ih ?_ (fun q hq => h q (List.mem_cons_of_mem _ hq))
    split
    · exact h p (List.mem_cons_self ..)
    · exact hb

theorem DiskAt.len {w : World} {bd : Nat} {S : Nat → Prop} {D : Dk} {ba pa : Option Addr} {bc pc : Nat} (h : DiskAt w bd S D ba pa bc pc) : D.ps.length ≤ 9223372036854775807 := by
  rcases h.pend.2 with ⟨_, h0⟩ | ⟨g, cap, cur, hv, _, _, h1, h2, _⟩
  · omega
  · unfold maxLen at h2; omega

set_option maxHeartbeats 2000000 in
theorem read_in (w : World) (bd : Nat) (S : Nat → Prop) (D : Dk) (ba pa : Option Addr) (bc pc : Nat) (h : DiskAt w bd S D ba pa bc pc) (i : Nat) (hi : i < D.bs.length) (hr0 : 0 ≤ D.reads) (hr1 : D.reads ≤ 4611686018427387904) :
    Calls Tryz.prog 81 #[.pointer (some ⟨bd, 0, none⟩), .int .i64 i] w fun e w' =>
      e = .returned (.agg (D.look i).toArray) ∧ DiskAt w' bd S { D with reads := D.reads + 1 } ba pa bc pc ∧ Kept (fun k => k = bd) w w' := by
  obtain ⟨Zb, hZb, hz⟩ : ∃ Zb : List Value, Zb = zeroB ∧ ∀ w, (zeroValue 131).run Tryz.prog w = .ok (.agg Zb.toArray) w := ⟨zeroB, rfl, zero_run Tryz.infoBlock⟩
  obtain ⟨Zw, hZw, hzw⟩ : ∃ Zw : List Value, Zw = zeroW ∧ ∀ w, (zeroValue 133).run Tryz.prog w = .ok (.agg Zw.toArray) w := ⟨zeroW, rfl, zero_run Tryz.infoWrite⟩
  have HZb : Hid (Zb.length = 128) := by rw [hZb]; exact zeroB_ok.1
  have HZw : Hid (Zw.length = 129) := by rw [hZw]; exact congrArg (· + 1) zeroB_ok.1
  clear hZb hZw
  obtain ⟨g, rfl⟩ := h.row (by omega)
  have hc0 := h.c0
  have hc1 := h.c1
  have hc3 := h.c3
  have hf3 := h.fz 3
  have hbd := h.lt bd h.bdS
  have HH : Hid (DiskAt w bd S D (some ⟨g, 0, none⟩) pa bc pc) := h
  have hps := h.len
  have HOB : Hid (BlkOk D.bs[i]) := h.ok.bs _ (List.getElem_mem hi)
  have HS1 : Hid (∀ k, S k → k < w.heap.size) := h.lt
  have H1 : Hid (DiskAt (w.setCell ⟨bd, 3, none⟩ (.int .i64 (D.reads + 1))) bd S { D with reads := D.reads + 1 } (some ⟨g, 0, none⟩) pa bc pc) := h.set_reads (D.reads + 1)
  have H2 : Hid (DiskAt ((w.setCell ⟨bd, 3, none⟩ (.int .i64 (D.reads + 1))).alloc (.cells Zb.toArray 131)) bd S { D with reads := D.reads + 1 } (some ⟨g, 0, none⟩) pa bc pc) :=
    H1.out.kept (Kept.alloc (fun _ => False) _ _) (fun _ _ hf => hf)
  have HR : Hid (RdInv w (((w.setCell ⟨bd, 3, none⟩ (.int .i64 (D.reads + 1))).alloc (.cells Zb.toArray 131)).alloc (.cells D.bs[i].toArray 131)) bd S { D with reads := D.reads + 1 } (some ⟨g, 0, none⟩) pa bc pc Zb D.bs[i]) := by
    refine ⟨H2.out.kept (Kept.alloc (fun _ => False) _ _) (fun _ _ hf => hf), ((Kept.setCell (S := fun k => k = bd) w _ _ rfl).trans (Kept.alloc _ _ _) (fun _ h => .inl h)).trans (Kept.alloc _ _ _) (fun _ h => .inl h), ?_, ?_⟩
    · have := heap_alloc2_old (w.setCell ⟨bd, 3, none⟩ (.int .i64 (D.reads + 1))) (.cells Zb.toArray 131) (.cells D.bs[i].toArray 131)
      simpa using this
    · have := heap_alloc2_new (w.setCell ⟨bd, 3, none⟩ (.int .i64 (D.reads + 1))) (.cells Zb.toArray 131) (.cells D.bs[i].toArray 131)
      simpa using this
  have HI : Hid ((Tryz.prog.info? 131).map (·.size) = some 128) := size_of Tryz.infoBlock
  have HIw : Hid ((Tryz.prog.info? 133).map (·.size) = some 129) := size_of Tryz.infoWrite
  clear h
  have hlt : (i : Int) < (D.bs.length : Int) := by omega
  go_enter Tryz.func81, Tryz.ntmps81
  go_wp2_with (first
    | (refine wpList_load_mid rfl 131 (.tmp 32) rfl _ _ rfl D.bs[i] _ (H2.out.range i hi) Tryz.underlying131 rfl (by rw [HOB.out.1]; exact HI.out) ?_)
    | (refine wpList_store_new rfl 131 (.tmp 5) (.tmp 33) rfl _ _ D.bs[i] (by simp) rfl rfl (by rw [HOB.out.1]; exact HI.out) (by rw [HOB.out.1]; simpa using HZb.out) HOB.out.2 ?_))
  go_loopw [39] (fun t wr => ∃ k : Nat, k ≤ D.ps.length ∧ t = .int .i64 k ∧ RdInv w wr bd S { D with reads := D.reads + 1 } (some ⟨g, 0, none⟩) pa bc pc Zb (lastOf i (D.ps.take k) D.bs[i])) (fun t _ => D.ps.length - (intOf t).toNat)
  case atStart => exact ⟨0, Nat.zero_le _, rfl, HR.out⟩
  case round =>
    obtain ⟨k, hk, rfl, hinv⟩ := hrel
    have HV : Hid (RdInv w wr bd S { D with reads := D.reads + 1 } (some ⟨g, 0, none⟩) pa bc pc Zb (lastOf i (D.ps.take k) D.bs[i])) := hinv
    clear hinv
    have HL : Hid (BlkOk (lastOf i (D.ps.take k) D.bs[i])) := lastOf_ok HOB.out (fun p hp => (HH.out.ok.ps p (List.mem_of_mem_take hp)).2)
    have hsz := HV.out.lt
    by_cases hlt2 : k < D.ps.length
    · obtain ⟨g2, rfl⟩ := HH.out.prow (by omega)
      have HP : Hid (wr.rangeAt g2 (k * 129) (.int .i64 (D.ps[k].1 : Int) :: D.ps[k].2)) := HV.out.disk.prange k hlt2
      have HPO : Hid (BlkOk D.ps[k].2) := (HH.out.ok.ps _ (List.getElem_mem hlt2)).2
      have HLS : Hid (lastOf i (D.ps.take (k + 1)) D.bs[i] = if D.ps[k].1 = i then D.ps[k].2 else lastOf i (D.ps.take k) D.bs[i]) := lastOf_snoc i D.ps D.bs[i] k hlt2
      generalize hq : D.ps[k] = q at *
      obtain ⟨qi, qb⟩ := q
      have HP1 : Hid (Value.oneCell' (.int .i64 (qi : Int)) = true) := rfl
      have HA : Hid (RdInv w (wr.alloc (.cells (.int .i64 (qi : Int) :: qb).toArray 133)) bd S { D with reads := D.reads + 1 } (some ⟨g, 0, none⟩) (some ⟨g2, 0, none⟩) bc pc Zb (lastOf i (D.ps.take k) D.bs[i])) := HV.out.alloc _
      clear hq
      have hlt3 : (k : Int) < (D.ps.length : Int) := by omega
      by_cases hqi : qi = i
      · have hq2 : ((qi : Int) == (i : Int)) = true := by simp [hqi]
        have HQ : Hid (qi = i) := hqi
        clear hqi
        go_wp2_with (first
          | (refine wpList_load_mid rfl 133 (.tmp 41) rfl _ _ rfl (.int .i64 (qi : Int) :: qb) _ HP.out Tryz.underlying133 rfl (by rw [List.length_cons, HPO.out.1]; exact HIw.out) ?_)
          | (refine wpList_store_new rfl 133 (.tmp 7) (.tmp 42) rfl _ _ (.int .i64 (qi : Int) :: qb) rfl rfl rfl (by rw [List.length_cons, HPO.out.1]; exact HIw.out) (by rw [List.length_cons, HPO.out.1]; simpa using HZw.out) (List.forall_mem_cons.2 ⟨HP1.out, HPO.out.2⟩) ?_)
          | (refine wpList_load_mid rfl 131 (.tmp 47) rfl _ _ rfl qb _ (range_of_block1 (heap_alloc_new wr _)) Tryz.underlying131 rfl (by rw [HPO.out.1]; exact HI.out) ?_)
          | (refine wpList_store_mid rfl 131 (.tmp 5) (.tmp 48) rfl _ _ _ rfl rfl (by have := there_of_block HA.out.curb; rw [HL.out.1] at this; simpa [HPO.out.1] using this) (by rw [List.size_toArray, HPO.out.1]; exact HI.out) (all_oneCell_toArray HPO.out.2) ?_))
        go_roundw
        case rel => exact ⟨k + 1, by omega, by go_num, by rw [HLS.out, if_pos HQ.out]; exact HA.out.set HS1.out qb (by rw [HL.out.1, HPO.out.1])⟩
        case measure => simp [intOf]; omega
      · have hq2 : ((qi : Int) == (i : Int)) = false := by simp; omega
        have HQ : Hid (¬ qi = i) := hqi
        clear hqi
        go_wp2_with (first
          | (refine wpList_load_mid rfl 133 (.tmp 41) rfl _ _ rfl (.int .i64 (qi : Int) :: qb) _ HP.out Tryz.underlying133 rfl (by rw [List.length_cons, HPO.out.1]; exact HIw.out) ?_)
          | (refine wpList_store_new rfl 133 (.tmp 7) (.tmp 42) rfl _ _ (.int .i64 (qi : Int) :: qb) rfl rfl rfl (by rw [List.length_cons, HPO.out.1]; exact HIw.out) (by rw [List.length_cons, HPO.out.1]; simpa using HZw.out) (List.forall_mem_cons.2 ⟨HP1.out, HPO.out.2⟩) ?_))
        go_roundw
        case rel => exact ⟨k + 1, by omega, by go_num, by rw [HLS.out, if_neg HQ.out]; exact HA.out⟩
        case measure => simp [intOf]; omega
    · have hge : ¬ (k : Int) < (D.ps.length : Int) := by omega
      go_wp2_with (first
        | (refine wpList_load_mid rfl 131 (.tmp 5) rfl _ _ rfl (lastOf i (D.ps.take k) D.bs[i]) _ (range_of_block HV.out.curb) Tryz.underlying131 rfl (by rw [HL.out.1]; exact HI.out) ?_)
        | (refine wpList_store_mid rfl 131 (.tmp 4) (.tmp 50) rfl _ _ _ rfl rfl (by have := there_of_block HV.out.resb; rw [HZb.out] at this; simpa [HL.out.1] using this) (by rw [List.size_toArray, HL.out.1]; exact HI.out) (all_oneCell_toArray HL.out.2) ?_))
      obtain ⟨r1, r2, r3⟩ := HV.out.done HS1.out (by rw [HZb.out, HL.out.1])
      have hkk : lastOf i (D.ps.take k) D.bs[i] = D.look i := by
        unfold Dk.look
        rw [if_pos ⟨by omega, hlt⟩, List.take_of_length_le (by omega), Int.toNat_natCast, List.getD_eq_getElem?_getD, List.getElem?_eq_getElem hi, Option.getD_some]
      refine bodyPost_ret (v := .agg (lastOf i (D.ps.take k) D.bs[i]).toArray) (results_cell_row Tryz.results81 _ _ w.heap.size 131 _ (0, 0) _ rfl r3 Tryz.underlying131 rfl (by rw [List.size_toArray, HL.out.1]; exact HI.out)) rfl ⟨by rw [hkk], r1, r2⟩
end Go.Proofs.YtcoengihaobddaaGreatDoor.disk
namespace Go.Proofs.YtcoengihaobddaaGreatDoor.disk
set_option maxRecDepth 8000
open Go.RowKit

theorem fold_set (off : Nat) : ∀ (vs : List Value) (k : Nat) (cells : Array Value), off + k + vs.length ≤ cells.size →
    ((vs.zipIdx k).foldl (fun cs (p : Value × Nat) => cs.setIfInBounds (off + p.2) p.1) cells).toList = cells.toList.take (off + k) ++ vs ++ cells.toList.drop (off + k + vs.length)
  | [], k, cells, _ => by simp
  | v :: r, k, cells, h => by
    simp only [List.length_cons] at h
    rw [List.zipIdx_cons, List.foldl_cons, fold_set off r (k + 1) _ (by simp; omega)]
    simp only [Array.toList_setIfInBounds, List.length_cons]
    rw [List.set_eq_take_append_cons_drop, if_pos (by simp; omega)]
    obtain ⟨k1, k2⟩ := cut_mid (cells.toList.take (off + k)) (cells.toList.drop (off + k + 1)) v (off + k) r.length (by simp; omega)
    rw [show off + (k + 1) = off + k + 1 from by omega, k1, k2, List.drop_drop, show off + k + 1 + r.length = off + k + (r.length + 1) from by omega]
    simp
theorem fold_set1 (off : Nat) (vs : List Value) (cells : Array Value) (h : off + vs.length ≤ cells.size) :
    vs.zipIdx.foldl (fun cs (p : Value × Nat) => cs.setIfInBounds (off + p.2) p.1) cells = (cells.toList.take off ++ vs ++ cells.toList.drop (off + vs.length)).toArray := by
  apply Array.ext'
  rw [fold_set off vs 0 cells (by simpa using h)]
  simp
theorem fold_set0 (vs : List Value) (cells : Array Value) (h : vs.length = cells.size) :
    vs.zipIdx.foldl (fun cs (p : Value × Nat) => cs.setIfInBounds p.2 p.1) cells = vs.toArray := by
  have := fold_set1 0 vs cells (by omega)
  simp only [Nat.zero_add] at this
  rw [this, h]
  simp

theorem run_size {t : TypeId} {n : Nat} (h : (Tryz.prog.info? t).map (·.size) = some n) (w : World) : (sizeOf t).run Tryz.prog w = .ok n w := by
  cases hq : Tryz.prog.info? t with
  | none => simp [hq] at h
  | some i => simp [hq] at h; simp [sizeOf, typeInfo, hq, h]
theorem size_int : (Tryz.prog.info? 3).map (·.size) = some 1 := by kernel_rfl

/-- The value of a write, out of its number and its block. -/
theorem run_build_write (w : World) (n : Int) (b : List Value) (h : b.length = 128) :
    (Instr.build 133 #[(0, .int .i64 n), (1, .agg b.toArray)]).run Tryz.prog w = .ok (.agg (.int .i64 n :: b).toArray) w := by
  have hz := zero_run Tryz.infoWrite w
  have hzl : zeroW.length = 129 := congrArg (· + 1) zeroB_ok.1
  have h1 : ∀ w, (sizeOf 3).run Tryz.prog w = .ok 1 w := run_size size_int
  have h2 : ∀ w, (sizeOf 131).run Tryz.prog w = .ok 128 w := run_size (size_of Tryz.infoBlock)
  generalize hZW : zeroW = ZW at *
  have hne : ¬ ZW = [] := fun e => by rw [e] at hzl; simp at hzl
  have f2 := fold_set1 1 b (ZW.set 0 (.int .i64 n)).toArray (by simp [h, hzl])
  have hl : ¬ (¬ b.length = 128 ∨ ZW.length < 1 + b.length) := by omega
  simp only [Instr.build, Sem.run_bind, hz, Result.andThen_ok, run_underlying Tryz.underlying133 w]
  simp [h1, h2, Value.cells, Instr.fill]
  rw [if_neg hne, if_neg hl, f2]
  simp only [Sem.run_pure]
  congr 2
  apply Array.ext'
  cases ZW with
  | nil => exact absurd rfl hne
  | cons z Z => simp [h]; simp at hzl; omega

/-- A new row with the one value. -/
theorem run_slice_write (w : World) (cs : List Value) (h : cs.length = 129) :
    (Instr.buildSlice 116 1 #[(0, .agg cs.toArray)]).run Tryz.prog w = .ok (.slice (some ⟨w.heap.size, 0, none⟩) 1 1) (w.alloc (.cells cs.toArray 133)) := by
  have hz := zero_run Tryz.infoWrite w
  have h2 : ∀ w, (sizeOf 133).run Tryz.prog w = .ok 129 w := run_size (size_of Tryz.infoWrite)
  have hzl : zeroW.length = 129 := congrArg (· + 1) zeroB_ok.1
  generalize hZW : zeroW = ZW at *
  have hl : ¬ (¬ cs.length = 129 ∨ 129 < cs.length) := by omega
  simp only [Instr.buildSlice, Sem.run_bind, Result.andThen_ok, run_underlying Tryz.underlying116 w]
  first
    | (simp [h2, Value.cells, Instr.fill]
       rw [if_neg hl, fold_set0 cs _ (by simp [h])]
       simp [newRow]
       done)
    | (simp [h2, hz, Value.cells, Instr.fill, hzl]
       rw [if_neg hl, fold_set0 cs _ (by simp [h])]
       simp [newRow])
/-! The two as the walk's rules: the operations are folded before their parts are looked at, and run when these stand written out. -/
def buildW (parts : Array (Nat × Value)) : Sem Value := Instr.build 133 parts
theorem buildW_eq (parts : Array (Nat × Value)) : Instr.build 133 parts = buildW parts := rfl
theorem run_buildW (w : World) (n : Int) (b : List Value) (h : b.length = 128) : (buildW #[(0, .int .i64 n), (1, .agg b.toArray)]).run Tryz.prog w = .ok (.agg (.int .i64 n :: b).toArray) w := run_build_write w n b h
def sliceW (len : Nat) (parts : Array (Nat × Value)) : Sem Value := Instr.buildSlice 116 len parts
theorem sliceW_eq (len : Nat) (parts : Array (Nat × Value)) : Instr.buildSlice 116 len parts = sliceW len parts := rfl
theorem run_sliceW (w : World) (c : Value) (cs : List Value) (h : cs.length = 128) : (sliceW 1 #[(0, .agg (c :: cs).toArray)]).run Tryz.prog w = .ok (.slice (some ⟨w.heap.size, 0, none⟩) 1 1) (w.alloc (.cells (c :: cs).toArray 133)) :=
  run_slice_write w (c :: cs) (by simp [h])
def loadB (v : Value) : Sem Value := Instr.loadAt 131 v
theorem loadB_eq (v : Value) : Instr.loadAt 131 v = loadB v := rfl
theorem run_loadB (w : World) (b o : Nat) (cs : List Value) (hc : w.rangeAt b o cs) (h : cs.length = 128) : (loadB (.pointer (some ⟨b, o, none⟩))).run Tryz.prog w = .ok (.agg cs.toArray) w :=
  run_loadAt_mid w b o 131 cs _ hc Tryz.underlying131 rfl (by rw [h]; exact size_of Tryz.infoBlock)
end Go.Proofs.YtcoengihaobddaaGreatDoor.disk

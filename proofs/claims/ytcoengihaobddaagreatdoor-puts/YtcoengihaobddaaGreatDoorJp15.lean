/- Part 15 of 39 of a proof: Pg1, Pg2, Blk1, Blk2, Pg3 -/
import Derived.Test.YtcoengihaobddaaGreatDoorJp01
import Derived.Test.YtcoengihaobddaaGreatDoorJp02
import Derived.Deep.QuietTactic
import Derived.BigQuiet
namespace Go.Proofs.YtcoengihaobddaaGreatDoor.prog

/-- The number that some bytes are, the greatest part first. -/
def numOf (l : List UInt8) : Nat := l.foldl (fun n b => n * 256 + b.toNat) 0
/-- A number in k bytes. -/
def bytesOf : Nat → Nat → List UInt8
  | 0, _ => []
  | k + 1, n => bytesOf k (n / 256) ++ [UInt8.ofNat (n % 256)]
theorem bytesOf_len : ∀ k n, (bytesOf k n).length = k
  | 0, _ => rfl
  | k + 1, n => by simp [bytesOf, bytesOf_len k]
theorem numOf_snoc (l : List UInt8) (b : UInt8) : numOf (l ++ [b]) = numOf l * 256 + b.toNat := by simp [numOf]
theorem numOf_bytesOf : ∀ k n, n < 256 ^ k → numOf (bytesOf k n) = n
  | 0, n, h => by simp at h; subst h; rfl
  | k + 1, n, h => by
    rw [bytesOf, numOf_snoc, numOf_bytesOf k (n / 256) (by rw [Nat.pow_succ] at h; exact Nat.div_lt_of_lt_mul (by omega))]
    simp; omega
theorem bytesOf_zero : ∀ k, bytesOf k 0 = List.replicate k 0
  | 0 => rfl
  | k + 1 => by rw [bytesOf, Nat.zero_div, bytesOf_zero k, List.replicate_succ']; rfl
theorem numOf_lt : ∀ l : List UInt8, numOf l < 256 ^ l.length := by
  intro l
  induction h : l.length generalizing l with
  | zero => rw [List.eq_nil_of_length_eq_zero h]; simp [numOf]
  | succ k ih =>
    obtain ⟨r, b, rfl⟩ : ∃ r b, l = r ++ [b] := by
      rcases List.eq_nil_or_concat l with rfl | ⟨r, b, rfl⟩
      · simp at h
      · exact ⟨r, b, by simp⟩
    have hr := ih r (by simpa using h)
    have hb := b.toNat_lt
    rw [numOf_snoc, Nat.pow_succ]
    omega

/-- How wide an item of a kind is; how many a page holds. -/
def width : Nat → Nat
  | 1 => 2
  | 2 => 8
  | 3 => 1
  | 4 => 18
  | 5 => 20
  | 6 => 1
  | _ => 0
def room (k : Nat) : Nat := 124 / width k

/-- A page: its kind, its link, its items. -/
structure Pg where
  kind : Nat
  link : Nat
  items : List (List UInt8)
structure Pg.Ok (p : Pg) : Prop where
  kind : p.kind ≤ 6
  link : p.link < 65536
  wide : ∀ i ∈ p.items, i.length = width p.kind
  fits : p.items.length * width p.kind ≤ 124
  few : p.items.length ≤ 124
def Pg.bytes (p : Pg) : List UInt8 := UInt8.ofNat p.kind :: UInt8.ofNat p.items.length :: bytesOf 2 p.link ++ p.items.flatten ++ List.replicate (124 - p.items.length * width p.kind) 0

theorem flat_length (c : Nat) : ∀ (l : List (List UInt8)), (∀ b ∈ l, b.length = c) → l.flatten.length = l.length * c
  | [], _ => by simp
  | b :: l, h => by
    rw [List.flatten_cons, List.length_append, flat_length c l (fun x hx => h x (List.mem_cons_of_mem _ hx)), h b (List.mem_cons_self ..), List.length_cons, Nat.add_mul]; omega
theorem Pg.Ok.len {p : Pg} (h : p.Ok) : p.bytes.length = 128 := by
  have := h.fits
  simp [Pg.bytes, bytesOf_len]
  have e := flat_length _ p.items h.wide
  rw [List.length_flatten] at e
  omega
/-- A page without items. -/
def Pg.new (k : Nat) : Pg := ⟨k, 0, []⟩
theorem Pg.new_ok (k : Nat) (h : k ≤ 6) : (Pg.new k).Ok where
  kind := h
  link := by simp [Pg.new]
  wide := fun _ h => nomatch h
  fits := by simp [Pg.new]
  few := by simp [Pg.new]
theorem Pg.new_bytes (k : Nat) : (Pg.new k).bytes = UInt8.ofNat k :: List.replicate 127 0 := by
  simp [Pg.bytes, Pg.new, bytesOf_zero]
/-- The page of noughts is that of the kind 0. -/
theorem Pg.nought : (Pg.new 0).bytes = List.replicate 128 0 := by rw [Pg.new_bytes]; rfl

theorem Pg.at0 (p : Pg) : p.bytes[0]? = some (UInt8.ofNat p.kind) := rfl
theorem Pg.at1 (p : Pg) : p.bytes[1]? = some (UInt8.ofNat p.items.length) := rfl
theorem Pg.front (p : Pg) : (p.bytes.drop 2).take 2 = bytesOf 2 p.link := by
  have : (bytesOf 2 p.link).length = 2 := bytesOf_len 2 _
  simp only [Pg.bytes, List.cons_append, List.drop_succ_cons, List.drop_zero, List.append_assoc]
  conv => lhs; arg 1; rw [← this]
  exact List.take_left
theorem Pg.behind (p : Pg) : p.bytes.drop 4 = p.items.flatten ++ List.replicate (124 - p.items.length * width p.kind) 0 := by
  have : (bytesOf 2 p.link).length = 2 := bytesOf_len 2 _
  simp only [Pg.bytes, List.cons_append, List.drop_succ_cons, List.append_assoc]
  conv => lhs; rw [← this]
  exact List.drop_left
theorem flat_piece (c : Nat) : ∀ (l : List (List UInt8)) (r : List UInt8), (∀ b ∈ l, b.length = c) → ∀ i (h : i < l.length), ((l.flatten ++ r).drop (i * c)).take c = l[i]
  | [], _, _, i, h => by simp at h
  | b :: l, r, hb, 0, _ => by
    have := hb b (List.mem_cons_self ..)
    simp only [Nat.zero_mul, List.drop_zero, List.flatten_cons, List.append_assoc, List.getElem_cons_zero]
    rw [← this, List.take_left]
  | b :: l, r, hb, i + 1, h => by
    have e := hb b (List.mem_cons_self ..)
    simp only [List.flatten_cons, List.append_assoc, List.getElem_cons_succ]
    rw [Nat.add_mul, Nat.one_mul, Nat.add_comm, ← List.drop_drop]
    conv => lhs; rw [show (b ++ (l.flatten ++ r)).drop c = l.flatten ++ r from by rw [← e]; exact List.drop_left]
    exact flat_piece c l r (fun x hx => hb x (List.mem_cons_of_mem _ hx)) i (by simpa using h)
/-- An item's bytes. -/
theorem Pg.Ok.item {p : Pg} (h : p.Ok) (i : Nat) (hi : i < p.items.length) : (p.bytes.drop (4 + i * width p.kind)).take (width p.kind) = p.items[i] := by
  rw [← List.drop_drop, p.behind]
  exact flat_piece _ _ _ h.wide i hi
/-- All items' bytes. -/
theorem Pg.Ok.all {p : Pg} (h : p.Ok) : (p.bytes.drop 4).take (p.items.length * width p.kind) = p.items.flatten := by
  rw [p.behind, ← flat_length _ p.items h.wide, List.take_left]

/-- Bytes written over a part of some bytes. -/
def over (l : List UInt8) (o : Nat) (v : List UInt8) : List UInt8 := l.take o ++ v ++ l.drop (o + v.length)
theorem over_len (l : List UInt8) (o : Nat) (v : List UInt8) (h : o + v.length ≤ l.length) : (over l o v).length = l.length := by
  simp [over]; omega
def Pg.push (p : Pg) (v : List UInt8) : Pg := { p with items := p.items ++ [v] }
def Pg.setLink (p : Pg) (n : Nat) : Pg := { p with link := n }
/-- The link is written. -/
theorem Pg.setLink_bytes (p : Pg) (n : Nat) : over p.bytes 2 (bytesOf 2 n) = (p.setLink n).bytes := by
  have h1 : (bytesOf 2 n).length = 2 := bytesOf_len 2 _
  have h2 : (bytesOf 2 p.link).length = 2 := bytesOf_len 2 _
  have hd : p.bytes.drop (2 + 2) = _ := p.behind
  unfold over
  rw [h1, hd]
  simp [Pg.bytes, Pg.setLink]
/-- An item more: its count is told, its bytes are written. -/
theorem Pg.Ok.push_bytes {p : Pg} (h : p.Ok) (v : List UInt8) (hv : v.length = width p.kind) :
    over (over p.bytes 1 [UInt8.ofNat (p.items.length + 1)]) (4 + p.items.length * width p.kind) v = (p.push v).bytes := by
  have h2 : (bytesOf 2 p.link).length = 2 := bytesOf_len 2 _
  have hfl := flat_length _ p.items h.wide
  have e1 : over p.bytes 1 [UInt8.ofNat (p.items.length + 1)] = (UInt8.ofNat p.kind :: UInt8.ofNat (p.items.length + 1) :: bytesOf 2 p.link ++ p.items.flatten) ++ List.replicate (124 - p.items.length * width p.kind) 0 := by
    simp [over, Pg.bytes]
  have hl : (UInt8.ofNat p.kind :: UInt8.ofNat (p.items.length + 1) :: bytesOf 2 p.link ++ p.items.flatten).length = 4 + p.items.length * width p.kind := by
    simp only [List.length_append, List.length_cons, h2, hfl]
    try omega
  rw [e1]
  have e2 : 124 - p.items.length * width p.kind - width p.kind = 124 - (p.items.length + 1) * width p.kind := by rw [Nat.add_mul]; omega
  unfold over
  rw [← hl, List.take_left, List.drop_length_add_append, List.drop_replicate, hv, e2]
  simp [Pg.bytes, Pg.push]
theorem Pg.Ok.push {p : Pg} (h : p.Ok) {v : List UInt8} (hv : v.length = width p.kind) (hf : (p.items.length + 1) * width p.kind ≤ 124) (h1 : p.items.length + 1 ≤ 124) : (p.push v).Ok :=
  ⟨h.kind, h.link, fun i hi => by
    rcases List.mem_append.1 hi with hi | hi
    · exact h.wide i hi
    · rw [List.mem_singleton.1 hi]; exact hv, by simpa [Pg.push] using hf, by simpa [Pg.push] using h1⟩
end Go.Proofs.YtcoengihaobddaaGreatDoor.prog
namespace Go.Proofs.YtcoengihaobddaaGreatDoor.prog
open Go.Proofs.YtcoengihaobddaaGreatDoor.ref

/-- A place in the order of versions. -/
structure Pl where
  key : ByteArray
  num : Int
deriving DecidableEq
def Pl.lt (a b : Pl) : Bool := lessB a.key b.key || (decide (a.key = b.key) && decide (b.num < a.num))
theorem Pl.lt_iff (a b : Pl) : a.lt b = true ↔ lessB a.key b.key = true ∨ (a.key = b.key ∧ b.num < a.num) := by simp [Pl.lt]
theorem Pl.irrefl (a : Pl) : ¬ a.lt a = true := by rw [Pl.lt_iff, lessB_irrefl]; simp
theorem Pl.trans {a b c : Pl} (h : a.lt b = true) (k : b.lt c = true) : a.lt c = true := by
  rw [Pl.lt_iff] at *
  rcases h with h | ⟨h, h'⟩ <;> rcases k with k | ⟨k, k'⟩
  · exact .inl (lessB_trans h k)
  · exact .inl (by rw [← k]; exact h)
  · exact .inl (by rw [h]; exact k)
  · exact .inr ⟨h.trans k, by omega⟩
theorem Pl.total {a b : Pl} (h : a ≠ b) (k : ¬ a.lt b = true) : b.lt a = true := by
  rw [Pl.lt_iff] at *
  by_cases e : a.key = b.key
  · right
    refine ⟨e.symm, ?_⟩
    by_cases h2 : b.num < a.num
    · exact absurd (.inr ⟨e, h2⟩) k
    · have : a.num ≠ b.num := fun e2 => h (by cases a; cases b; simp_all)
      omega
  · left
    cases h2 : lessB a.key b.key with
    | true => exact absurd (.inl h2) k
    | false => exact lessB_total e h2
theorem Pl.asymm {a b : Pl} (h : a.lt b = true) : ¬ b.lt a = true := fun k => Pl.irrefl a (Pl.trans h k)
theorem Pl.lt_of_not {a b c : Pl} (h : ¬ b.lt a = true) (k : b.lt c = true) : a.lt c = true := by
  by_cases e : a = b
  · rw [e]; exact k
  · by_cases h2 : a.lt b = true
    · exact Pl.trans h2 k
    · exact absurd (Pl.total e h2) h
theorem Pl.lt_of_lt_not {a b c : Pl} (h : a.lt b = true) (k : ¬ c.lt b = true) : a.lt c = true := by
  by_cases e : b = c
  · rw [← e]; exact h
  · by_cases h2 : b.lt c = true
    · exact Pl.trans h h2
    · exact absurd (Pl.total e h2) k

/-- An entry of a node: a version, and where its body begins; or where a child is. -/
structure En where
  pl : Pl
  mark : Bool
  size : Nat
  at_ : Nat
structure En.Ok (e : En) : Prop where
  key : e.pl.key.data.toList.length ≤ 8
  zero : (0 : UInt8) ∉ e.pl.key.data.toList
  num0 : 0 ≤ e.pl.num
  num1 : e.pl.num < 9223372036854775808
  size : e.size ≤ 300
  mark : e.mark = true → e.size = 0
  at_ : e.at_ < 65536

/-- A key in its eight bytes. -/
def keyBytes (k : ByteArray) : List UInt8 := k.data.toList ++ List.replicate (8 - k.data.toList.length) 0
theorem keyBytes_len (k : ByteArray) (h : k.data.toList.length ≤ 8) : (keyBytes k).length = 8 := by simp [keyBytes] at *; omega
/-- The noughts at the end are cut off. -/
def cut (l : List UInt8) : List UInt8 := (l.reverse.dropWhile (· == 0)).reverse
theorem cut_zero (l : List UInt8) : cut (l ++ [0]) = cut l := by simp [cut]
theorem cut_pad (l : List UInt8) : ∀ n, cut (l ++ List.replicate n 0) = cut l
  | 0 => by simp
  | n + 1 => by rw [List.replicate_succ', ← List.append_assoc, cut_zero, cut_pad l n]
theorem cut_none {l : List UInt8} (h : (0 : UInt8) ∉ l) : cut l = l := by
  unfold cut
  rw [show l.reverse.dropWhile (· == 0) = l.reverse from ?_, List.reverse_reverse]
  cases hl : l.reverse with
  | nil => rfl
  | cons a r =>
    have : a ∈ l := by rw [← List.mem_reverse, hl]; exact List.mem_cons_self ..
    rw [List.dropWhile_cons, if_neg]
    intro h0
    exact h (by rw [← eq_of_beq h0]; exact this)
theorem cut_key (k : ByteArray) (h : (0 : UInt8) ∉ k.data.toList) : cut (keyBytes k) = k.data.toList := by
  rw [keyBytes, cut_pad, cut_none h]

def placeBytes (p : Pl) : List UInt8 := keyBytes p.key ++ bytesOf 8 p.num.toNat
def sizeOf' (e : En) : Nat := if e.mark then 65535 else e.size
/-- An item of a branch; of a leaf. -/
def branchItem (e : En) : List UInt8 := placeBytes e.pl ++ bytesOf 2 e.at_
def leafItem (e : En) : List UInt8 := branchItem e ++ bytesOf 2 (sizeOf' e)
def itemOf (k : Nat) (e : En) : List UInt8 := if k = 5 then leafItem e else branchItem e
theorem branchItem_len {e : En} (h : e.Ok) : (branchItem e).length = 18 := by simp [branchItem, placeBytes, bytesOf_len, keyBytes_len _ h.key]
theorem leafItem_len {e : En} (h : e.Ok) : (leafItem e).length = 20 := by simp [leafItem, branchItem_len h, bytesOf_len]
theorem item_len {e : En} (h : e.Ok) {k : Nat} (hk : k = 4 ∨ k = 5) : (itemOf k e).length = width k := by
  rcases hk with rfl | rfl
  · simp [itemOf, branchItem_len h, width]
  · simp [itemOf, leafItem_len h, width]
/-- An item's parts. -/
theorem branch_parts {e : En} (h : e.Ok) (r : List UInt8) : (branchItem e ++ r).take 8 = keyBytes e.pl.key ∧ ((branchItem e ++ r).drop 8).take 8 = bytesOf 8 e.pl.num.toNat ∧ ((branchItem e ++ r).drop 16).take 2 = bytesOf 2 e.at_ ∧ (branchItem e ++ r).drop 18 = r := by
  have h1 := keyBytes_len _ h.key
  have h2 := bytesOf_len 8 e.pl.num.toNat
  have h3 := bytesOf_len 2 e.at_
  have e0 : branchItem e ++ r = keyBytes e.pl.key ++ (bytesOf 8 e.pl.num.toNat ++ (bytesOf 2 e.at_ ++ r)) := by simp [branchItem, placeBytes]
  have td : ∀ (n : Nat) (x y : List UInt8), x.length = n → (x ++ y).take n = x ∧ (x ++ y).drop n = y := fun n x y hx => by
    subst hx; exact ⟨List.take_left, List.drop_left⟩
  have d1 := (td 8 _ (bytesOf 8 e.pl.num.toNat ++ (bytesOf 2 e.at_ ++ r)) h1)
  have d2 := (td 8 _ (bytesOf 2 e.at_ ++ r) h2)
  have d3 := (td 2 _ r h3)
  rw [e0]
  refine ⟨d1.1, ?_, ?_, ?_⟩
  · rw [d1.2]; exact d2.1
  · rw [show (16 : Nat) = 8 + 8 from rfl, ← List.drop_drop, d1.2, d2.2]; exact d3.1
  · rw [show (18 : Nat) = 8 + 8 + 2 from rfl, ← List.drop_drop, ← List.drop_drop, d1.2, d2.2]; exact d3.2
theorem num_back {e : En} (h : e.Ok) : ((numOf (bytesOf 8 e.pl.num.toNat) : Nat) : Int) = e.pl.num := by
  have h0 := h.num0
  have h1 := h.num1
  rw [numOf_bytesOf _ _ (by have : (256 : Nat) ^ 8 = 18446744073709551616 := by decide
                            omega)]
  omega
theorem at_back {e : En} (h : e.Ok) : numOf (bytesOf 2 e.at_) = e.at_ := numOf_bytesOf _ _ (by have := h.at_; omega)
theorem size_back {e : En} (h : e.Ok) : numOf (bytesOf 2 (sizeOf' e)) = sizeOf' e := numOf_bytesOf _ _ (by
  have := h.size
  unfold sizeOf'
  split <;> omega)
/-- The page of a node. -/
def nodePg (k : Nat) (es : List En) : Pg := ⟨k, 0, es.map (itemOf k)⟩
theorem nodePg_ok {k : Nat} (hk : k = 4 ∨ k = 5) {es : List En} (h : ∀ e ∈ es, e.Ok) (hl : es.length ≤ 6) : (nodePg k es).Ok where
  kind := by rcases hk with rfl | rfl <;> simp [nodePg]
  link := by simp [nodePg]
  wide := fun i hi => by
    obtain ⟨e, he, rfl⟩ := List.mem_map.1 hi
    exact item_len (h e he) hk
  fits := by rcases hk with rfl | rfl <;> simp [nodePg, width] <;> omega
  few := by simp [nodePg]; omega
end Go.Proofs.YtcoengihaobddaaGreatDoor.prog
namespace Go.Proofs.YtcoengihaobddaaGreatDoor.prog
open Go.ChangeShapes Go.WideShapes Go.ChangeAt Go.RowKit Go.Proofs.YtcoengihaobddaaGreatDoor.disk Go.Proofs.YtcoengihaobddaaGreatDoor.ref
open Go.Proofs.YtcoengihaobddaaGreatDoor.keys (ret_int ret_bool beq_no beq_yes)
set_option linter.unusedVariables false

theorem numOf_take (l : List UInt8) (k : Nat) (h : k < l.length) : numOf (l.take (k + 1)) = numOf (l.take k) * 256 + l[k].toNat := by
  rw [List.take_succ_eq_append_getElem h, numOf_snoc]
theorem numOf_le (l : List UInt8) : ∀ k, numOf (l.take k) ≤ numOf l := by
  intro k
  induction h : l.length - k generalizing k with
  | zero => rw [List.take_of_length_le (by omega)]; exact Nat.le_refl _
  | succ n ih =>
    have h1 := ih (k + 1) (by omega)
    rw [numOf_take l k (by omega)] at h1
    omega

theorem or_low (q z : Nat) (hz : z < 256) (h : q * 256 + z < 9223372036854775808) : bits BinOp.or IntKind.i64 ((q : Int) * 256) (z : Int) = ((q * 256 + z : Nat) : Int) := by
  have e1 : BitVec.ofInt 64 ((q : Int) * 256) = BitVec.ofNat 64 (q * 256) := by rw [← BitVec.ofInt_natCast]; congr 1
  have e2 : BitVec.ofInt 64 (z : Int) = BitVec.ofNat 64 z := BitVec.ofInt_natCast ..
  have e3 : (q * 256) ||| z = q * 256 + z := by
    have := Nat.shiftLeft_add_eq_or_of_lt (i := 8) (b := z) (by omega) q
    rw [Nat.shiftLeft_eq] at this
    exact this.symm
  have e4 : (BitVec.ofNat 64 (q * 256) ||| BitVec.ofNat 64 z).toNat = q * 256 + z := by
    have m1 : q * 256 % 18446744073709551616 = q * 256 := by omega
    have m2 : z % 18446744073709551616 = z := by omega
    simp only [BitVec.toNat_or, BitVec.toNat_ofNat, Nat.reducePow]
    rw [m1, m2, e3]
  have e5 : bits BinOp.or IntKind.i64 ((q : Int) * 256) (z : Int) = IntKind.i64.wrap ((BitVec.ofInt 64 ((q : Int) * 256) ||| BitVec.ofInt 64 (z : Int)).toNat : Nat) := rfl
  rw [e5, e1, e2, e4, IntKind.wrap_i64]
  omega

set_option maxHeartbeats 400000 in
theorem number_any (w : World) (P : Nat → Prop) (a : Option Addr) (l : List UInt8) (cap : Nat) (h : Bytes w P a l) (hl : l.length ≤ 8) (hn : numOf l < 9223372036854775808) :
    Calls Tryz.prog 83 #[.slice a l.length cap] w fun e w' => e = .returned (.int .i64 (numOf l : Nat)) ∧ w' = w := by
  have HH : Hid _ := h
  clear h
  go_enter Tryz.func83, Tryz.ntmps83
  go_wp2
  go_loop [3, 8] (fun x t => ∃ k : Nat, k ≤ l.length ∧ t = .int .i64 k ∧ x = .int .i64 (numOf (l.take k) : Nat)) (fun _ t => l.length - (intOf t).toNat)
  case atStart => exact ⟨0, Nat.zero_le _, rfl, rfl⟩
  case round =>
    obtain ⟨k, hk, rfl, rfl⟩ := hrel
    by_cases hlt : k < l.length
    · have h1 := numOf_le l (k + 1)
      have h2 := numOf_take l k hlt
      have HS : Hid _ := h2
      rw [h2] at h1
      have hb := l[k].toNat_lt
      rcases HH.out with h0 | ⟨b, o, rfl, _, _, hc⟩
      · rw [h0] at hlt; simp at hlt
      · have hck := hc k hlt
        generalize numOf (l.take k) = q at *
        clear h2 hc
        generalize l[k].toNat = z at *
        have HO : Hid _ := or_low q z (by omega) (by omega)
        go_wp2
        go_round
        case rel => exact ⟨k + 1, by omega, by go_num, by rw [HS.out, HO.out]⟩
        case measure => simp [intOf]; omega
    · have e : k = l.length := by omega
      subst e
      have h2 : numOf (l.take l.length) = numOf l := by rw [List.take_length]
      rw [h2] at *
      go_wp2
      go_ret
      exact ⟨rfl, rfl⟩

/-- Some bytes are a block of memory of their own. -/
structure BsAt (w : World) (b : Nat) (t : TypeId) (l : List UInt8) : Prop where
  at_ : w.heap[b]? = some (.cells (l.map byteV).toArray t (0, 0))
theorem BsAt.lt {w : World} {b : Nat} {t : TypeId} {l : List UInt8} (h : BsAt w b t l) : b < w.heap.size := (Array.getElem?_eq_some_iff.1 h.at_).1
theorem BsAt.kept {w w' : World} {T : Nat → Prop} {b : Nat} {t : TypeId} {l : List UInt8} (h : BsAt w b t l) (k : Kept T w w') (hn : ¬ T b) : BsAt w' b t l := ⟨(k.block b h.lt hn).trans h.at_⟩
theorem BsAt.cell {w : World} {b : Nat} {t : TypeId} {l : List UInt8} (h : BsAt w b t l) (i : Nat) (hi : i < l.length) : w.cell? ⟨b, i, none⟩ = some (.int .u8 (l[i].toNat : Int)) := by
  rw [cell_of_row w b i _ _ _ h.at_]; simp [hi, byteV]
theorem BsAt.fz {w : World} {b : Nat} {t : TypeId} {l : List UInt8} (h : BsAt w b t l) (i : Nat) : w.frozen? ⟨b, i, none⟩ = false := frozen_of_row w b i _ _ h.at_
theorem BsAt.set {w : World} {b : Nat} {t : TypeId} {l : List UInt8} (h : BsAt w b t l) (i : Nat) (c : UInt8) : BsAt (w.setCell ⟨b, i, none⟩ (.int .u8 (c.toNat : Int))) b t (l.set i c) := by
  refine ⟨?_⟩
  rw [heap_setCell_same w b i _ _ _ h.at_]
  congr 2
  apply Array.ext'
  simp [byteV]
theorem BsAt.bytes {w : World} {b : Nat} {t : TypeId} {l : List UInt8} (h : BsAt w b t l) (P : Nat → Prop) (hP : P b) (o n : Nat) (hn : o + n ≤ l.length) : Bytes w P (some ⟨b, o, none⟩) ((l.drop o).take n) :=
  .inr ⟨b, o, rfl, hP, h.lt, fun j hj => by
    simp only [List.length_take, List.length_drop] at hj
    rw [h.cell (o + j) (by omega)]
    simp⟩

theorem number_at (w : World) (b : Nat) (t : TypeId) (l : List UInt8) (h : BsAt w b t l) (o k cap n : Nat) (hk : o + k ≤ l.length) (hk8 : k ≤ 8) (hn : numOf ((l.drop o).take k) = n) (hb : n < 9223372036854775808) :
    Calls Tryz.prog 83 #[.slice (some ⟨b, o, none⟩) k cap] w fun e w' => e = .returned (.int .i64 n) ∧ w' = w := by
  have hl : ((l.drop o).take k).length = k := by simp; omega
  have := number_any w (fun i => i = b) (some ⟨b, o, none⟩) ((l.drop o).take k) cap (h.bytes (fun i => i = b) rfl o k hk) (by omega) (by omega)
  rw [hl, hn] at this
  exact this

theorem bytesOf_cons : ∀ m n, bytesOf (m + 1) n = UInt8.ofNat (n / 256 ^ m % 256) :: bytesOf m n
  | 0, n => by simp [bytesOf]
  | m + 1, n => by
    rw [bytesOf, bytesOf_cons m (n / 256), bytesOf, Nat.div_div_eq_div_mul, Nat.pow_succ, Nat.mul_comm]; rfl
theorem over_cons (l : List UInt8) (j : Nat) (c : UInt8) (v : List UInt8) (h : j + 1 + v.length ≤ l.length) : over l j (c :: v) = (over l (j + 1) v).set j c := by
  have hl : (over l (j + 1) v).length = l.length := over_len _ _ _ h
  rw [List.set_eq_take_append_cons_drop, if_pos (by omega)]
  have e1 : (l.take (j + 1)).length = j + 1 := by simp; omega
  have e2 : (over l (j + 1) v).take j = l.take j := by
    rw [over, List.append_assoc, List.take_append_of_le_length (by omega), List.take_take, Nat.min_eq_left (by omega)]
  have e3 : (over l (j + 1) v).drop (j + 1) = v ++ l.drop (j + 1 + v.length) := by
    rw [over, List.append_assoc]
    conv => lhs; arg 1; rw [← e1]
    exact List.drop_left
  rw [e2, e3, over]
  simp only [List.length_cons, List.append_assoc, List.cons_append]
  rw [show j + (v.length + 1) = j + 1 + v.length from by omega]
theorem u8_mod (q : Nat) : ((q : Int) % 256) = ((UInt8.ofNat (q % 256)).toNat : Int) := by simp
theorem over_nil (l : List UInt8) (j : Nat) : over l j [] = l := by simp [over]

set_option maxHeartbeats 400000 in
theorem setNumber_any (w : World) (b : Nat) (t : TypeId) (l : List UInt8) (h : BsAt w b t l) (o k cap : Nat) (hk : o + k ≤ l.length) (hk8 : k ≤ 8) (n : Nat) (hn : n < 9223372036854775808) :
    Calls Tryz.prog 138 #[.slice (some ⟨b, o, none⟩) k cap, .int .i64 n] w fun e w' => e = .returned (.tuple #[]) ∧ BsAt w' b t (over l o (bytesOf k n)) ∧ Kept (fun i => i = b) w w' := by
  have HH : Hid _ := h
  clear h
  go_enter Tryz.func138, Tryz.ntmps138
  go_wp2
  go_loopw [1, 4] (fun x i wr => ∃ m : Nat, m ≤ k ∧ i = .int .i64 ((k : Int) - 1 - m) ∧ x = .int .i64 ((n / 256 ^ m : Nat) : Int) ∧ BsAt wr b t (over l (o + (k - m)) (bytesOf m n)) ∧ Kept (fun i => i = b) w wr) (fun _ i _ => (intOf i + 1).toNat)
  case atStart => exact ⟨0, Nat.zero_le _, by simp, by simp, by simp only [bytesOf, over_nil]; exact HH.out, Kept.refl _ _⟩
  case round =>
    obtain ⟨m, hm, rfl, rfl, hb, hkept⟩ := hrel
    have HB : Hid _ := hb
    have HK : Hid _ := hkept
    have hll : (over l (o + (k - m)) (bytesOf m n)).length = l.length := over_len _ _ _ (by rw [bytesOf_len]; omega)
    clear hb hkept
    have hq : n / 256 ^ m ≤ n := Nat.div_le_self _ _
    by_cases hlt : m < k
    · have hc := HB.out.cell (o + (k - 1 - m)) (by omega)
      have hf := HB.out.fz (o + (k - 1 - m))
      have HS : Hid (over l (o + (k - (m + 1))) (bytesOf (m + 1) n) = (over l (o + (k - m)) (bytesOf m n)).set (o + (k - 1 - m)) (UInt8.ofNat (n / 256 ^ m % 256))) := by
        show _ = _
        rw [bytesOf_cons, over_cons _ _ _ _ (by rw [bytesOf_len]; omega), show o + (k - (m + 1)) + 1 = o + (k - m) from by omega, show o + (k - (m + 1)) = o + (k - 1 - m) from by omega]
      have HD : Hid (n / 256 ^ (m + 1) = n / 256 ^ m / 256) := by show _ = _; rw [Nat.pow_succ, Nat.div_div_eq_div_mul]
      generalize (over l (o + (k - m)) (bytesOf m n))[o + (k - 1 - m)].toNat = z at *
      generalize over l (o + (k - m)) (bytesOf m n) = cur at *
      generalize n / 256 ^ m = q at *
      have hi0 : ((k : Int) - 1 - m).toNat = k - 1 - m := by omega
      go_wp2
      go_roundw
      case rel => exact ⟨m + 1, by omega, by go_num, by rw [HD.out]; go_num, by rw [HS.out, u8_mod]; exact HB.out.set _ _, HK.out.trans (Kept.setCell (S := fun i => i = b) _ ⟨b, _, none⟩ _ rfl) (fun _ h => .inl h)⟩
      case measure => simp [intOf]; omega
    · have e : m = k := by omega
      subst e
      generalize n / 256 ^ m = q at *
      go_wp2
      go_end0
      exact ⟨rfl, by have := HB.out; rw [Nat.sub_self, Nat.add_zero] at this; exact this, HK.out⟩
end Go.Proofs.YtcoengihaobddaaGreatDoor.prog
namespace Go.Proofs.YtcoengihaobddaaGreatDoor.prog
open Go.ChangeShapes Go.WideShapes Go.ChangeAt Go.RowKit Go.Proofs.YtcoengihaobddaaGreatDoor.disk Go.Proofs.YtcoengihaobddaaGreatDoor.ref
open Go.Proofs.YtcoengihaobddaaGreatDoor.keys (ret_int ret_bool beq_no beq_yes)
set_option linter.unusedVariables false
set_option maxRecDepth 8000

theorem width_any (w : World) (k : Nat) (hk : k ≤ 6) : Calls Tryz.prog 145 #[.int .u8 k] w fun e w' => e = .returned (.int .i64 (width k : Nat)) ∧ w' = w := by
  rcases (by omega : k = 0 ∨ k = 1 ∨ k = 2 ∨ k = 3 ∨ k = 4 ∨ k = 5 ∨ k = 6) with rfl | rfl | rfl | rfl | rfl | rfl | rfl
  all_goals
    go_enter Tryz.func145, Tryz.ntmps145
    go_wp2
    go_ret
    exact ⟨rfl, rfl⟩
theorem width_is (w : World) (k wd : Nat) (hk : k ≤ 6) (h : width k = wd) : Calls Tryz.prog 145 #[.int .u8 k] w fun e w' => e = .returned (.int .i64 wd) ∧ w' = w := by
  rw [← h]; exact width_any w k hk
theorem room_any (w : World) (k : Nat) (hk : k ≤ 6) : Calls Tryz.prog 129 #[.int .u8 k] w fun e w' => e = .returned (.int .i64 (room k : Nat)) ∧ w' = w := by
  rcases (by omega : k = 0 ∨ k = 1 ∨ k = 2 ∨ k = 3 ∨ k = 4 ∨ k = 5 ∨ k = 6) with rfl | rfl | rfl | rfl | rfl | rfl | rfl
  all_goals
    go_enter Tryz.func129, Tryz.ntmps129
    go_wp2_with (go_at_call 145; refine (width_any _ _ (by omega)).mono ?_; rintro e w' ⟨rfl, rfl⟩; simp only [width])
    go_ret
    exact ⟨rfl, rfl⟩

/-- A page is a block of memory of its own. -/
structure PgAt (w : World) (b : Nat) (p : Pg) : Prop where
  bs : BsAt w b 154 p.bytes
  ok : p.Ok
theorem PgAt.kept {w w' : World} {T : Nat → Prop} {b : Nat} {p : Pg} (h : PgAt w b p) (k : Kept T w w') (hn : ¬ T b) : PgAt w' b p := ⟨h.bs.kept k hn, h.ok⟩
theorem u8_small (n : Nat) (h : n < 256) : (UInt8.ofNat n).toNat = n := by simp; omega
theorem PgAt.c0 {w : World} {b : Nat} {p : Pg} (h : PgAt w b p) : w.cell? ⟨b, 0, none⟩ = some (.int .u8 (p.kind : Int)) := by
  have h1 := h.bs.cell 0 (by rw [h.ok.len]; omega)
  have h2 : p.bytes[0]'(by rw [h.ok.len]; omega) = UInt8.ofNat p.kind := Option.some.inj ((List.getElem?_eq_getElem _).symm.trans p.at0)
  rw [h2, u8_small _ (by have := h.ok.kind; omega)] at h1
  exact h1
theorem PgAt.c1 {w : World} {b : Nat} {p : Pg} (h : PgAt w b p) : w.cell? ⟨b, 1, none⟩ = some (.int .u8 (p.items.length : Int)) := by
  have h1 := h.bs.cell 1 (by rw [h.ok.len]; omega)
  have h2 : p.bytes[1]'(by rw [h.ok.len]; omega) = UInt8.ofNat p.items.length := Option.some.inj ((List.getElem?_eq_getElem _).symm.trans p.at1)
  rw [h2, u8_small _ (by have := h.ok.few; omega)] at h1
  exact h1

theorem kind_any (w : World) (b : Nat) (p : Pg) (h : PgAt w b p) : Calls Tryz.prog 144 #[.pointer (some ⟨b, 0, none⟩)] w fun e w' => e = .returned (.int .u8 (p.kind : Nat)) ∧ w' = w := by
  have hc := h.c0
  clear h
  go_enter Tryz.func144, Tryz.ntmps144
  go_wp2
  go_ret
  exact ⟨rfl, rfl⟩
theorem count_any (w : World) (b : Nat) (p : Pg) (h : PgAt w b p) : Calls Tryz.prog 82 #[.pointer (some ⟨b, 0, none⟩)] w fun e w' => e = .returned (.int .i64 (p.items.length : Nat)) ∧ w' = w := by
  have hc := h.c1
  have hl := h.ok.few
  clear h
  go_enter Tryz.func82, Tryz.ntmps82
  go_wp2
  go_ret
  exact ⟨rfl, rfl⟩
theorem link_any (w : World) (b : Nat) (p : Pg) (h : PgAt w b p) : Calls Tryz.prog 126 #[.pointer (some ⟨b, 0, none⟩)] w fun e w' => e = .returned (.int .i64 (p.link : Nat)) ∧ w' = w := by
  have hc := h.c0
  have hl := h.ok.link
  have hlen := h.ok.len
  have HH : Hid _ := h
  have HN : Hid (numOf ((p.bytes.drop 2).take 2) = p.link) := by show _ = _; rw [p.front]; exact numOf_bytesOf 2 _ (by omega)
  clear h
  go_enter Tryz.func126, Tryz.ntmps126
  go_wp2_with (go_at_call 83; refine (number_at _ b _ _ HH.out.bs 2 2 126 p.link (by omega) (by omega) HN.out (by omega)).mono ?_; rintro e w' ⟨rfl, rfl⟩)
  go_ret
  exact ⟨rfl, rfl⟩
theorem setLink_any (w : World) (b : Nat) (p : Pg) (h : PgAt w b p) (n : Nat) (hn : n < 65536) : Calls Tryz.prog 132 #[.pointer (some ⟨b, 0, none⟩), .int .i64 n] w fun e w' => e = .returned (.tuple #[]) ∧ PgAt w' b (p.setLink n) ∧ Kept (fun i => i = b) w w' := by
  have hc := h.c0
  have hlen := h.ok.len
  have HH : Hid _ := h
  clear h
  go_enter Tryz.func132, Tryz.ntmps132
  go_wp2_with (go_at_call 138; refine (setNumber_any _ b _ _ HH.out.bs 2 2 126 (by omega) (by omega) n (by omega)).mono ?_; rintro e w' ⟨rfl, hb, hk⟩; have HB : Hid _ := hb; have HK : Hid _ := hk; clear hb hk)
  go_end0
  have h2 := HB.out
  rw [p.setLink_bytes] at h2
  exact ⟨rfl, ⟨h2, ⟨HH.out.ok.kind, hn, HH.out.ok.wide, HH.out.ok.fits, HH.out.ok.few⟩⟩, HK.out⟩

/-- The slice of an item; of all items. -/
def itemV (b k i : Nat) : Value := .slice (some ⟨b, 4 + i * width k, none⟩) (width k) (124 - i * width k)
def itemsV (b k n : Nat) : Value := .slice (some ⟨b, 4, none⟩) (n * width k) 124
theorem width_le (k : Nat) : width k ≤ 20 := by unfold width; split <;> omega
theorem arr_len : Tryz.prog.arrayLen 154 = 128 := by kernel_rfl
theorem arr_under : Tryz.prog.underlying 154 = some (.array (Tryz.prog.arrayLen 154) (Tryz.prog.elem 154)) := by kernel_rfl
theorem elem_size : (Tryz.prog.info? (Tryz.prog.elem 154)).map (·.size) = some 1 := by kernel_rfl
/-- A part of a page as a slice. -/
theorem page_cut (w : World) (b : Nat) (l h : Int) (L N : Nat) (hl : l = L) (hh : h = L + N) (hm : L + N ≤ 128) (hL : L < 128) :
    (Instr.sliceAt 154 (.pointer (some ⟨b, 0, none⟩)) (some (.int .i64 l)) (some (.int .i64 h)) none).run Tryz.prog w = .ok (.slice (some ⟨b, L, none⟩) N (128 - L)) w := by
  have hs := run_size elem_size w
  rw [run_sliceAt_array_lh w _ _ arr_under .i64 .i64 l h (by omega) (by omega) (by rw [arr_len]; omega), hs]
  simp only [Result.andThen_ok, slicedAt, arr_len]
  subst hl; subst hh
  simp only [Int.toNat_natCast, Nat.mul_one, Addr.add_mid, Nat.zero_add]
  rw [if_neg (by omega), show ((L : Int) + N).toNat = L + N from by omega, show L + N - L = N from by omega]
set_option maxHeartbeats 400000 in
theorem item_any (w : World) (b : Nat) (p : Pg) (h : PgAt w b p) (i : Nat) (hi : i < p.items.length) (hw1 : 1 ≤ width p.kind) : Calls Tryz.prog 84 #[.pointer (some ⟨b, 0, none⟩), .int .i64 i] w fun e w' => e = .returned (itemV b p.kind i) ∧ w' = w := by
  have hc := h.c0
  have hk := h.ok.kind
  have HH : Hid _ := h
  have hw := width_le p.kind
  have hfew := h.ok.few
  have hf : (i + 1) * width p.kind ≤ 124 := Nat.le_trans (Nat.mul_le_mul_right _ hi) h.ok.fits
  rw [Nat.add_mul, Nat.one_mul] at hf
  have hx : ((i : Int) * (width p.kind : Nat)) = ((i * width p.kind : Nat) : Int) := by simp
  have HV : Hid (itemV b p.kind i = .slice (some ⟨b, 4 + i * width p.kind, none⟩) (width p.kind) (124 - i * width p.kind)) := rfl
  clear h
  generalize itemV b p.kind i = iv at *
  generalize i * width p.kind = x at *
  generalize hww : width p.kind = wd at *
  have HWW : Hid _ := hww
  clear hww
  have hcut := page_cut w b (4 + ↑x) (4 + ↑x + ↑wd) (4 + x) wd (by omega) (by omega) (by omega) (by omega)
  go_enter Tryz.func84, Tryz.ntmps84
  go_wp2_with (first
    | (go_at_call 144; refine (kind_any _ b p HH.out).mono ?_; rintro e w' ⟨rfl, rfl⟩)
    | (go_at_call 145; refine (width_any _ _ hk).mono ?_; rintro e w' ⟨rfl, rfl⟩; rw [HWW.out]))
  go_ret
  exact ⟨by rw [HV.out, show 124 - x = 128 - (4 + x) from by omega]; rfl, rfl⟩
set_option maxHeartbeats 4000000 in
theorem items_any (w : World) (b : Nat) (p : Pg) (h : PgAt w b p) : Calls Tryz.prog 125 #[.pointer (some ⟨b, 0, none⟩)] w fun e w' => e = .returned (itemsV b p.kind p.items.length) ∧ ∃ n, w' = w.drewN n := by
  have hc := h.c0
  have hk := h.ok.kind
  have HH : Hid _ := h
  have hw := width_le p.kind
  have hfew := h.ok.few
  have hf := h.ok.fits
  have hx : ((p.items.length : Int) * (width p.kind : Nat)) = ((p.items.length * width p.kind : Nat) : Int) := by simp
  have HV : Hid (itemsV b p.kind p.items.length = .slice (some ⟨b, 4, none⟩) (p.items.length * width p.kind) 124) := rfl
  clear h
  generalize itemsV b p.kind p.items.length = iv at *
  generalize p.items.length * width p.kind = x at *
  generalize hww : width p.kind = wd at *
  have HWW : Hid _ := hww
  clear hww
  have hcut : ∀ w, (Instr.sliceAt 154 (.pointer (some ⟨b, 0, none⟩)) (some (.int .i64 4)) (some (.int .i64 (4 + ↑x))) none).run Tryz.prog w = .ok (.slice (some ⟨b, 4, none⟩) x 124) w := fun w => page_cut w b 4 (4 + ↑x) 4 x rfl rfl (by omega) (by omega)
  go_enter Tryz.func125, Tryz.ntmps125
  go_wp2
  go_quiet ((first
    | (go_at_call 82; exact Calls.quiet_of_same (count_any _ b p (by exact HH.out.kept (T := fun _ => False) ⟨rfl, rfl, rfl, Nat.le_refl _, fun _ _ _ => rfl⟩ (fun hf => hf))))
    | (go_at_call 144; exact Calls.quiet_of_same (kind_any _ b p (by exact HH.out.kept (T := fun _ => False) ⟨rfl, rfl, rfl, Nat.le_refl _, fun _ _ _ => rfl⟩ (fun hf => hf))))
    | (go_at_call 145; exact Calls.quiet_of_same (width_is _ _ _ hk HWW.out))))
  go_wp2
  go_ret
  exact ⟨by rw [HV.out]; rfl, _, rfl⟩
end Go.Proofs.YtcoengihaobddaaGreatDoor.prog
namespace Go.Proofs.YtcoengihaobddaaGreatDoor.prog
set_option linter.unusedVariables false

/-- A page with some items more, of noughts. -/
def Pg.grown (p : Pg) (k : Nat) : Pg := { p with items := p.items ++ List.replicate k (List.replicate (width p.kind) 0) }
def Pg.more (p : Pg) (vs : List (List UInt8)) : Pg := { p with items := p.items ++ vs }
theorem Pg.grown_len (p : Pg) (k : Nat) : (p.grown k).items.length = p.items.length + k := by simp [Pg.grown]
theorem Pg.Ok.more {p : Pg} (h : p.Ok) {vs : List (List UInt8)} (hv : ∀ v ∈ vs, v.length = width p.kind) (hf : (p.items.length + vs.length) * width p.kind ≤ 124) (h1 : p.items.length + vs.length ≤ 124) : (p.more vs).Ok where
  kind := h.kind
  link := h.link
  wide := fun i hi => by
    rcases List.mem_append.1 hi with hi | hi
    · exact h.wide i hi
    · exact hv i hi
  fits := by simpa [Pg.more] using hf
  few := by simpa [Pg.more] using h1
theorem Pg.grown_more (p : Pg) (k : Nat) : p.grown k = p.more (List.replicate k (List.replicate (width p.kind) 0)) := rfl
theorem Pg.Ok.grown {p : Pg} (h : p.Ok) (k : Nat) (hf : (p.items.length + k) * width p.kind ≤ 124) (h1 : p.items.length + k ≤ 124) : (p.grown k).Ok := by
  rw [Pg.grown_more]
  exact h.more (fun v hv => by rw [List.eq_of_mem_replicate hv]; simp) (by simpa using hf) (by simpa using h1)
theorem flat_zeros (w : Nat) : ∀ k, (List.replicate k (List.replicate w (0 : UInt8))).flatten = List.replicate (k * w) 0
  | 0 => by simp
  | k + 1 => by
    rw [List.replicate_succ, List.flatten_cons, flat_zeros w k, List.replicate_append_replicate]; congr 1; rw [Nat.add_mul]; omega
/-- The count is told anew. -/
theorem Pg.Ok.grown_bytes {p : Pg} (h : p.Ok) (k : Nat) (hf : (p.items.length + k) * width p.kind ≤ 124) : over p.bytes 1 [UInt8.ofNat (p.items.length + k)] = (p.grown k).bytes := by
  have e : 124 - p.items.length * width p.kind = k * width p.kind + (124 - (p.items.length + k) * width p.kind) := by rw [Nat.add_mul] at *; omega
  have e2 : List.replicate (124 - p.items.length * width p.kind) (0 : UInt8) = List.replicate (k * width p.kind) 0 ++ List.replicate (124 - (p.items.length + k) * width p.kind) 0 := by rw [List.replicate_append_replicate, ← e]
  simp only [Pg.bytes, Pg.grown, List.length_append, List.length_replicate, List.flatten_append, flat_zeros, e2]
  simp [over]
/-- The items are written. -/
theorem Pg.Ok.more_bytes {p : Pg} (h : p.Ok) (vs : List (List UInt8)) (hv : ∀ v ∈ vs, v.length = width p.kind) (hf : (p.items.length + vs.length) * width p.kind ≤ 124) :
    over (p.grown vs.length).bytes (4 + p.items.length * width p.kind) vs.flatten = (p.more vs).bytes := by
  have h2 : (bytesOf 2 p.link).length = 2 := bytesOf_len 2 _
  have hfl := flat_length _ p.items h.wide
  have hvl := flat_length _ vs hv
  have e1 : (p.grown vs.length).bytes = (UInt8.ofNat p.kind :: UInt8.ofNat (p.items.length + vs.length) :: bytesOf 2 p.link ++ p.items.flatten) ++ (List.replicate (vs.length * width p.kind) 0 ++ List.replicate (124 - (p.items.length + vs.length) * width p.kind) 0) := by
    simp only [Pg.bytes, Pg.grown, List.length_append, List.length_replicate, List.flatten_append, flat_zeros]
    simp
  have hl : (UInt8.ofNat p.kind :: UInt8.ofNat (p.items.length + vs.length) :: bytesOf 2 p.link ++ p.items.flatten).length = 4 + p.items.length * width p.kind := by
    simp only [List.length_append, List.length_cons, h2, hfl]
    try omega
  rw [e1]
  unfold over
  have hz : (List.replicate (vs.length * width p.kind) (0 : UInt8)).length = vs.flatten.length := by rw [hvl]; simp
  rw [← hl, List.take_left, List.drop_length_add_append, ← hz, List.drop_left]
  simp [Pg.bytes, Pg.more]
theorem Pg.Ok.push_over {p : Pg} (h : p.Ok) (v : List UInt8) (hv : v.length = width p.kind) (hf : (p.items.length + 1) * width p.kind ≤ 124) : over (p.grown 1).bytes (4 + p.items.length * width p.kind) v = (p.push v).bytes := by
  have := h.more_bytes [v] (fun u hu => by rw [List.mem_singleton.1 hu]; exact hv) (by simpa using hf)
  simpa [Pg.more, Pg.push] using this
/-- A part of some bytes, behind a write. -/
theorem over_over (l : List UInt8) (o : Nat) (u v : List UInt8) (h : o + u.length + v.length ≤ l.length) : over (over l o u) (o + u.length) v = over l o (u ++ v) := by
  have e1 : (l.take o).length = o := by simp; omega
  have e2 : (l.take o ++ u).length = o + u.length := by simp; omega
  have hd : (over l o u).drop (o + u.length + v.length) = l.drop (o + u.length + v.length) := by
    unfold over
    rw [← e2, List.drop_length_add_append, List.drop_drop]
  have ht : (over l o u).take (o + u.length) = l.take o ++ u := by
    unfold over
    rw [← e2, List.take_left]
  unfold over at hd ht ⊢
  rw [ht, hd]
  simp [Nat.add_assoc]
theorem over_same (l : List UInt8) (o : Nat) (v : List UInt8) (h : o + v.length ≤ l.length) : ((over l o v).drop o).take v.length = v := by
  have e1 : (l.take o).length = o := by simp; omega
  unfold over
  rw [List.append_assoc]
  conv => lhs; arg 2; arg 1; rw [← e1]
  rw [List.drop_left, List.take_left]
end Go.Proofs.YtcoengihaobddaaGreatDoor.prog

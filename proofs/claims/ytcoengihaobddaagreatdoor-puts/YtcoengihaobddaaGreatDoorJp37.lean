/- Part 37 of 39 of a proof: At2 -/
import Derived.Test.YtcoengihaobddaaGreatDoorJp34
namespace Go.Proofs.YtcoengihaobddaaGreatDoor.prog
open Go.ChangeShapes Go.WideShapes Go.ChangeAt Go.RowKit Go.Proofs.YtcoengihaobddaaGreatDoor.disk Go.Proofs.YtcoengihaobddaaGreatDoor.ref
open Go.MuLone
open Go.Proofs.YtcoengihaobddaaGreatDoor.keys (ret_int ret_bool beq_no beq_yes keyB)
set_option linter.unusedVariables false
set_option maxRecDepth 8000

set_option maxHeartbeats 4000000 in
theorem at_some (w : World) (bs bd : Nat) (S : Nat → Prop) (D : Dk) (hs : StoAt w bs 0 (some bd)) (hd : Disk w bd S D) (hn : ¬ S bs) (hr0 : 0 ≤ D.reads) (hr1 : D.reads ≤ 4611686018427350000) (tree n : Nat) (hb : IsRoot (D.look 1) tree n) (key : ByteArray) (num : Int) (hk : key.size ≤ maxLen) (hkey : keyB key.data.toList = true) (es : List En) (bl : List Nat) (hF : Forest (fun j => D.look (j : Nat)) tree es bl) (hbl : bl.length ≤ 979) (hbs : ∀ j ∈ bl, 21 ≤ j) (x : En) (ho : (onE ⟨key, num⟩ es).head? = some x) (hnew : atB key num (some x) = true)
    (ps : List Piece) (hch : Chain (fun j => D.look (j : Nat)) ps) (hnd : (ps.map Piece.at_).Nodup) (hhd : headP ps = x.at_) (l : List UInt8) (hl : (ps.map Piece.l).flatten = l) (hsz : l.length = x.size) (hs3 : x.size ≤ 300) (hp : ps.length ≤ 10) :
    Calls Tryz.prog 42 #[.pointer (some ⟨bs, 0, none⟩), .string key, .int .i64 num] w fun e w' => (∃ a cap, e = .returned (.tuple #[.slice a l.length cap, .int .i64 0]) ∧ w'.ownsRow 0 5 1 (.slice a l.length cap) l.length (l.map byteV) ∧ ∀ k, (Value.slice a l.length cap).ownBlock = some k → w.heap.size ≤ k) ∧ StoAt w' bs 0 (some bd) ∧ (∃ r : Int, D.reads ≤ r ∧ r ≤ D.reads + 14 + ps.length ∧ Disk w' bd S { D with reads := r }) ∧ Kept (fun k => k = bd ∨ k = bs) w w' := by
  have HS : Hid _ := hs
  have HD : Hid (Disk w bd S D) := hd
  have HKY : Hid (keyB key.data.toList = true) := hkey
  have HNEW : Hid (atB key num (some x) = true) := hnew
  have hbd : bd < w.heap.size := hd.lt bd hd.bdS
  have hbsl := hs.lt
  have hne : bs ≠ bd := fun e => hn (by rw [e]; exact hd.bdS)
  have HN : Hid (∀ j, S j → j ≠ bs) := fun j hj e => hn (by rw [← e]; exact hj)
  have HNW : Hid (∀ w', StoAt w' bs 1 (some bd) → Disk w' bd S D → Calls Tryz.prog 66 #[.pointer (some ⟨bs, 0, none⟩), .agg #[.string key, .int .i64 num]] w' fun e w'' => e = .returned (.tuple #[.agg (optE (some x)).toArray, .bool true]) ∧ (∃ r : Int, D.reads ≤ r ∧ r ≤ D.reads + 14 ∧ Disk w'' bd S { D with reads := r }) ∧ Kept (fun i => i = bd) w' w'') := fun w' h1 h2 => by
    have := first_any w' bs bd S D 1 h1 h2 hn hr0 (by omega) tree n hb ⟨key, num⟩ es bl hF hbl hbs
    rw [ho] at this; exact this
  have HBD : Hid (∀ w' (r : Int), StoAt w' bs 1 (some bd) → Disk w' bd S { D with reads := r } → 0 ≤ r → r ≤ 4611686018427360000 → Calls Tryz.prog 51 #[.pointer (some ⟨bs, 0, none⟩), .agg (enV x).toArray] w' fun y w'' => (∃ a cap, y = .returned (.slice a l.length cap) ∧ w''.ownsRow 0 5 1 (.slice a l.length cap) l.length (l.map byteV) ∧ ∀ j, (Value.slice a l.length cap).ownBlock = some j → w'.heap.size ≤ j) ∧ (∃ r' : Int, r ≤ r' ∧ r' ≤ r + ps.length ∧ Disk w'' bd S { D with reads := r' }) ∧ Kept (fun i => i = bd) w' w'') := fun w' r h1 h2 h3 h4 => body_any w' bs bd S { D with reads := r } 1 h1 h2 hn h3 h4 x ps hch hnd hhd l hl hsz hs3 (by omega)
  clear hs hd hb hF hbs ho hkey hnew hch hnd hhd hl hsz
  have hoE : optE (some x) = [.string x.pl.key, .int .i64 x.pl.num, .bool x.mark, .int .i64 (x.size : Int), .int .i64 (x.at_ : Int)] := rfl
  have HOE : Hid (optE (some x) = [.string x.pl.key, .int .i64 x.pl.num, .bool x.mark, .int .i64 (x.size : Int), .int .i64 (x.at_ : Int)]) := hoE
  clear hoE
  have hx : x.pl.key = key ∧ x.pl.num = num ∧ x.mark = false := by
    have := HNEW.out
    simp [atB] at this
    exact ⟨this.1.1, this.1.2, this.2⟩
  obtain ⟨hx1, hx2, hx3⟩ := hx
  go_enter_defers Tryz.func42, Tryz.ntmps42
  go_wp2_with (first
    | (go_at_call 47; refine (lock_begin HS.out).mono ?_; rintro e w1 ⟨rfl, hs1, hk1⟩; have HS1 : Hid _ := hs1; have HK1 : Hid (Kept (fun k => k = bs) w w1) := hk1; have c2 : w1.cell? ⟨bs, 2, none⟩ = some (.pointer (some ⟨bd, 0, none⟩)) := hs1.c2; clear hs1 hk1)
    | (go_at_call 49; refine (keys.isKey_any key w1 hk).mono ?_; rintro e w2 ⟨rfl, hw2⟩; rw [hw2, HKY.out]; clear hw2 w2))
  have HK0 : Hid (Kept (fun _ => False) w1 (w1.alloc (.cells #[.string key, .int .i64 num] 107))) := Kept.alloc _ _ _
  have HB0 : Hid ((w1.alloc (.cells #[.string key, .int .i64 num] 107)).heap[w1.heap.size]? = some (.cells #[.string key, .int .i64 num] 107 (0, 0))) := heap_alloc_new w1 _
  have hs0 : (w1.alloc (.cells #[.string key, .int .i64 num] 107)).heap.size = w1.heap.size + 1 := by simp
  generalize (w1.alloc (.cells #[.string key, .int .i64 num] 107)) = W1 at *
  have hz1 := HK1.out.size
  refine (HNW.out W1 (HS1.out.kept HK0.out id) ((HD.out.kept HK1.out HN.out).kept HK0.out (fun _ _ hf => hf))).mono ?_
  rintro e w2 ⟨rfl, ⟨r2, hr2a, hr2b, hd2⟩, hk2⟩
  have HD2 : Hid (Disk w2 bd S { D with reads := r2 }) := hd2
  have HK2 : Hid (Kept (fun i => i = bd) W1 w2) := hk2
  have hz2 := hk2.size
  have HB2 : Hid (w2.heap[w1.heap.size]? = _) := (hk2.block _ (by omega) (by omega)).trans HB0.out
  clear hd2 hk2
  rw [HOE.out]
  have HKA : Hid (Kept (fun _ => False) w2 (w2.alloc (.cells #[.string x.pl.key, .int .i64 x.pl.num, .bool x.mark, .int .i64 (x.size : Int), .int .i64 (x.at_ : Int)] 109))) := Kept.alloc _ _ _
  have hsA : (w2.alloc (.cells #[.string x.pl.key, .int .i64 x.pl.num, .bool x.mark, .int .i64 (x.size : Int), .int .i64 (x.at_ : Int)] 109)).heap.size = w2.heap.size + 1 := by simp
  have q0 : w2.cell? ⟨w1.heap.size, 0, none⟩ = some (.string key) := by rw [cell_of_row w2 _ 0 _ _ _ HB2.out]; rfl
  have q1 : w2.cell? ⟨w1.heap.size, 1, none⟩ = some (.int .i64 num) := by rw [cell_of_row w2 _ 1 _ _ _ HB2.out]; rfl
  have hlt12 : w1.heap.size < w2.heap.size := by omega
  have hkb : (x.pl.key.toList == key.toList) = true := by rw [hx1]; simp
  have hnb : (x.pl.num == num) = true := by rw [hx2]; simp
  have HX1 : Hid (x.pl.key = key) := hx1
  have HX2 : Hid (x.pl.num = num) := hx2
  clear hx1 hx2
  have HSA : Hid (StoAt (w2.alloc (.cells #[.string x.pl.key, .int .i64 x.pl.num, .bool x.mark, .int .i64 (x.size : Int), .int .i64 (x.at_ : Int)] 109)) bs 1 (some bd)) := ((HS1.out.kept HK0.out id).kept HK2.out hne).kept HKA.out id
  have HDA : Hid (Disk (w2.alloc (.cells #[.string x.pl.key, .int .i64 x.pl.num, .bool x.mark, .int .i64 (x.size : Int), .int .i64 (x.at_ : Int)] 109)) bd S { D with reads := r2 }) := HD2.out.kept HKA.out (fun _ _ hf => hf)
  rw [hx3] at HKA HSA HDA hsA ⊢
  unfold enV at HBD
  rw [hx3] at HBD
  go_wp2_with fail
  refine (HBD.out _ r2 HSA.out HDA.out (by omega) (by omega)).mono ?_
  rintro e w4 ⟨⟨ba, bc, rfl, hown, hfr⟩, ⟨r4, hr4a, hr4b, hd4⟩, hk4⟩
  have HOW : Hid _ := hown
  have HFR : Hid _ := hfr
  have HD4 : Hid (Disk w4 bd S { D with reads := r4 }) := hd4
  have HK4 : Hid (Kept (fun i => i = bd) (w2.alloc (.cells #[.string x.pl.key, .int .i64 x.pl.num, .bool false, .int .i64 (x.size : Int), .int .i64 (x.at_ : Int)] 109)) w4) := hk4
  clear hown hfr hd4 hk4
  go_wp2
  refine leaves_cons (f := 48) (args := #[.pointer (some ⟨bs, 0, none⟩)]) (by simp) (by simp [go_sem]) ?_
  refine (unlock_end (HSA.out.kept HK4.out hne)).mono ?_
  rintro e u' w5 ⟨rfl, rfl, hs5, hk5⟩
  refine ⟨_, results_tmp2 rfl _ _ _, ⟨ba, bc, rfl, hk5.owns HOW.out (fun j hj e0 => by have := HFR.out j hj; omega), fun j hj => by have := HFR.out j hj; omega⟩, hs5, ⟨r4, by omega, by omega, HD4.out.kept hk5 HN.out⟩, ?_⟩
  exact (((((HK1.out.mono (S' := fun k => k = bd ∨ k = bs) (fun _ h => .inr h)).trans HK0.out (fun _ hf => hf.elim)).trans HK2.out (fun _ h => .inl (.inl h))).trans HKA.out (fun _ hf => hf.elim)).trans HK4.out (fun _ h => .inl (.inl h))).trans hk5 (fun _ h => .inl (.inr h))
end Go.Proofs.YtcoengihaobddaaGreatDoor.prog

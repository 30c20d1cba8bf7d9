/- Part 9 of 39 of a proof: Law2, Api, One, Law3 -/
import Derived.Test.YtcoengihaobddaaGreatDoorJp08
namespace Go.Proofs.YtcoengihaobddaaGreatDoor.law
open Go.ChangeShapes Go.WideShapes Go.ChangeAt Go.RowKit Go.Proofs.YtcoengihaobddaaGreatDoor.disk Go.Proofs.YtcoengihaobddaaGreatDoor.ref Go.Proofs.YtcoengihaobddaaGreatDoor.book
open Go.Proofs.YtcoengihaobddaaGreatDoor.keys (ret_int ret_bool beq_no beq_yes)
set_option linter.unusedVariables false
set_option maxRecDepth 8000

set_option maxHeartbeats 1000000 in
theorem changed_shut (w : World) (bo : Nat) (h : OneH) (o : OneHead w bo h) (bd : Nat) (hd : h.d = .pointer (some ⟨bd, 0, none⟩)) (S : Nat → Prop) (D : Dk) (hD : Disk w bd S D) (ib : Nat) (hi : h.is = .pointer (some ⟨ib, 0, none⟩)) (F G : Nat → Prop) (vs : List Ver) (last : Int) (hr : RefAt w F G ib vs last) (hlen : vs.length ≤ 4398046511104) (hb : ∀ v ∈ vs, v.body.length ≤ 1000)
    (c want weight : Int) (hw0 : 0 ≤ weight) (hw1 : weight ≤ 1125899906842624) (next : Value) (kk : ByteArray) (kn : Int) (km : Bool) (ka : Option Addr) (kl kc : Nat) (hs : h.shut = true) (hwant : want = 0 ∨ want = 5) :
    Calls Tryz.prog 97 #[.pointer (some ⟨bo, 0, none⟩), .int .i64 c, .int .i64 want, .int .i64 weight, next, .agg #[.string kk, .int .i64 kn, .bool km, .slice ka kl kc]] w fun e w' => e = .returned (.bool (c == 8)) ∧ Kept (fun _ => False) w w' := by
  have hlt := o.lt
  have HO : Hid _ := o
  have HR : Hid (RefAt w F G ib vs last) := hr
  have HD : Hid (Disk w bd S D) := hD
  have HB : Hid _ := hb
  have hkA : ∀ n, Kept (fun _ => False) w ((w.alloc (.cells #[.string kk, .int .i64 kn, .bool km, .slice ka kl kc] 123)).drewN n) := fun n => (Kept.alloc _ _ _).trans ⟨rfl, rfl, rfl, Nat.le_refl _, fun _ _ _ => rfl⟩ (fun _ h => .inl h)
  have HKA : Hid _ := hkA
  have ho1 : OneHead (w.alloc (.cells #[.string kk, .int .i64 kn, .bool km, .slice ka kl kc] 123)) bo h := o.kept (Kept.alloc (fun _ => False) _ _) (fun hf => hf)
  have hc2 := ho1.c2
  rw [hi] at hc2
  have hc10 := ho1.c10
  have hc8 := ho1.c8
  have hd' : h.d = .pointer (some ⟨bd, 0, none⟩) := hd
  have HDD : Hid _ := hd'
  clear hkA o hr hD hb ho1 hd hd' hi
  rw [hs] at hc10
  clear hs
  rcases hwant with rfl | rfl
  all_goals
    go_enter Tryz.func97, Tryz.ntmps97
    go_wp2_with fail
    go_quiet ((first
        | (go_at_call 149; exact Calls.quiet_of_same (blocks_one _ bo h (by exact HO.out.kept (HKA.out _) (fun hf => hf)) bd HDD.out S D (by exact HD.out.kept (HKA.out _) (fun _ _ hf => hf))))
        | (go_at_call 151; exact Calls.quiet_of_same (fits_any _ F G ib vs last (by exact HR.out.kept (HKA.out _) (fun _ _ hf => hf) (fun _ _ hf => hf)) hlen HB.out _ hw0 hw1 _))))
    go_wp2
    go_ret
    exact ⟨rfl, HKA.out _⟩

set_option maxHeartbeats 1000000 in
theorem changed_want (w : World) (bo : Nat) (h : OneH) (o : OneHead w bo h) (bd : Nat) (hd : h.d = .pointer (some ⟨bd, 0, none⟩)) (S : Nat → Prop) (D : Dk) (hD : Disk w bd S D) (ib : Nat) (hi : h.is = .pointer (some ⟨ib, 0, none⟩)) (F G : Nat → Prop) (vs : List Ver) (last : Int) (hr : RefAt w F G ib vs last) (hlen : vs.length ≤ 4398046511104) (hb : ∀ v ∈ vs, v.body.length ≤ 1000)
    (c want weight : Int) (hw0 : 0 ≤ weight) (hw1 : weight ≤ 1125899906842624) (next : Value) (kk : ByteArray) (kn : Int) (km : Bool) (ka : Option Addr) (kl kc : Nat) (hs : h.shut = false ∨ want ≠ 5) (hwant : want ≠ 0) :
    Calls Tryz.prog 97 #[.pointer (some ⟨bo, 0, none⟩), .int .i64 c, .int .i64 want, .int .i64 weight, next, .agg #[.string kk, .int .i64 kn, .bool km, .slice ka kl kc]] w fun e w' => e = .returned (.bool (c == want)) ∧ Kept (fun _ => False) w w' := by
  have hlt := o.lt
  have HO : Hid _ := o
  have HR : Hid (RefAt w F G ib vs last) := hr
  have HD : Hid (Disk w bd S D) := hD
  have HB : Hid _ := hb
  have hkA : ∀ n, Kept (fun _ => False) w ((w.alloc (.cells #[.string kk, .int .i64 kn, .bool km, .slice ka kl kc] 123)).drewN n) := fun n => (Kept.alloc _ _ _).trans ⟨rfl, rfl, rfl, Nat.le_refl _, fun _ _ _ => rfl⟩ (fun _ h => .inl h)
  have HKA : Hid _ := hkA
  have ho1 : OneHead (w.alloc (.cells #[.string kk, .int .i64 kn, .bool km, .slice ka kl kc] 123)) bo h := o.kept (Kept.alloc (fun _ => False) _ _) (fun hf => hf)
  have hc2 := ho1.c2
  rw [hi] at hc2
  have hc10 := ho1.c10
  have hc8 := ho1.c8
  have hd' : h.d = .pointer (some ⟨bd, 0, none⟩) := hd
  have HDD : Hid _ := hd'
  clear hkA o hr hD hb ho1 hd hd' hi
  have e0 : (want == 0) = false := by simpa using hwant
  have e1 : (want != 0) = true := by simpa using hwant
  clear hwant
  rcases hs with hs | hs
  · rw [hs] at hc10
    clear hs
    go_enter Tryz.func97, Tryz.ntmps97
    go_wp2_with fail
    go_quiet ((first
        | (go_at_call 149; exact Calls.quiet_of_same (blocks_one _ bo h (by exact HO.out.kept (HKA.out _) (fun hf => hf)) bd HDD.out S D (by exact HD.out.kept (HKA.out _) (fun _ _ hf => hf))))
        | (go_at_call 151; exact Calls.quiet_of_same (fits_any _ F G ib vs last (by exact HR.out.kept (HKA.out _) (fun _ _ hf => hf) (fun _ _ hf => hf)) hlen HB.out _ hw0 hw1 _))))
    go_wp2
    go_ret
    exact ⟨rfl, HKA.out _⟩
  · have e5 : (want == 5) = false := by simpa using hs
    clear hs
    cases hsh : h.shut
    all_goals
      rw [hsh] at hc10
      clear hsh
      go_enter Tryz.func97, Tryz.ntmps97
      go_wp2_with fail
      go_quiet ((first
          | (go_at_call 149; exact Calls.quiet_of_same (blocks_one _ bo h (by exact HO.out.kept (HKA.out _) (fun hf => hf)) bd HDD.out S D (by exact HD.out.kept (HKA.out _) (fun _ _ hf => hf))))
          | (go_at_call 151; exact Calls.quiet_of_same (fits_any _ F G ib vs last (by exact HR.out.kept (HKA.out _) (fun _ _ hf => hf) (fun _ _ hf => hf)) hlen HB.out _ hw0 hw1 _))))
      go_wp2
      go_ret
      exact ⟨rfl, HKA.out _⟩

set_option maxHeartbeats 1000000 in
theorem changed_space (w : World) (bo : Nat) (h : OneH) (o : OneHead w bo h) (bd : Nat) (hd : h.d = .pointer (some ⟨bd, 0, none⟩)) (S : Nat → Prop) (D : Dk) (hD : Disk w bd S D) (ib : Nat) (hi : h.is = .pointer (some ⟨ib, 0, none⟩)) (F G : Nat → Prop) (vs : List Ver) (last : Int) (hr : RefAt w F G ib vs last) (hlen : vs.length ≤ 4398046511104) (hb : ∀ v ∈ vs, v.body.length ≤ 1000)
    (c want weight : Int) (hw0 : 0 ≤ weight) (hw1 : weight ≤ 1125899906842624) (next : Value) (kk : ByteArray) (kn : Int) (km : Bool) (ka : Option Addr) (kl kc : Nat) (hs : h.shut = false) (hwant : want = 0) (hc : c = 6) :
    Calls Tryz.prog 97 #[.pointer (some ⟨bo, 0, none⟩), .int .i64 c, .int .i64 want, .int .i64 weight, next, .agg #[.string kk, .int .i64 kn, .bool km, .slice ka kl kc]] w fun e w' => e = .returned (.bool (!fitsB vs weight.toNat D.bs.length)) ∧ Kept (fun _ => False) w w' := by
  have hlt := o.lt
  have HO : Hid _ := o
  have HR : Hid (RefAt w F G ib vs last) := hr
  have HD : Hid (Disk w bd S D) := hD
  have HB : Hid _ := hb
  have hkA : ∀ n, Kept (fun _ => False) w ((w.alloc (.cells #[.string kk, .int .i64 kn, .bool km, .slice ka kl kc] 123)).drewN n) := fun n => (Kept.alloc _ _ _).trans ⟨rfl, rfl, rfl, Nat.le_refl _, fun _ _ _ => rfl⟩ (fun _ h => .inl h)
  have HKA : Hid _ := hkA
  have ho1 : OneHead (w.alloc (.cells #[.string kk, .int .i64 kn, .bool km, .slice ka kl kc] 123)) bo h := o.kept (Kept.alloc (fun _ => False) _ _) (fun hf => hf)
  have hc2 := ho1.c2
  rw [hi] at hc2
  have hc10 := ho1.c10
  have hc8 := ho1.c8
  have hd' : h.d = .pointer (some ⟨bd, 0, none⟩) := hd
  have HDD : Hid _ := hd'
  clear hkA o hr hD hb ho1 hd hd' hi
  subst hwant hc
  rw [hs] at hc10
  clear hs
  go_enter Tryz.func97, Tryz.ntmps97
  go_wp2_with fail
  go_quiet ((first
      | (go_at_call 149; exact Calls.quiet_of_same (blocks_one _ bo h (by exact HO.out.kept (HKA.out _) (fun hf => hf)) bd HDD.out S D (by exact HD.out.kept (HKA.out _) (fun _ _ hf => hf))))
      | (go_at_call 151; exact Calls.quiet_of_same (fits_any _ F G ib vs last (by exact HR.out.kept (HKA.out _) (fun _ _ hf => hf) (fun _ _ hf => hf)) hlen HB.out _ hw0 hw1 _))))
  go_wp2
  go_ret
  exact ⟨rfl, HKA.out _⟩

/-- What is written down when a change was answered for. -/
def OneH.okd (h : OneH) (next : Value) (weight nlast : Int) : OneH := if 0 < weight then { h with is := next, died := 0, told := nlast } else { h with is := next }
set_option maxHeartbeats 1000000 in
theorem changed_ok (w : World) (bo : Nat) (h : OneH) (o : OneHead w bo h) (bd : Nat) (hd : h.d = .pointer (some ⟨bd, 0, none⟩)) (S : Nat → Prop) (D : Dk) (hD : Disk w bd S D) (ib : Nat) (hi : h.is = .pointer (some ⟨ib, 0, none⟩)) (F G : Nat → Prop) (vs : List Ver) (last : Int) (hr : RefAt w F G ib vs last) (hlen : vs.length ≤ 4398046511104) (hb : ∀ v ∈ vs, v.body.length ≤ 1000)
    (c want weight : Int) (hw0 : 0 ≤ weight) (hw1 : weight ≤ 1125899906842624) (next : Value) (kk : ByteArray) (kn : Int) (km : Bool) (ka : Option Addr) (kl kc : Nat) (hs : h.shut = false) (hwant : want = 0) (hc : c = 0) (nb : Nat) (hnext : next = .pointer (some ⟨nb, 0, none⟩)) (F' G' : Nat → Prop) (us : List Ver) (nlast : Int) (hn : RefAt w F' G' nb us nlast) (hnb : nb ≠ bo) :
    Calls Tryz.prog 97 #[.pointer (some ⟨bo, 0, none⟩), .int .i64 c, .int .i64 want, .int .i64 weight, next, .agg #[.string kk, .int .i64 kn, .bool km, .slice ka kl kc]] w fun e w' => e = .returned (.bool true) ∧ OneHead w' bo (h.okd next weight nlast) ∧ Kept (fun k => k = bo) w w' := by
  have hlt := o.lt
  have HO : Hid _ := o
  have HR : Hid (RefAt w F G ib vs last) := hr
  have HD : Hid (Disk w bd S D) := hD
  have HB : Hid _ := hb
  have hkA : ∀ n, Kept (fun _ => False) w ((w.alloc (.cells #[.string kk, .int .i64 kn, .bool km, .slice ka kl kc] 123)).drewN n) := fun n => (Kept.alloc _ _ _).trans ⟨rfl, rfl, rfl, Nat.le_refl _, fun _ _ _ => rfl⟩ (fun _ h => .inl h)
  have HKA : Hid _ := hkA
  have ho1 : OneHead (w.alloc (.cells #[.string kk, .int .i64 kn, .bool km, .slice ka kl kc] 123)) bo h := o.kept (Kept.alloc (fun _ => False) _ _) (fun hf => hf)
  have hc2 := ho1.c2
  rw [hi] at hc2
  have hc10 := ho1.c10
  have hc8 := ho1.c8
  have hd' : h.d = .pointer (some ⟨bd, 0, none⟩) := hd
  have HDD : Hid _ := hd'
  have hf1 := ho1.fz 2
  have hf2 := ho1.fz 8
  have hf3 := ho1.fz 9
  have hc9 := ho1.c9
  obtain ⟨na, nc, ncs, hn⟩ := hn
  have hn1 := (hn.kept (Kept.alloc (fun _ => False) w (.cells #[.string kk, .int .i64 kn, .bool km, .slice ka kl kc] 123)) (fun _ _ hf => hf) (fun _ _ hf => hf)).c1
  have hnl := hn.lt
  have HO1 : Hid _ := ho1
  clear hkA o hr hD hb ho1 hd hd' hi
  clear hn
  subst hwant hc hnext
  rw [hs] at hc10
  clear hs
  by_cases hw : 0 < weight
  · have hw' : decide (0 < weight) = true := decide_eq_true hw
    go_enter Tryz.func97, Tryz.ntmps97
    go_wp2_with fail
    go_quiet ((first
        | (go_at_call 149; exact Calls.quiet_of_same (blocks_one _ bo h (by exact HO.out.kept (HKA.out _) (fun hf => hf)) bd HDD.out S D (by exact HD.out.kept (HKA.out _) (fun _ _ hf => hf))))
        | (go_at_call 151; exact Calls.quiet_of_same (fits_any _ F G ib vs last (by exact HR.out.kept (HKA.out _) (fun _ _ hf => hf) (fun _ _ hf => hf)) hlen HB.out _ hw0 hw1 _))))
    go_wp2
    go_ret
    refine ⟨rfl, ?_, ?_⟩
    · unfold OneH.okd
      rw [if_pos hw]
      exact ((((HO.out.kept (HKA.out _) (fun hf => hf)).set 2 _ { h with is := .pointer (some ⟨nb, 0, none⟩) } rfl).set 8 (.int .i64 0) { h with is := .pointer (some ⟨nb, 0, none⟩), died := 0 } rfl).set 9 (.int .i64 nlast) { h with is := .pointer (some ⟨nb, 0, none⟩), died := 0, told := nlast } rfl)
    · exact ((((HKA.out _).mono (fun _ hf => hf.elim)).trans (Kept.setCell (S := fun k => k = bo) _ ⟨bo, 2, none⟩ _ rfl) (fun _ h => .inl h)).trans (Kept.setCell (S := fun k => k = bo) _ ⟨bo, 8, none⟩ _ rfl) (fun _ h => .inl h)).trans (Kept.setCell (S := fun k => k = bo) _ ⟨bo, 9, none⟩ _ rfl) (fun _ h => .inl h)
  · have hw' : decide (0 < weight) = false := decide_eq_false hw
    go_enter Tryz.func97, Tryz.ntmps97
    go_wp2_with fail
    go_quiet ((first
        | (go_at_call 149; exact Calls.quiet_of_same (blocks_one _ bo h (by exact HO.out.kept (HKA.out _) (fun hf => hf)) bd HDD.out S D (by exact HD.out.kept (HKA.out _) (fun _ _ hf => hf))))
        | (go_at_call 151; exact Calls.quiet_of_same (fits_any _ F G ib vs last (by exact HR.out.kept (HKA.out _) (fun _ _ hf => hf) (fun _ _ hf => hf)) hlen HB.out _ hw0 hw1 _))))
    go_wp2
    go_ret
    refine ⟨rfl, ?_, ?_⟩
    · unfold OneH.okd
      rw [if_neg (by omega)]
      exact (HO.out.kept (HKA.out _) (fun hf => hf)).set 2 _ { h with is := .pointer (some ⟨nb, 0, none⟩) } rfl
    · exact ((HKA.out _).mono (fun _ hf => hf.elim)).trans (Kept.setCell (S := fun k => k = bo) _ ⟨bo, 2, none⟩ _ rfl) (fun _ h => .inl h)

set_option maxHeartbeats 1000000 in
theorem changed_dead (w : World) (bo : Nat) (h : OneH) (o : OneHead w bo h) (bd : Nat) (hd : h.d = .pointer (some ⟨bd, 0, none⟩)) (S : Nat → Prop) (D : Dk) (hD : Disk w bd S D) (ib : Nat) (hi : h.is = .pointer (some ⟨ib, 0, none⟩)) (F G : Nat → Prop) (vs : List Ver) (last : Int) (hr : RefAt w F G ib vs last) (hlen : vs.length ≤ 4398046511104) (hb : ∀ v ∈ vs, v.body.length ≤ 1000)
    (c want weight : Int) (hw0 : 0 ≤ weight) (hw1 : weight ≤ 1125899906842624) (next : Value) (kk : ByteArray) (kn : Int) (km : Bool) (ka : Option Addr) (kl kc : Nat) (hs : h.shut = false) (hwant : want = 0) (hc : c = 7) (nb : Nat) (hnext : next = .pointer (some ⟨nb, 0, none⟩)) (hfu : D.fuse = 0) (hSb : ¬ S bo) (hd1 : 0 ≤ h.died ∧ h.died ≤ 1152921504606846976) :
    Calls Tryz.prog 97 #[.pointer (some ⟨bo, 0, none⟩), .int .i64 c, .int .i64 want, .int .i64 weight, next, .agg #[.string kk, .int .i64 kn, .bool km, .slice ka kl kc]] w fun e w' => e = .returned (.bool true) ∧ OneHead w' bo { h with shut := true, mb := next, k0 := .string kk, k1 := .int .i64 kn, k2 := .bool km, k3 := .slice ka kl kc, died := h.died + 1 } ∧ (∃ S', Disk w' bd S' D ∧ ∀ k, S' k → S k) ∧ Kept (fun k => k = bo ∨ S k) w w' := by
  have hlt := o.lt
  have HO : Hid _ := o
  have HR : Hid (RefAt w F G ib vs last) := hr
  have HD : Hid (Disk w bd S D) := hD
  have HB : Hid _ := hb
  have hkA : ∀ n, Kept (fun _ => False) w ((w.alloc (.cells #[.string kk, .int .i64 kn, .bool km, .slice ka kl kc] 123)).drewN n) := fun n => (Kept.alloc _ _ _).trans ⟨rfl, rfl, rfl, Nat.le_refl _, fun _ _ _ => rfl⟩ (fun _ h => .inl h)
  have HKA : Hid _ := hkA
  have ho1 : OneHead (w.alloc (.cells #[.string kk, .int .i64 kn, .bool km, .slice ka kl kc] 123)) bo h := o.kept (Kept.alloc (fun _ => False) _ _) (fun hf => hf)
  have hc2 := ho1.c2
  rw [hi] at hc2
  have hc10 := ho1.c10
  have hc8 := ho1.c8
  have hd' : h.d = .pointer (some ⟨bd, 0, none⟩) := hd
  have HDD : Hid _ := hd'
  have hf1 := ho1.fz
  have HFU : Hid _ := hfu
  have hs3 : w.cell? ⟨bo, 3, none⟩ = some h.mb := o.at_ rfl
  have hs4 : w.cell? ⟨bo, 4, none⟩ = some h.k0 := o.at_ rfl
  have hs5 : w.cell? ⟨bo, 5, none⟩ = some h.k1 := o.at_ rfl
  have hs6 : w.cell? ⟨bo, 6, none⟩ = some h.k2 := o.at_ rfl
  have hs7 : w.cell? ⟨bo, 7, none⟩ = some h.k3 := o.at_ rfl
  clear hkA o hr hD hb ho1 hd hd' hi
  clear hfu
  subst hwant hc hnext
  rw [hs] at hc10
  clear hs
  go_enter Tryz.func97, Tryz.ntmps97
  go_wp2_with fail
  go_quiet ((first
      | (go_at_call 149; exact Calls.quiet_of_same (blocks_one _ bo h (by exact HO.out.kept (HKA.out _) (fun hf => hf)) bd HDD.out S D (by exact HD.out.kept (HKA.out _) (fun _ _ hf => hf))))
      | (go_at_call 151; exact Calls.quiet_of_same (fits_any _ F G ib vs last (by exact HR.out.kept (HKA.out _) (fun _ _ hf => hf) (fun _ _ hf => hf)) hlen HB.out _ hw0 hw1 _))))
  go_wp2_with fail
  have k0 : Kept (fun k => k = bo) w ((w.alloc (.cells #[.string kk, .int .i64 kn, .bool km, .slice ka kl kc] 123)).drewN nq) := (HKA.out nq).mono (fun _ hf => hf.elim)
  have o0 := HO.out.kept (HKA.out nq) (fun hf => hf)
  have o1 := o0.set 10 (.bool true) { h with shut := true } rfl
  have k1 := k0.trans (Kept.setCell (S := fun k => k = bo) _ ⟨bo, 10, none⟩ (.bool true) rfl) (fun _ h => .inl h)
  have o2 := o1.set 3 (.pointer (some ⟨nb, 0, none⟩)) { h with shut := true, mb := .pointer (some ⟨nb, 0, none⟩) } rfl
  have k2 := k1.trans (Kept.setCell (S := fun k => k = bo) _ ⟨bo, 3, none⟩ (.pointer (some ⟨nb, 0, none⟩)) rfl) (fun _ h => .inl h)
  have o3 := o2.set 4 (.string kk) { h with shut := true, mb := .pointer (some ⟨nb, 0, none⟩), k0 := .string kk } rfl
  have k3 := k2.trans (Kept.setCell (S := fun k => k = bo) _ ⟨bo, 4, none⟩ (.string kk) rfl) (fun _ h => .inl h)
  have o4 := o3.set 5 (.int .i64 kn) { h with shut := true, mb := .pointer (some ⟨nb, 0, none⟩), k0 := .string kk, k1 := .int .i64 kn } rfl
  have k4 := k3.trans (Kept.setCell (S := fun k => k = bo) _ ⟨bo, 5, none⟩ (.int .i64 kn) rfl) (fun _ h => .inl h)
  have o5 := o4.set 6 (.bool km) { h with shut := true, mb := .pointer (some ⟨nb, 0, none⟩), k0 := .string kk, k1 := .int .i64 kn, k2 := .bool km } rfl
  have k5 := k4.trans (Kept.setCell (S := fun k => k = bo) _ ⟨bo, 6, none⟩ (.bool km) rfl) (fun _ h => .inl h)
  have o6 := o5.set 7 (.slice ka kl kc) { h with shut := true, mb := .pointer (some ⟨nb, 0, none⟩), k0 := .string kk, k1 := .int .i64 kn, k2 := .bool km, k3 := .slice ka kl kc } rfl
  have k6 := k5.trans (Kept.setCell (S := fun k => k = bo) _ ⟨bo, 7, none⟩ (.slice ka kl kc) rfl) (fun _ h => .inl h)
  have o7 := o6.set 8 (.int .i64 (h.died + 1)) { h with shut := true, mb := .pointer (some ⟨nb, 0, none⟩), k0 := .string kk, k1 := .int .i64 kn, k2 := .bool km, k3 := .slice ka kl kc, died := h.died + 1 } rfl
  have k7 := k6.trans (Kept.setCell (S := fun k => k = bo) _ ⟨bo, 8, none⟩ (.int .i64 (h.died + 1)) rfl) (fun _ h => .inl h)
  clear o0 o1 o2 o3 o4 o5 o6 k0 k1 k2 k3 k4 k5 k6
  have dk := HD.out.kept k7 (fun i hi e => hSb (by rw [← e]; exact hi))
  have HO7 : Hid _ := o7
  have HK7 : Hid _ := k7
  have HD7 : Hid _ := dk
  clear o7 k7 dk
  refine (dead_one _ bo _ HO7.out bd HDD.out S D HD7.out HFU.out).mono ?_
  rintro e w9 ⟨rfl, h1, h2⟩
  have H1 : Hid _ := h1
  have H2 : Hid _ := h2
  clear h1 h2
  go_wp2
  go_ret
  exact ⟨rfl, HO7.out.kept H2.out hSb, H1.out, (HK7.out.mono (fun _ h => .inl h)).trans (H2.out.mono (fun _ h => .inr h)) (fun _ h => .inl h)⟩
end Go.Proofs.YtcoengihaobddaaGreatDoor.law
namespace Go.Proofs.YtcoengihaobddaaGreatDoor.law
open Go.RowKit Go.Proofs.YtcoengihaobddaaGreatDoor.disk Go.Proofs.YtcoengihaobddaaGreatDoor.ref Go.Proofs.YtcoengihaobddaaGreatDoor.book
open Go.Proofs.YtcoengihaobddaaGreatDoor.keys (keyB)

/-- What is on a disk: the versions; the greatest number that was given. -/
structure Con where
  vs : List Ver
  n0 : Int
def Con.add (V : Con) (key : ByteArray) (mark : Bool) (body : List UInt8) : Con := ⟨V.vs ++ [⟨key, V.n0 + 1, mark, body⟩], V.n0 + 1⟩
def Con.sub (V : Con) (key : ByteArray) (n : Int) : Con := ⟨without V.vs key n, V.n0⟩
structure Good (V : Con) : Prop where
  apart : Apart V.vs
  num : ∀ v ∈ V.vs, 1 ≤ v.num ∧ v.num ≤ V.n0
  key : ∀ v ∈ V.vs, keyB v.key.data.toList = true
  body : ∀ v ∈ V.vs, v.body.length ≤ 300
  mark : ∀ v ∈ V.vs, v.mark = true → v.body = []
  few : V.vs.length ≤ 6000
  n0 : 0 ≤ V.n0

/-- What the program's stores mean: blocks that are a store at rest; blocks in which an opening finds versions; a store in memory (on the disk at a block, or shut); the fuses that are spoken of. -/
structure Meaning where
  Rest : List (List Value) → Con → Prop
  Holds : List (List Value) → Con → Prop
  Sto : World → Nat → Option Nat → Prop
  Fu : Int → Prop
  rest_holds : ∀ bs V, Rest bs V → Holds bs V
  good : ∀ bs V, Holds bs V → Good V
  zeros : ∀ n : Nat, 64 ≤ n → n ≤ 1000 → Holds (List.replicate n zeroB) ⟨[], 0⟩
  sto_lt : ∀ w b q, Sto w b q → b < w.heap.size
  sto_kept : ∀ w w' b q (T : Nat → Prop), Sto w b q → Kept T w w' → ¬ T b → Sto w' b q
  fu_int : ∀ f, Fu f → IntOk f
  fu_neg : Fu (-1)

structure Meaning.Live (M : Meaning) (D : Dk) (V : Con) : Prop where
  ps : D.ps = []
  rest : M.Rest D.bs V
  big : 64 ≤ D.bs.length
structure Meaning.Could (M : Meaning) (D : Dk) (P : Con → Prop) : Prop where
  few : D.ps.length ≤ 1000
  big : 64 ≤ D.bs.length
  all : ∀ ks, ∃ V, P V ∧ M.Holds (putAll D.bs (sel D.ps ks)) V
theorem Meaning.Live.could {M : Meaning} {D : Dk} {V : Con} (h : M.Live D V) : M.Could D (fun U => U = V) :=
  ⟨by rw [h.ps]; simp, h.big, fun ks => ⟨V, rfl, by rw [h.ps]; exact M.rest_holds _ _ h.rest⟩⟩
theorem Meaning.Live.good {M : Meaning} {D : Dk} {V : Con} (h : M.Live D V) : Good V := M.good _ _ (M.rest_holds _ _ h.rest)

/-- Behind a call on the store at block bs, whose disk lies at bd: what has become of them. -/
structure Aft (M : Meaning) (w w' : World) (bd bs : Nat) (S S' : Nat → Prop) (D D' : Dk) (most : Int) (q : Option Nat) : Prop where
  disk : Disk w' bd S' D'
  foot : ∀ k, S' k → S k ∨ w.heap.size ≤ k
  sto : M.Sto w' bs q
  kept : Kept (fun k => S k ∨ k = bs) w w'
  reads0 : D.reads ≤ D'.reads
  reads1 : D'.reads ≤ D.reads + most
  size : D'.bs.length = D.bs.length
  fuse : M.Fu D'.fuse
/-- Ahead of it. -/
structure Fore (M : Meaning) (w : World) (bd bs : Nat) (S : Nat → Prop) (D : Dk) (V : Con) : Prop where
  disk : Disk w bd S D
  apart : ¬ S bs
  sto : M.Sto w bs (some bd)
  live : M.Live D V
  fuse : M.Fu D.fuse
  reads0 : 0 ≤ D.reads
  reads1 : D.reads ≤ 2305843009213693952
  few : V.n0 ≤ 2305843009213693952

/-- What a change makes: refused; answered for; no room; the disk died. -/
structure Chg (M : Meaning) (D D' : Dk) (V V' : Con) (bd : Nat) (want c : Int) (weight : Nat) (q : Option Nat) : Prop where
  is : (want ≠ 0 ∧ c = want ∧ q = some bd ∧ M.Live D' V) ∨ (want = 0 ∧ c = 0 ∧ q = some bd ∧ M.Live D' V') ∨ (want = 0 ∧ c = 6 ∧ q = some bd ∧ M.Live D' V ∧ fitsB V.vs weight D.bs.length = false) ∨
    (want = 0 ∧ c = 7 ∧ q = none ∧ D'.fuse = 0 ∧ M.Could D' (fun U => U = V ∨ U = V'))

structure ApiPut (M : Meaning) : Prop where
  live : ∀ (w : World) (bd bs : Nat) (S P : Nat → Prop) (D : Dk) (V : Con) (key : ByteArray) (a : Option Addr) (cap : Nat) (l : List UInt8), Fore M w bd bs S D V → key.size ≤ maxLen → Bytes w P a l → (∀ k, P k → ¬ S k ∧ k ≠ bs) → l.length ≤ 140737488355328 → l.length ≤ cap → cap ≤ 9223372036854775807 →
    Calls Tryz.prog 27 #[.pointer (some ⟨bs, 0, none⟩), .string key, .slice a l.length cap] w fun e w' => ∃ D' S' c n q, e = .returned (.tuple #[.int .i64 n, .int .i64 c]) ∧ Aft M w w' bd bs S S' D D' 40 q ∧
      Chg M D D' V (V.add key false l) bd (putE (keyB key.data.toList) l.length) c (weigh l.length) q ∧ n = if c = 0 then V.n0 + 1 else 0
  shut : ∀ (w : World) (bs : Nat) (key : ByteArray) (a : Option Addr) (n cap : Nat), M.Sto w bs none → key.size ≤ maxLen → n ≤ 140737488355328 →
    Calls Tryz.prog 27 #[.pointer (some ⟨bs, 0, none⟩), .string key, .slice a n cap] w fun e w' => e = .returned (.tuple #[.int .i64 0, .int .i64 (shutE true (putE (keyB key.data.toList) n))]) ∧ M.Sto w' bs none ∧ Kept (fun k => k = bs) w w'

/-- A body that comes out, in memory of its own. -/
structure Out (w w' : World) (x : Value) (l : List UInt8) : Prop where
  at_ : ∃ a cap, x = .slice a l.length cap ∧ w'.ownsRow 0 5 1 (.slice a l.length cap) l.length (l.map byteV) ∧ ∀ k, (Value.slice a l.length cap).ownBlock = some k → w.heap.size ≤ k
def OutIs (w w' : World) (o : Option Ver) (x : Value) (c : Int) : Prop := (c = 0 → ∃ u, o = some u ∧ Out w w' x u.body) ∧ (c ≠ 0 → ∃ a cap, x = .slice a 0 cap)

structure ApiGet (M : Meaning) : Prop where
  live : ∀ (w : World) (bd bs : Nat) (S : Nat → Prop) (D : Dk) (V : Con) (key : ByteArray), Fore M w bd bs S D V → key.size ≤ maxLen →
    Calls Tryz.prog 26 #[.pointer (some ⟨bs, 0, none⟩), .string key] w fun e w' => ∃ D' x n S', e = .returned (.tuple #[x, .int .i64 n, .int .i64 (ansE (keyB key.data.toList) (newestV V.vs key))]) ∧ Aft M w w' bd bs S S' D D' 40 (some bd) ∧ M.Live D' V ∧
      OutIs w w' (newestV V.vs key) x (ansE (keyB key.data.toList) (newestV V.vs key)) ∧ (∀ k, x.ownBlock = some k → ¬ S' k) ∧ (ansE (keyB key.data.toList) (newestV V.vs key) ≠ 0 → n = 0) ∧ ∀ u, ansE (keyB key.data.toList) (newestV V.vs key) = 0 → newestV V.vs key = some u → n = u.num
  shut : ∀ (w : World) (bs : Nat) (key : ByteArray), M.Sto w bs none → key.size ≤ maxLen →
    Calls Tryz.prog 26 #[.pointer (some ⟨bs, 0, none⟩), .string key] w fun e w' => ∃ a cap, e = .returned (.tuple #[.slice a 0 cap, .int .i64 0, .int .i64 (if keyB key.data.toList = true then 8 else 2)]) ∧ M.Sto w' bs none ∧ Kept (fun k => k = bs) w w'
structure ApiAt (M : Meaning) : Prop where
  live : ∀ (w : World) (bd bs : Nat) (S : Nat → Prop) (D : Dk) (V : Con) (key : ByteArray) (num : Int), Fore M w bd bs S D V → key.size ≤ maxLen → IntOk num →
    Calls Tryz.prog 42 #[.pointer (some ⟨bs, 0, none⟩), .string key, .int .i64 num] w fun e w' => ∃ D' x S', e = .returned (.tuple #[x, .int .i64 (ansE (keyB key.data.toList) (findV V.vs key num))]) ∧ Aft M w w' bd bs S S' D D' 40 (some bd) ∧ M.Live D' V ∧
      OutIs w w' (findV V.vs key num) x (ansE (keyB key.data.toList) (findV V.vs key num)) ∧ ∀ k, x.ownBlock = some k → ¬ S' k
  shut : ∀ (w : World) (bs : Nat) (key : ByteArray) (num : Int), M.Sto w bs none → key.size ≤ maxLen →
    Calls Tryz.prog 42 #[.pointer (some ⟨bs, 0, none⟩), .string key, .int .i64 num] w fun e w' => ∃ a cap, e = .returned (.tuple #[.slice a 0 cap, .int .i64 (if keyB key.data.toList = true then 8 else 2)]) ∧ M.Sto w' bs none ∧ Kept (fun k => k = bs) w w'

/-- What an opening makes. -/
structure Opd (M : Meaning) (w w' : World) (bd : Nat) (S S' : Nat → Prop) (D D' : Dk) : Prop where
  disk : Disk w' bd S' D'
  foot : ∀ k, S' k → S k ∨ w.heap.size ≤ k
  kept : Kept S w w'
  reads0 : D.reads ≤ D'.reads
  reads1 : D'.reads ≤ D.reads + 2 * D.bs.length
  size : D'.bs.length = D.bs.length
  fuse : M.Fu D'.fuse
structure ApiOpen (M : Meaning) : Prop where
  small : ∀ (w : World) (bd : Nat) (S : Nat → Prop) (D : Dk), Disk w bd S D → D.bs.length < 64 →
    Calls Tryz.prog 35 #[.pointer (some ⟨bd, 0, none⟩)] w fun e w' => e = .returned (.tuple #[.pointer none, .int .i64 1]) ∧ Disk w' bd S D ∧ Kept (fun _ => False) w w'
  big : ∀ (w : World) (bd : Nat) (S : Nat → Prop) (D : Dk) (P : Con → Prop), Disk w bd S D → M.Could D P → M.Fu D.fuse → 0 ≤ D.reads → D.reads ≤ 2305843009213693952 →
    Calls Tryz.prog 35 #[.pointer (some ⟨bd, 0, none⟩)] w fun e w' => ∃ D' S', Opd M w w' bd S S' D D' ∧
      ((∃ bs V, e = .returned (.tuple #[.pointer (some ⟨bs, 0, none⟩), .int .i64 0]) ∧ w.heap.size ≤ bs ∧ ¬ S' bs ∧ M.Sto w' bs (some bd) ∧ P V ∧ M.Live D' V) ∨
        (e = .returned (.tuple #[.pointer none, .int .i64 7]) ∧ D'.fuse = 0 ∧ M.Could D' P))
end Go.Proofs.YtcoengihaobddaaGreatDoor.law
namespace Go.Proofs.YtcoengihaobddaaGreatDoor.law
open Go.RowKit Go.Proofs.YtcoengihaobddaaGreatDoor.disk Go.Proofs.YtcoengihaobddaaGreatDoor.ref Go.Proofs.YtcoengihaobddaaGreatDoor.book
open Go.Proofs.YtcoengihaobddaaGreatDoor.keys (keyB)

def ptr (b : Nat) : Value := .pointer (some ⟨b, 0, none⟩)
/-- A change has died: what may be there besides. -/
inductive Torn (M : Meaning) (w : World) (R : Nat → Prop) (h : OneH) (D : Dk) (V : Con) (last : Int) : Prop
  | put (mb : Nat) (key : ByteArray) (mark : Bool) (body : List UInt8) (a : Option Addr) (num : Int) (c : Nat) (hm : h.mb = ptr mb) (h0 : h.k0 = .string key) (h1 : h.k1 = .int .i64 num) (h2 : h.k2 = .bool mark) (h3 : h.k3 = .slice a body.length c) (hk : key ≠ ByteArray.empty) (hb : Bytes w R a body)
      (could : M.Could D (fun U => U = V ∨ U = V.add key mark body)) (hn : V.n0 + 1 ≤ h.told + h.died)
  | erase (mb : Nat) (us : List Ver) (num : Int) (mark : Bool) (a : Option Addr) (n c : Nat) (hm : h.mb = ptr mb) (h0 : h.k0 = .string ByteArray.empty) (h1 : h.k1 = .int .i64 num) (h2 : h.k2 = .bool mark) (h3 : h.k3 = .slice a n c) (hr : RefAt w R R mb us last) (hu : us.length + 1 = V.vs.length) (hs : ∀ v ∈ us, v ∈ V.vs)
      (could : M.Could D (fun U => U = V ∨ U = ⟨us, V.n0⟩))
/-- Which store there is. -/
inductive OneSt (M : Meaning) (w : World) (X S R : Nat → Prop) (bo bd : Nat) (h : OneH) (D : Dk) (V : Con) (last : Int) : Prop
  | live (bs : Nat) (hs : h.s = ptr bs) (hX : X bs) (hS : ¬ S bs) (hR : ¬ R bs) (ho : bs ≠ bo) (sto : M.Sto w bs (some bd)) (shut : h.shut = false) (mb : h.mb = .pointer none) (live : M.Live D V)
  | shut (bs : Nat) (hs : h.s = ptr bs) (hX : X bs) (hS : ¬ S bs) (hR : ¬ R bs) (ho : bs ≠ bo) (sto : M.Sto w bs none) (shut : h.shut = true) (torn : Torn M w R h D V last)
  | gone (hs : h.s = .pointer none) (torn : (h.mb = .pointer none ∧ M.Could D (fun U => U = V)) ∨ Torn M w R h D V last)
structure OneIn (M : Meaning) (w : World) (X : Nat → Prop) (bo t : Nat) (h : OneH) (bd : Nat) (D : Dk) (S R : Nat → Prop) (ib : Nat) (V : Con) (last : Int) : Prop where
  head : OneHead w bo h
  hd : h.d = ptr bd
  his : h.is = ptr ib
  disk : Disk w bd S D
  ref : RefAt w R R ib V.vs last
  sX : ∀ k, S k → X k
  rX : ∀ k, R k → X k ∧ ¬ S k ∧ k ≠ bo
  bX : X bo
  bS : ¬ S bo
  xlt : ∀ k, X k → k < w.heap.size
  last0 : last ≤ V.n0
  lastv : ∀ v ∈ V.vs, v.num ≤ last
  told0 : 0 ≤ h.told
  died0 : 0 ≤ h.died
  n0t : V.n0 ≤ h.told + h.died
  tt : h.told + h.died ≤ t
  reads0 : 0 ≤ D.reads
  reads1 : D.reads ≤ 4000000 + 2000 * t
  fu : M.Fu D.fuse
  good : Good V
  big : 64 ≤ D.bs.length
  st : OneSt M w X S R bo bd h D V last
/-- A player at block bo, after t steps; X: its blocks. -/
def One (M : Meaning) (w : World) (X : Nat → Prop) (bo t : Nat) : Prop := ∃ h bd D S R ib V last, OneIn M w X bo t h bd D S R ib V last

theorem Torn.kept {M : Meaning} {w w' : World} {R T : Nat → Prop} {h : OneH} {D : Dk} {V : Con} {last : Int} (o : Torn M w R h D V last) (k : Kept T w w') (hn : ∀ i, R i → ¬ T i) : Torn M w' R h D V last := by
  cases o with
  | put mb key mark body a num c hm h0 h1 h2 h3 hk hb could hn0 => exact .put mb key mark body a num c hm h0 h1 h2 h3 hk (hb.kept k hn) could hn0
  | erase mb us num mark a n c hm h0 h1 h2 h3 hr hu hs could => exact .erase mb us num mark a n c hm h0 h1 h2 h3 (hr.kept k hn hn) hu hs could
theorem OneSt.kept {M : Meaning} {w w' : World} {X S R T : Nat → Prop} {bo bd : Nat} {h : OneH} {D : Dk} {V : Con} {last : Int} (o : OneSt M w X S R bo bd h D V last) (k : Kept T w w') (hn : ∀ i, X i → ¬ T i) (hR : ∀ i, R i → X i) : OneSt M w' X S R bo bd h D V last := by
  cases o with
  | live bs hs hX hS hRb ho sto shut mb live => exact .live bs hs hX hS hRb ho (M.sto_kept _ _ _ _ _ sto k (hn _ hX)) shut mb live
  | shut bs hs hX hS hRb ho sto shut torn => exact .shut bs hs hX hS hRb ho (M.sto_kept _ _ _ _ _ sto k (hn _ hX)) shut (torn.kept k (fun i hi => hn i (hR i hi)))
  | gone hs torn => exact .gone hs (torn.imp id (fun h => h.kept k (fun i hi => hn i (hR i hi))))
theorem OneIn.kept {M : Meaning} {w w' : World} {X T : Nat → Prop} {bo t : Nat} {h : OneH} {bd : Nat} {D : Dk} {S R : Nat → Prop} {ib : Nat} {V : Con} {last : Int} (o : OneIn M w X bo t h bd D S R ib V last) (k : Kept T w w') (hn : ∀ i, X i → ¬ T i) : OneIn M w' X bo t h bd D S R ib V last :=
  { o with head := o.head.kept k (hn _ o.bX), disk := o.disk.kept k (fun i hi => hn i (o.sX i hi)), ref := o.ref.kept k (fun i hi => hn i (o.rX i hi).1) (fun i hi => hn i (o.rX i hi).1), xlt := fun i hi => Nat.lt_of_lt_of_le (o.xlt i hi) k.size, st := o.st.kept k hn (fun i hi => (o.rX i hi).1) }
theorem One.kept {M : Meaning} {w w' : World} {X T : Nat → Prop} {bo t : Nat} (o : One M w X bo t) (k : Kept T w w') (hn : ∀ i, X i → ¬ T i) : One M w' X bo t := by
  obtain ⟨h, bd, D, S, R, ib, V, last, o⟩ := o
  exact ⟨h, bd, D, S, R, ib, V, last, o.kept k hn⟩
theorem One.later {M : Meaning} {w : World} {X : Nat → Prop} {bo t t' : Nat} (o : One M w X bo t) (ht : t ≤ t') : One M w X bo t' := by
  obtain ⟨h, bd, D, S, R, ib, V, last, o⟩ := o
  exact ⟨h, bd, D, S, R, ib, V, last, { o with tt := Int.le_trans o.tt (by omega), reads1 := Int.le_trans o.reads1 (by omega) }⟩

/-- What a step on a player leaves: it returns true; the player is as it should be, after a step more. -/
structure Stepped (M : Meaning) (w w' : World) (X : Nat → Prop) (bo t : Nat) (e : Ending) : Prop where
  ret : e = .returned (.bool true)
  one : ∃ X', One M w' X' bo (t + 1) ∧ ∀ k, X' k → X k ∨ w.heap.size ≤ k
  kept : Kept X w w'
end Go.Proofs.YtcoengihaobddaaGreatDoor.law
namespace Go.Proofs.YtcoengihaobddaaGreatDoor.law
open Go.RowKit Go.Proofs.YtcoengihaobddaaGreatDoor.disk Go.Proofs.YtcoengihaobddaaGreatDoor.ref Go.Proofs.YtcoengihaobddaaGreatDoor.book
set_option linter.unusedVariables false

/-- The cases of an answer, and what the player's cells are then. -/
inductive ChCase (h : OneH) (D : Dk) (vs : List Ver) (c want : Int) (weight : Nat) (next : Value) (nlast : Int) (kk : ByteArray) (kn : Int) (km : Bool) (ka : Option Addr) (kl kc : Nat) : OneH → Prop
  | shut (hs : h.shut = true) (hw : want = 0 ∨ want = 5) (hc : c = 8) : ChCase h D vs c want weight next nlast kk kn km ka kl kc h
  | want (hs : h.shut = false ∨ want ≠ 5) (hw : want ≠ 0) (hc : c = want) : ChCase h D vs c want weight next nlast kk kn km ka kl kc h
  | space (hs : h.shut = false) (hw : want = 0) (hc : c = 6) (hf : fitsB vs weight D.bs.length = false) : ChCase h D vs c want weight next nlast kk kn km ka kl kc h
  | ok (hs : h.shut = false) (hw : want = 0) (hc : c = 0) : ChCase h D vs c want weight next nlast kk kn km ka kl kc (h.okd next weight nlast)
  | dead (hs : h.shut = false) (hw : want = 0) (hc : c = 7) (hf : D.fuse = 0) : ChCase h D vs c want weight next nlast kk kn km ka kl kc { h with shut := true, mb := next, k0 := .string kk, k1 := .int .i64 kn, k2 := .bool km, k3 := .slice ka kl kc, died := h.died + 1 }

theorem changed_all (w : World) (bo : Nat) (h : OneH) (o : OneHead w bo h) (bd : Nat) (hd : h.d = .pointer (some ⟨bd, 0, none⟩)) (S : Nat → Prop) (D : Dk) (hD : Disk w bd S D) (ib : Nat) (hi : h.is = .pointer (some ⟨ib, 0, none⟩)) (F G : Nat → Prop) (vs : List Ver) (last : Int) (hr : RefAt w F G ib vs last) (hlen : vs.length ≤ 6000) (hb : ∀ v ∈ vs, v.body.length ≤ 300)
    (c want weight : Int) (hw0 : 0 ≤ weight) (hw1 : weight ≤ 1125899906842624) (nb : Nat) (kk : ByteArray) (kn : Int) (km : Bool) (ka : Option Addr) (kl kc : Nat) (F' G' : Nat → Prop) (us : List Ver) (nlast : Int) (hn : RefAt w F' G' nb us nlast) (hnb : nb ≠ bo) (hSb : ¬ S bo) (hd0 : 0 ≤ h.died) (hd1 : h.died ≤ 1152921504606846976)
    (h' : OneH) (hc : ChCase h D vs c want weight.toNat (.pointer (some ⟨nb, 0, none⟩)) nlast kk kn km ka kl kc h') :
    Calls Tryz.prog 97 #[.pointer (some ⟨bo, 0, none⟩), .int .i64 c, .int .i64 want, .int .i64 weight, .pointer (some ⟨nb, 0, none⟩), .agg #[.string kk, .int .i64 kn, .bool km, .slice ka kl kc]] w fun e w' =>
      e = .returned (.bool true) ∧ OneHead w' bo h' ∧ (∃ S', Disk w' bd S' D ∧ ∀ k, S' k → S k) ∧ Kept (fun k => k = bo ∨ S k) w w' := by
  have hlen' : vs.length ≤ 4398046511104 := by omega
  have hb' : ∀ v ∈ vs, v.body.length ≤ 1000 := fun v hv => by have := hb v hv; omega
  have wide : ∀ w', Kept (fun _ => False) w w' → OneHead w' bo h ∧ (∃ S', Disk w' bd S' D ∧ ∀ k, S' k → S k) ∧ Kept (fun k => k = bo ∨ S k) w w' := fun w' k =>
    ⟨o.kept k (fun hf => hf), ⟨S, hD.kept k (fun _ _ hf => hf), fun _ hk => hk⟩, k.mono (fun _ hf => hf.elim)⟩
  cases hc with
  | shut hs hw hc =>
    refine (changed_shut w bo h o bd hd S D hD ib hi F G vs last hr hlen' hb' c want weight hw0 hw1 _ kk kn km ka kl kc hs hw).mono fun e w' ⟨h1, h2⟩ => ⟨?_, wide w' h2⟩
    rw [h1, hc]; rfl
  | want hs hw hc =>
    refine (changed_want w bo h o bd hd S D hD ib hi F G vs last hr hlen' hb' c want weight hw0 hw1 _ kk kn km ka kl kc hs hw).mono fun e w' ⟨h1, h2⟩ => ⟨?_, wide w' h2⟩
    rw [h1, hc]; simp
  | space hs hw hc hf =>
    refine (changed_space w bo h o bd hd S D hD ib hi F G vs last hr hlen' hb' c want weight hw0 hw1 _ kk kn km ka kl kc hs hw hc).mono fun e w' ⟨h1, h2⟩ => ⟨?_, wide w' h2⟩
    rw [h1, hf]; rfl
  | ok hs hw hc =>
    refine (changed_ok w bo h o bd hd S D hD ib hi F G vs last hr hlen' hb' c want weight hw0 hw1 _ kk kn km ka kl kc hs hw hc nb rfl F' G' us nlast hn hnb).mono fun e w' ⟨h1, h2, h3⟩ => ⟨h1, ?_, ⟨S, hD.kept h3 (fun i hi e => hSb (by rw [← e]; exact hi)), fun _ hk => hk⟩, h3.mono (fun _ h => .inl h)⟩
    rw [Int.toNat_of_nonneg hw0]; exact h2
  | dead hs hw hc hf =>
    exact (changed_dead w bo h o bd hd S D hD ib hi F G vs last hr hlen' hb' c want weight hw0 hw1 _ kk kn km ka kl kc hs hw hc nb rfl hf hSb ⟨hd0, hd1⟩).mono fun e w' ⟨h1, h2, h3, h4⟩ => ⟨h1, h2, h3, h4⟩
end Go.Proofs.YtcoengihaobddaaGreatDoor.law

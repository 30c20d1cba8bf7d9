/- Part 7 of 39 of a proof: Book2, Book3, Append2 -/
import Derived.Test.YtcoengihaobddaaGreatDoorJp06
import Derived.Deep.QuietTactic
import Derived.BigQuiet
import Derived.Deep.RegionWith
import Derived.Test.YtcoengihaobddaaGreatDoorJp01
namespace Go.Proofs.YtcoengihaobddaaGreatDoor.book
open Go.ChangeShapes Go.WideShapes Go.ChangeAt Go.RowKit Go.Proofs.YtcoengihaobddaaGreatDoor.disk Go.Proofs.YtcoengihaobddaaGreatDoor.ref
open Go.Proofs.YtcoengihaobddaaGreatDoor.keys (ret_int ret_bool beq_no beq_yes)
set_option linter.unusedVariables false

/-- A list that came out: its four slices (in block g), the blocks in which their cells lie. -/
structure Ent where
  g : Nat
  ss : List (Option Addr × Nat × Nat)
  P : Nat → Prop
def Ent.val (e : Ent) : Value := .slice (some ⟨e.g, 0, none⟩) e.ss.length 4

/-- The lists of bytes, in a row; list i reads the mark m i; F: their blocks. -/
structure BookM (w : World) (F : Nat → Prop) (v : Value) (es : List Ent) (m : Nat → Int) : Prop where
  row : w.ownsRow 0 179 1 v es.length (es.map Ent.val)
  lets : ∀ i (hi : i < es.length), Lets w es[i].P es[i].g es[i].ss
  are : ∀ i (hi : i < es.length), Lets.Are w es[i].ss (.int .u8 (m i))
  apart : ∀ i j (hi : i < es.length) (hj : j < es.length), i ≠ j → ∀ k, es[i].P k → ¬ es[j].P k ∧ k ≠ es[j].g
  row2 : ∀ i (hi : i < es.length) k, es[i].P k → v.ownBlock ≠ some k
  foot : ∀ i (hi : i < es.length), F es[i].g ∧ ∀ k, es[i].P k → F k
  foot2 : ∀ k, v.ownBlock = some k → F k

theorem BookM.kept {w w' : World} {F T : Nat → Prop} {v : Value} {es : List Ent} {m : Nat → Int} (h : BookM w F v es m) (k : Kept T w w') (hn : ∀ i, F i → ¬ T i) : BookM w' F v es m :=
  ⟨k.owns h.row (fun i hi => hn i (h.foot2 i hi)), fun i hi => (h.lets i hi).kept k (fun j hj => hn j ((h.foot i hi).2 j hj)) (hn _ (h.foot i hi).1),
    fun i hi => (h.are i hi).kept (h.lets i hi) k (fun j hj => hn j ((h.foot i hi).2 j hj)), h.apart, h.row2, h.foot, h.foot2⟩
theorem BookM.cell {w : World} {F : Nat → Prop} {g cap : Nat} {es : List Ent} {m : Nat → Int} (h : BookM w F (.slice (some ⟨g, 0, none⟩) es.length cap) es m) (i : Nat) (hi : i < es.length) : w.cell? ⟨g, i, none⟩ = some (.slice (some ⟨es[i].g, 0, none⟩) es[i].ss.length 4) := by
  have := h.row.cells (g := g) rfl i es[i].val (by simp [hi])
  rw [Addr.add_mid] at this
  simpa [Ent.val] using this
theorem BookM.rowAt {w : World} {F : Nat → Prop} {a : Option Addr} {cap : Nat} {es : List Ent} {m : Nat → Int} (h : BookM w F (.slice a es.length cap) es m) (hn : 0 < es.length) : ∃ g, a = some ⟨g, 0, none⟩ := by
  rcases h.row.2 with ⟨h0, h1⟩ | ⟨g, cap', cur, hv, _⟩
  · omega
  · cases hv; exact ⟨g, rfl⟩
/-- One list is written full. -/
theorem BookM.wrote {w w' : World} {F : Nat → Prop} {v : Value} {es : List Ent} {m : Nat → Int} (h : BookM w F v es m) (i : Nat) (hi : i < es.length) (z : Int) (hl : Lets w' es[i].P es[i].g es[i].ss) (ha : Lets.Are w' es[i].ss (.int .u8 z)) (k : Kept es[i].P w w')
    (m' : Nat → Int) (hm : m' i = z) (hm2 : ∀ j, j ≠ i → m' j = m j) : BookM w' F v es m' := by
  refine ⟨k.owns h.row (fun j hj hc => h.row2 i hi j hc hj), fun j hj => ?_, fun j hj => ?_, h.apart, h.row2, h.foot, h.foot2⟩
  · by_cases e : j = i
    · subst e; exact hl
    · exact (h.lets j hj).kept k (fun x hx hc => (h.apart i j hi hj (Ne.symm e) x hc).1 hx) (fun hc => (h.apart i j hi hj (Ne.symm e) _ hc).2 rfl)
  · by_cases e : j = i
    · subst e; rw [hm]; exact ha
    · rw [hm2 j e]; exact (h.are j hj).kept (h.lets j hj) k (fun x hx hc => (h.apart i j hi hj (Ne.symm e) x hc).1 hx)

/-- The players' struct: its stores, its lists of bytes, its lists of versions. -/
structure PlayHead (w : World) (bp : Nat) (l a b : Value) : Prop where
  head : w.heap[bp]? = some (.cells #[l, a, b] 79 (0, 0))
theorem PlayHead.c {w : World} {bp : Nat} {l a b : Value} (h : PlayHead w bp l a b) : w.cell? ⟨bp, 0, none⟩ = some l ∧ w.cell? ⟨bp, 1, none⟩ = some a ∧ w.cell? ⟨bp, 2, none⟩ = some b ∧ ∀ i, w.frozen? ⟨bp, i, none⟩ = false :=
  ⟨by rw [cell_of_row w bp 0 _ _ _ h.head]; rfl, by rw [cell_of_row w bp 1 _ _ _ h.head]; rfl, by rw [cell_of_row w bp 2 _ _ _ h.head]; rfl, fun i => frozen_of_row w bp i _ _ h.head⟩
theorem PlayHead.lt {w : World} {bp : Nat} {l a b : Value} (h : PlayHead w bp l a b) : bp < w.heap.size := (Array.getElem?_eq_some_iff.1 h.head).1
theorem PlayHead.kept {w w' : World} {T : Nat → Prop} {bp : Nat} {l a b : Value} (h : PlayHead w bp l a b) (k : Kept T w w') (hn : ¬ T bp) : PlayHead w' bp l a b := ⟨(k.block bp h.lt hn).trans h.head⟩

theorem BookM.marks {w : World} {F : Nat → Prop} {v : Value} {es : List Ent} {m m' : Nat → Int} (h : BookM w F v es m) (hm : ∀ i, i < es.length → m i = m' i) : BookM w F v es m' :=
  ⟨h.row, h.lets, fun i hi => by rw [← hm i hi]; exact h.are i hi, h.apart, h.row2, h.foot, h.foot2⟩
theorem digB_bd (i d : Nat) : 0 ≤ digB i d ∧ digB i d ≤ 255 := by
  unfold digB; have := Nat.mod_lt (i / 251 ^ d) (show 0 < 251 by omega); omega

set_option maxHeartbeats 2000000 in
theorem wholeBytes_any (w : World) (bp : Nat) (l b : Value) (F : Nat → Prop) (a : Option Addr) (cap : Nat) (es : List Ent) (hp : PlayHead w bp l (.slice a es.length cap) b) (hF : ¬ F bp) (h : BookM w F (.slice a es.length cap) es (fun i => digB i 0)) (hlen : es.length ≤ 4398046511104) :
    Calls Tryz.prog 64 #[.pointer (some ⟨bp, 1, none⟩)] w fun e w' => e = .returned (.bool true) ∧ BookM w' F (.slice a es.length cap) es (fun i => digB i 0) ∧ Kept F w w' := by
  have HH : Hid _ := h
  have HP : Hid _ := hp
  have hbp := hp.lt
  clear h hp
  go_enter Tryz.func64, Tryz.ntmps64
  go_wp2
  go_loopw [3] (fun t wr => ∃ k : Nat, k ≤ es.length ∧ t = .int .i64 k ∧ BookM wr F (.slice a es.length cap) es (fun i => digB i 0) ∧ PlayHead wr bp l (.slice a es.length cap) b ∧ Kept F w wr) (fun t _ => es.length - (intOf t).toNat)
  case atStart => exact ⟨0, Nat.zero_le _, rfl, HH.out, HP.out, Kept.refl _ _⟩
  case round =>
    obtain ⟨k, hk, rfl, hb, hp, hkept⟩ := hrel
    have HB : Hid (BookM wr F (.slice a es.length cap) es (fun i => digB i 0)) := hb
    have HP2 : Hid _ := hp
    have HK : Hid _ := hkept
    have hc1 := hp.c.2.1
    clear hb hp hkept
    by_cases hlt : k < es.length
    · obtain ⟨g, rfl⟩ := HB.out.rowAt (by omega)
      have hck := HB.out.cell k hlt
      go_wp2
      go_quiet ((first
        | (go_at_call 112; exact Calls.quiet_of_same (digit_int _ _ _ (by omega) (by omega) (by omega) (by omega)))
        | (go_at_call 111; exact Calls.quiet_of_same (reads_any _ es[k].P es[k].g 4 es[k].ss (by exact (HB.out.lets k hlt).kept (T := fun _ => False) (⟨rfl, rfl, rfl, Nat.le_refl _, fun _ _ _ => rfl⟩) (fun _ _ hf => hf) (fun hf => hf)) _ (by exact (HB.out.are k hlt).kept (HB.out.lets k hlt) (T := fun _ => False) (⟨rfl, rfl, rfl, Nat.le_refl _, fun _ _ _ => rfl⟩) (fun _ _ hf => hf))))))
      go_wp2
      go_roundw
      case rel => exact ⟨k + 1, by omega, by go_num, HB.out.kept (T := fun _ => False) ⟨rfl, rfl, rfl, Nat.le_refl _, fun _ _ _ => rfl⟩ (fun _ _ hf => hf), HP2.out.kept (T := fun _ => False) ⟨rfl, rfl, rfl, Nat.le_refl _, fun _ _ _ => rfl⟩ (fun hf => hf), HK.out.trans (S' := fun _ => False) ⟨rfl, rfl, rfl, Nat.le_refl _, fun _ _ _ => rfl⟩ (fun _ hf => hf.elim)⟩
      case measure => simp [intOf]; omega
    · go_wp2
      go_loopw [5] (fun t wr => ∃ (d : Int) (m : Nat → Int), -1 ≤ d ∧ d ≤ 2 ∧ t = .int .i64 d ∧ BookM wr F (.slice a es.length cap) es m ∧ (d = -1 → ∀ i, i < es.length → m i = digB i 0) ∧ PlayHead wr bp l (.slice a es.length cap) b ∧ Kept F w wr) (fun t _ => (intOf t + 1).toNat)
      case atStart => exact ⟨2, _, by omega, by omega, rfl, HB.out, fun h => by omega, HP2.out, HK.out⟩
      case round =>
        obtain ⟨d, m, hd0, hd1, rfl, hb, hm, hp, hkept⟩ := hrel
        have HB3 : Hid (BookM wr F (.slice a es.length cap) es m) := hb
        have HP3 : Hid _ := hp
        have HK3 : Hid _ := hkept
        have HM : Hid _ := hm
        clear hb hp hkept hm
        by_cases hd : 0 ≤ d
        · go_wp2
          go_loopw [6] (fun t wr => ∃ (j : Nat), j ≤ es.length ∧ t = .int .i64 j ∧ BookM wr F (.slice a es.length cap) es (fun i => if i < j then digB i d.toNat else m i) ∧ PlayHead wr bp l (.slice a es.length cap) b ∧ Kept F w wr) (fun t _ => es.length - (intOf t).toNat)
          case atStart => exact ⟨0, Nat.zero_le _, rfl, HB3.out.marks (fun i hi => by simp), HP3.out, HK3.out⟩
          case round =>
            obtain ⟨j, hj, rfl, hb, hp, hkept⟩ := hrel
            have HB4 : Hid (BookM wr F (.slice a es.length cap) es (fun i => if i < j then digB i d.toNat else m i)) := hb
            have HP4 : Hid _ := hp
            have HK4 : Hid _ := hkept
            have hc1 := hp.c.2.1
            clear hb hp hkept
            by_cases hlt2 : j < es.length
            · obtain ⟨g, rfl⟩ := HB4.out.rowAt (by omega)
              have hck := HB4.out.cell j hlt2
              go_wp2
              go_region_with ((first
                | (go_at_call 112; refine (digit_int _ _ _ (by omega) (by omega) (by omega) (by omega)).mono ?_; rintro e w' ⟨rfl, rfl⟩)
                | (go_at_call 113; refine (write_any _ es[j].P es[j].g 4 es[j].ss (by exact (HB4.out.lets j hlt2).kept (T := fun _ => False) ⟨rfl, rfl, rfl, Nat.le_refl _, fun _ _ _ => rfl⟩ (fun _ _ hf => hf) (fun hf => hf)) _ (by exact (digB_bd _ _).1) (by exact (digB_bd _ _).2)).mono ?_; rintro e w3 ⟨rfl, hl3, ha3, hk3⟩; have HL3 : Hid _ := hl3; have HA3 : Hid (Lets.Are w3 es[j].ss _) := ha3; have HKK : Hid _ := hk3; clear hl3 ha3 hk3)))
              all_goals
                go_wp2
                go_roundw
                case rel =>
                  refine ⟨j + 1, by omega, by go_num, (HB4.out.kept (Kept.drew (fun _ => False) wr) (fun _ _ hf => hf)).wrote j hlt2 _ HL3.out HA3.out HKK.out _ (by simp) (fun i hi => ?_), (HP4.out.kept (Kept.drew (fun _ => False) wr) (fun hf => hf)).kept HKK.out (fun hc => hF ((HB4.out.foot j hlt2).2 _ hc)),
                    (HK4.out.trans (Kept.drew (fun _ => False) wr) (fun _ hf => hf.elim)).trans HKK.out (fun i hc => .inl ((HB4.out.foot j hlt2).2 _ hc))⟩
                  have e : (i < j + 1) = (i < j) := propext (by omega)
                  simp only [e]
                case measure => simp [intOf]; omega
            · go_wp2
              go_loopw [7] (fun t wr => ∃ (q : Nat), q ≤ es.length ∧ t = .int .i64 q ∧ BookM wr F (.slice a es.length cap) es (fun i => digB i d.toNat) ∧ PlayHead wr bp l (.slice a es.length cap) b ∧ Kept F w wr) (fun t _ => es.length - (intOf t).toNat)
              case atStart => exact ⟨0, Nat.zero_le _, rfl, HB4.out.marks (fun i hi => by rw [if_pos (by omega)]), HP4.out, HK4.out⟩
              case round =>
                obtain ⟨q, hq, rfl, hb, hp, hkept⟩ := hrel
                have HB5 : Hid (BookM wr F (.slice a es.length cap) es (fun i => digB i d.toNat)) := hb
                have HP5 : Hid _ := hp
                have HK5 : Hid _ := hkept
                have hc1 := hp.c.2.1
                clear hb hp hkept
                by_cases hlt3 : q < es.length
                · obtain ⟨g, rfl⟩ := HB5.out.rowAt (by omega)
                  have hck := HB5.out.cell q hlt3
                  go_wp2
                  go_quiet ((first
                    | (go_at_call 112; exact Calls.quiet_of_same (digit_int _ _ _ (by omega) (by omega) (by omega) (by omega)))
                    | (go_at_call 111; exact Calls.quiet_of_same (reads_any _ es[q].P es[q].g 4 es[q].ss (by exact (HB5.out.lets q hlt3).kept (T := fun _ => False) (⟨rfl, rfl, rfl, Nat.le_refl _, fun _ _ _ => rfl⟩) (fun _ _ hf => hf) (fun hf => hf)) _ (by exact (HB5.out.are q hlt3).kept (HB5.out.lets q hlt3) (T := fun _ => False) (⟨rfl, rfl, rfl, Nat.le_refl _, fun _ _ _ => rfl⟩) (fun _ _ hf => hf))))))
                  go_wp2
                  go_roundw
                  case rel => exact ⟨q + 1, by omega, by go_num, HB5.out.kept (T := fun _ => False) ⟨rfl, rfl, rfl, Nat.le_refl _, fun _ _ _ => rfl⟩ (fun _ _ hf => hf), HP5.out.kept (T := fun _ => False) ⟨rfl, rfl, rfl, Nat.le_refl _, fun _ _ _ => rfl⟩ (fun hf => hf), HK5.out.trans (S' := fun _ => False) ⟨rfl, rfl, rfl, Nat.le_refl _, fun _ _ _ => rfl⟩ (fun _ hf => hf.elim)⟩
                  case measure => simp [intOf]; omega
                · go_wp2
                  go_roundw
                  case rel => exact ⟨d - 1, _, by omega, by omega, rfl, HB5.out, fun h i hi => by rw [show d.toNat = 0 from by omega], HP5.out, HK5.out⟩
                  case measure => simp [intOf]; omega
        · go_wp2
          go_ret
          exact ⟨rfl, HB3.out.marks (fun i hi => HM.out (by omega) i hi), HK3.out⟩
end Go.Proofs.YtcoengihaobddaaGreatDoor.book
namespace Go.Proofs.YtcoengihaobddaaGreatDoor.book
open Go.ChangeShapes Go.WideShapes Go.ChangeAt Go.RowKit Go.Proofs.YtcoengihaobddaaGreatDoor.disk Go.Proofs.YtcoengihaobddaaGreatDoor.ref
open Go.Proofs.YtcoengihaobddaaGreatDoor.keys (ret_int ret_bool beq_no beq_yes)
set_option linter.unusedVariables false

/-- The version that stands in the lists of versions: its owner's mark. -/
def mineB : ByteArray := ⟨#[40, 109, 105, 110, 101, 41]⟩
def mineV (i : Nat) : List Value := [.string mineB, .int .i64 (i : Int), .bool false, .int .i64 0]

structure Vets (w : World) (P : Nat → Prop) (g : Nat) (ss : List (Option Addr × Nat × Nat)) (i : Nat) : Prop where
  head : w.heap[g]? = some (.cells (ss.map sliceV).toArray 44 (0, 0))
  are : ∀ s ∈ ss, ∀ j, j < s.2.1 → ∃ b, s.1 = some ⟨b, 0, none⟩ ∧ P b ∧ b < w.heap.size ∧ w.rangeAt b (j * 4) (mineV i)
  few : ∀ s ∈ ss, s.2.1 ≤ 9223372036854775807
  len : ss.length ≤ 100
theorem Vets.kept {w w' : World} {P T : Nat → Prop} {g : Nat} {ss : List (Option Addr × Nat × Nat)} {i : Nat} (h : Vets w P g ss i) (k : Kept T w w') (hn : ∀ i, P i → ¬ T i) (hg : ¬ T g) : Vets w' P g ss i :=
  ⟨(k.block g (Array.getElem?_eq_some_iff.1 h.head).1 hg).trans h.head, fun s hs j hj => by
    obtain ⟨b, h1, h2, h3, h4⟩ := h.are s hs j hj
    exact ⟨b, h1, h2, Nat.lt_of_lt_of_le h3 k.size, fun t v hv => (k.cell (a := ⟨b, j * 4 + t, none⟩) h3 (hn b h2)).trans (h4 t v hv)⟩, h.few, h.len⟩
theorem Vets.cell {w : World} {P : Nat → Prop} {g : Nat} {ss : List (Option Addr × Nat × Nat)} {q : Nat} (h : Vets w P g ss q) (i : Nat) (hi : i < ss.length) : w.cell? ⟨g, i, none⟩ = some (.slice ss[i].1 ss[i].2.1 ss[i].2.2) := by
  rw [cell_of_row w g i _ _ _ h.head]; simp [hi, sliceV]

structure BookV (w : World) (F : Nat → Prop) (v : Value) (es : List Ent) : Prop where
  row : w.ownsRow 0 129 1 v es.length (es.map Ent.val)
  vets : ∀ i (hi : i < es.length), Vets w es[i].P es[i].g es[i].ss i
  foot : ∀ i (hi : i < es.length), F es[i].g ∧ ∀ k, es[i].P k → F k
  foot2 : ∀ k, v.ownBlock = some k → F k
theorem BookV.kept {w w' : World} {F T : Nat → Prop} {v : Value} {es : List Ent} (h : BookV w F v es) (k : Kept T w w') (hn : ∀ i, F i → ¬ T i) : BookV w' F v es :=
  ⟨k.owns h.row (fun i hi => hn i (h.foot2 i hi)), fun i hi => (h.vets i hi).kept k (fun j hj => hn j ((h.foot i hi).2 j hj)) (hn _ (h.foot i hi).1), h.foot, h.foot2⟩
theorem BookV.cell {w : World} {F : Nat → Prop} {g cap : Nat} {es : List Ent} (h : BookV w F (.slice (some ⟨g, 0, none⟩) es.length cap) es) (i : Nat) (hi : i < es.length) : w.cell? ⟨g, i, none⟩ = some (.slice (some ⟨es[i].g, 0, none⟩) es[i].ss.length 4) := by
  have := h.row.cells (g := g) rfl i es[i].val (by simp [hi])
  rw [Addr.add_mid] at this
  simpa [Ent.val] using this
theorem BookV.rowAt {w : World} {F : Nat → Prop} {a : Option Addr} {cap : Nat} {es : List Ent} (h : BookV w F (.slice a es.length cap) es) (hn : 0 < es.length) : ∃ g, a = some ⟨g, 0, none⟩ := by
  rcases h.row.2 with ⟨h0, h1⟩ | ⟨g, cap', cur, hv, _⟩
  · omega
  · cases hv; exact ⟨g, rfl⟩

/-- The book: lists of bytes (F) and of versions (H), apart. -/
structure Book (w : World) (bp : Nat) (l : Value) (F H : Nat → Prop) (a b : Option Addr) (ca cb : Nat) (es vs : List Ent) : Prop where
  head : PlayHead w bp l (.slice a es.length ca) (.slice b vs.length cb)
  bytes : BookM w F (.slice a es.length ca) es (fun i => digB i 0)
  rows : BookV w H (.slice b vs.length cb) vs
  fbp : ¬ F bp
  hbp : ¬ H bp
  apart : ∀ k, F k → ¬ H k
  few : es.length ≤ 4398046511104
  few2 : vs.length ≤ 4398046511104
  flt : ∀ k, F k → k < w.heap.size
  hlt : ∀ k, H k → k < w.heap.size
theorem Book.kept {w w' : World} {bp : Nat} {l : Value} {F H T : Nat → Prop} {a b : Option Addr} {ca cb : Nat} {es vs : List Ent} (h : Book w bp l F H a b ca cb es vs) (k : Kept T w w') (hF : ∀ i, F i → ¬ T i) (hH : ∀ i, H i → ¬ T i) (hb : ¬ T bp) : Book w' bp l F H a b ca cb es vs :=
  ⟨h.head.kept k hb, h.bytes.kept k hF, h.rows.kept k hH, h.fbp, h.hbp, h.apart, h.few, h.few2, fun i hi => Nat.lt_of_lt_of_le (h.flt i hi) k.size, fun i hi => Nat.lt_of_lt_of_le (h.hlt i hi) k.size⟩

set_option maxHeartbeats 2000000 in
theorem whole_any (w : World) (bp : Nat) (l : Value) (F H : Nat → Prop) (a b : Option Addr) (ca cb : Nat) (es vs : List Ent) (h : Book w bp l F H a b ca cb es vs) :
    Calls Tryz.prog 38 #[.pointer (some ⟨bp, 1, none⟩)] w fun e w' => e = .returned (.bool true) ∧ Book w' bp l F H a b ca cb es vs ∧ Kept F w w' := by
  have HH : Hid _ := h
  have hfew := h.few2
  clear h
  go_enter Tryz.func38, Tryz.ntmps38
  go_wp2
  go_loopw [3] (fun t wr => ∃ k : Nat, k ≤ vs.length ∧ t = .int .i64 k ∧ Book wr bp l F H a b ca cb es vs ∧ Kept (fun _ => False) w wr) (fun t _ => vs.length - (intOf t).toNat)
  case atStart => exact ⟨0, Nat.zero_le _, rfl, HH.out, Kept.refl _ _⟩
  case round =>
    obtain ⟨k, hk, rfl, hb, hkept⟩ := hrel
    have HB : Hid _ := hb
    have HK : Hid _ := hkept
    have hc2 := hb.head.c.2.2.1
    clear hb hkept
    by_cases hlt : k < vs.length
    · obtain ⟨g, rfl⟩ := HB.out.rows.rowAt (by omega)
      have hck := HB.out.rows.cell k hlt
      have hlk := (HB.out.rows.vets k hlt).len
      go_wp2
      go_loopw [4] (fun t wr => ∃ i : Nat, i ≤ vs[k].ss.length ∧ t = .int .i64 i ∧ Book wr bp l F H a (some ⟨g, 0, none⟩) ca cb es vs ∧ Kept (fun _ => False) w wr) (fun t _ => vs[k].ss.length - (intOf t).toNat)
      case atStart => exact ⟨0, Nat.zero_le _, rfl, HB.out, HK.out⟩
      case round =>
        obtain ⟨i, hi, rfl, hb, hkept⟩ := hrel
        have HB2 : Hid _ := hb
        have HK2 : Hid _ := hkept
        have hc2 := hb.head.c.2.2.1
        have hck := HB2.out.rows.cell k hlt
        clear hb hkept
        by_cases hlt2 : i < vs[k].ss.length
        · have hci := (HB2.out.rows.vets k hlt).cell i hlt2
          have hfi := (HB2.out.rows.vets k hlt).few _ (List.getElem_mem hlt2)
          go_wp2
          go_loopw [5] (fun t wr => ∃ j : Nat, j ≤ vs[k].ss[i].2.1 ∧ t = .int .i64 j ∧ Book wr bp l F H a (some ⟨g, 0, none⟩) ca cb es vs ∧ Kept (fun _ => False) w wr) (fun t _ => vs[k].ss[i].2.1 - (intOf t).toNat)
          case atStart => exact ⟨0, Nat.zero_le _, rfl, HB2.out, HK2.out⟩
          case round =>
            obtain ⟨j, hj, rfl, hb, hkept⟩ := hrel
            have HB3 : Hid _ := hb
            have HK3 : Hid _ := hkept
            have hc2 := hb.head.c.2.2.1
            have hck := HB3.out.rows.cell k hlt
            have hci := (HB3.out.rows.vets k hlt).cell i hlt2
            clear hb hkept
            by_cases hlt3 : j < vs[k].ss[i].2.1
            · obtain ⟨b', h1, h2, h3, h4⟩ := (HB3.out.rows.vets k hlt).are _ (List.getElem_mem hlt2) j hlt3
              have m0 : wr.cell? ⟨b', j * 4, none⟩ = some (.string mineB) := h4 0 _ rfl
              have m1 : wr.cell? ⟨b', j * 4 + 1, none⟩ = some (.int .i64 (k : Int)) := h4 1 _ rfl
              have m2 : wr.cell? ⟨b', j * 4 + 2, none⟩ = some (.bool false) := h4 2 _ rfl
              have m3 : wr.cell? ⟨b', j * 4 + 3, none⟩ = some (.int .i64 0) := h4 3 _ rfl
              rw [h1] at hci
              have H1 : Hid _ := h1
              clear h1 h4
              have hmine : mineB.toList = [40, 109, 105, 110, 101, 41] := by rw [ByteArray.toList_eq]; rfl
              go_wp2
              go_roundw
              case rel => exact ⟨j + 1, by omega, by go_num, HB3.out.kept (Kept.alloc (fun _ => False) wr _) (fun _ _ hf => hf) (fun _ _ hf => hf) (fun hf => hf), HK3.out.trans (Kept.alloc (fun _ => False) wr _) (fun _ h => .inl h)⟩
              case measure => simp [intOf]; omega
            · go_wp2
              go_roundw
              case rel => exact ⟨i + 1, by omega, by go_num, HB3.out, HK3.out⟩
              case measure => simp [intOf]; omega
        · go_wp2
          go_roundw
          case rel => exact ⟨k + 1, by omega, by go_num, HB2.out, HK2.out⟩
          case measure => simp [intOf]; omega
    · go_wp2_with (go_at_call 64; refine (wholeBytes_any _ bp l _ F a ca es HB.out.head HB.out.fbp HB.out.bytes HB.out.few).mono ?_; rintro e w' ⟨rfl, hbm, hk2⟩; have HM : Hid _ := hbm; have HK2 : Hid _ := hk2; clear hbm hk2)
      go_ret
      exact ⟨rfl, ⟨HB.out.head.kept HK2.out HB.out.fbp, HM.out, HB.out.rows.kept HK2.out (fun i hi hc => HB.out.apart i hc hi), HB.out.fbp, HB.out.hbp, HB.out.apart, HB.out.few, HB.out.few2, fun i hi => Nat.lt_of_lt_of_le (HB.out.flt i hi) HK2.out.size, fun i hi => Nat.lt_of_lt_of_le (HB.out.hlt i hi) HK2.out.size⟩, (HK.out.mono (fun _ hf => hf.elim)).trans HK2.out (fun _ h => .inl h)⟩
end Go.Proofs.YtcoengihaobddaaGreatDoor.book
namespace Go.Proofs.YtcoengihaobddaaGreatDoor.book
open Go.RowKit Go.Proofs.YtcoengihaobddaaGreatDoor.disk Go.Proofs.YtcoengihaobddaaGreatDoor.ref

/-- What an append of m elements to the row v of n makes. -/
structure App (w w' : World) (e : TypeId) (size : Nat) (v : Value) (n m : Nat) (xs : List Value) (r : Value) : Prop where
  keeps : w'.ownsRow 0 e size v n xs
  kept : Kept (fun k => v.ownBlock = some k) w w'
  res : (∃ g cx, v = .slice (some ⟨g, 0, none⟩) n cx ∧ r = .slice (some ⟨g, 0, none⟩) (n + m) cx ∧ n + m ≤ cx) ∨
    (∃ cap cur, r = .slice (some ⟨w.heap.size, 0, none⟩) (n + m) cap ∧ w'.heap[w.heap.size]? = some (.cells cur e (0, 0)) ∧ (n + m) * size ≤ cur.size)

theorem run_append_keeps {P : Program} (w : World) (t ty e : TypeId) (i : TypeInfo) (z : Value) (size bytes : Nat) (ht : P.underlying t = some (.slice e)) (hi : P.info? e = some i) (hz : i.zero = some z)
    (hsize : i.size = size) (hby : i.bytes = bytes) (hzs : z.cells.size = size) (v : Value) (n : Nat) (xs : List Value) (hown : w.ownsRow 0 e size v n xs)
    (a : Addr) (m c : Nat) (news : List Value) (hl : news.length = m * size) (hnews : ∀ j u, news[j]? = some u → w.cell? (a.add j) = some u) (h1 : ∀ u ∈ news, u.oneCell' = true) (hm : 0 < m)
    (h63 : n + m ≤ maxLen) (hbytes : (n + m) * bytes ≤ 140737488355328) :
    ∃ r w', (Builtin.append_ #[t, t] ty #[v, .slice (some a) m c]).run P w = .ok r w' ∧ App w w' e size v n m xs r := by
  subst hsize
  subst hby
  have hsmall : n + m ≤ 9223372036854775807 := by simp only [maxLen] at h63; omega
  rcases hown.2 with ⟨rfl, rfl⟩ | ⟨g, cap, cur, rfl, hbg, hg, hnc, hcm, hcs, htake⟩
  · have hx : xs = [] := List.eq_nil_of_length_eq_zero (by simpa using hown.1)
    subst hx
    have hr := run_append_nil (P := P) w t ty e i z ht hi hz a m c news hl hnews (by omega) (by omega) (by have hb := hbytes; simp only [Nat.zero_add] at hb; omega)
    refine ⟨_, _, hr, World.ownsRow_nil _ _ _ _, (Kept.drew _ w).trans (Kept.alloc _ _ _) (fun _ h => .inl h), .inr ⟨_, _, by rw [Nat.zero_add], heap_alloc_new w.drew _, ?_⟩⟩
    simp only [Array.size_append, List.size_toArray, hl, Nat.zero_add]; omega
  · by_cases hroom : n + m ≤ cap
    · have hfit : n * i.size + news.length ≤ cur.size := by rw [hl, hcs, ← Nat.add_mul]; exact Nat.mul_le_mul_right _ hroom
      have hr := run_append_room (P := P) w t ty e i ht hi g n cap cur hg a m c news hl hnews h1 hroom hfit
      refine ⟨_, _, hr, ⟨hown.1, .inr ⟨g, cap, _, rfl, hbg, setRow_heap w g cur _ e _ hg, hnc, hcm, ?_, ?_⟩⟩, ⟨rfl, rfl, rfl, by simp, fun k _ hk => setRow_other w g k _ (fun e => hk (by simp [Value.ownBlock, e]))⟩, .inl ⟨g, cap, rfl, rfl, hroom⟩⟩
      · simp only [List.size_toArray, List.length_append, List.length_take, List.length_drop, Array.length_toList]
        omega
      · rw [List.toList_toArray, htake, List.append_assoc, ← hown.1]
        exact List.take_left
    · have holds : ∀ j u, xs[j]? = some u → w.cell? ((⟨g, 0, none⟩ : Addr).add j) = some u := hown.cells (g := g) rfl
      have hr := run_append_grow (P := P) w t ty e i z ht hi hz ⟨g, 0, none⟩ n cap xs hown.1 holds a m c news hl hnews (by omega) (by omega) (growslice_fits (by omega) hbytes)
      have k : ∀ S : Nat → Prop, Kept S w (w.drew.alloc (.cells (xs.toArray ++ news.toArray ++ Builtin.zeroCells z.cells (grownCap w (n + m) cap e - (n + m))) e)) := fun S => (Kept.drew _ w).trans (Kept.alloc _ _ _) (fun _ h => .inl h)
      refine ⟨_, _, hr, (k (fun _ => False)).owns hown (fun _ _ hf => hf), k _, .inr ⟨_, _, rfl, heap_alloc_new w.drew _, ?_⟩⟩
      simp only [Array.size_append, List.size_toArray, hl, hown.1, Nat.add_mul]; omega

theorem wpList_append_keeps {P : Program} {w : World} {ops : Array Oper} {rest : List Oper} {o : Oper} {a : Act} {Q : Exit → Act → World → Prop} (hgd : o.guard = none) (s x : Operand) (t : TypeId)
    (ho : o.op = .call { callee := .builtin .append, args := #[s, x], argTypes := #[t, t] })
    (e : TypeId) (i : TypeInfo) (z : Value) (size bytes : Nat) (ht : P.underlying t = some (.slice e)) (hi : P.info? e = some i) (hz : i.zero = some z)
    (hsize : i.size = size) (hby : i.bytes = bytes) (hzs : z.cells.size = size) (v : Value) (n : Nat) (xs : List Value) (hs : a.eval s = v) (hown : w.ownsRow 0 e size v n xs)
    (ad : Addr) (m c : Nat) (news : List Value) (hx : a.eval x = .slice (some ad) m c) (hl : news.length = m * size) (hnews : ∀ j u, news[j]? = some u → w.cell? (ad.add j) = some u) (h1 : ∀ u ∈ news, u.oneCell' = true) (hm : 0 < m)
    (h63 : n + m ≤ maxLen) (hbytes : (n + m) * bytes ≤ 140737488355328)
    (h : ∀ r w', App w w' e size v n m xs r → wpList P ops Q rest (a.put o.dst r) w') : wpList P ops Q (o :: rest) a w := by
  refine wpList_plain hgd fun K hK => ?_
  obtain ⟨r, w', hr, h2⟩ := run_append_keeps (P := P) w t o.type e i z size bytes ht hi hz hsize hby hzs v n xs hown ad m c news hl hnews h1 hm h63 hbytes
  unfold Oper.wp execOp
  simp only [ho, resolve, invoke, builtin, Sem.run_bind, Sem.run_pure, Result.andThen_ok, List.map_toArray, List.map_cons, List.map_nil, hs, hx, hr]
  exact hK _ _ (h r w' h2)

/-- .. the slice that comes out, whatever it is. -/
theorem App.form {w w' : World} {e : TypeId} {size : Nat} {v : Value} {n m : Nat} {xs : List Value} {r : Value} (h : App w w' e size v n m xs r) : ∃ g c, r = .slice (some ⟨g, 0, none⟩) (n + m) c ∧
    ((v = .slice (some ⟨g, 0, none⟩) n c ∧ n + m ≤ c) ∨ (g = w.heap.size ∧ ∃ cur, w'.heap[g]? = some (.cells cur e (0, 0)) ∧ (n + m) * size ≤ cur.size)) := by
  rcases h.res with ⟨g, cx, h1, h2, h3⟩ | ⟨cap, cur, h1, h2, h3⟩
  · exact ⟨g, cx, h2, .inl ⟨h1, h3⟩⟩
  · exact ⟨w.heap.size, cap, h1, .inr ⟨rfl, cur, h2, h3⟩⟩
end Go.Proofs.YtcoengihaobddaaGreatDoor.book

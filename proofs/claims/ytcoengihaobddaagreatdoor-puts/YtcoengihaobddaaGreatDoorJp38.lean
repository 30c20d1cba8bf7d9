/- Part 38 of 39 of a proof: Rep1, Rep2, Mng1, Mng2 -/
import Derived.Test.YtcoengihaobddaaGreatDoorJp27
import Derived.Test.YtcoengihaobddaaGreatDoorJp28
import Derived.Test.YtcoengihaobddaaGreatDoorJp30
import Derived.Test.YtcoengihaobddaaGreatDoorJp09
import Derived.Test.YtcoengihaobddaaGreatDoorJp32
import Derived.Test.YtcoengihaobddaaGreatDoorJp34
import Derived.Test.YtcoengihaobddaaGreatDoorJp36
import Derived.Test.YtcoengihaobddaaGreatDoorJp37
import Derived.Test.YtcoengihaobddaaGreatDoorJp33
namespace Go.Proofs.YtcoengihaobddaaGreatDoor.prog
open Go.RowKit Go.Proofs.YtcoengihaobddaaGreatDoor.disk Go.Proofs.YtcoengihaobddaaGreatDoor.ref
open Go.Proofs.YtcoengihaobddaaGreatDoor.law (Con)
open Go.Proofs.YtcoengihaobddaaGreatDoor.keys (keyB)
set_option linter.unusedVariables false
set_option maxRecDepth 8000

/-- The blocks of a disk at rest. -/
def rdB (bs : List (List Value)) (j : Nat) : List Value := Dk.look ⟨bs, [], -1, 0⟩ (j : Nat)
theorem look_rd {D : Dk} (hp : D.ps = []) (j : Nat) : D.look (j : Nat) = rdB D.bs j := by unfold rdB Dk.look; rw [hp]
def bods (es : List En) (bo : Pl → List Piece) : List Nat := (es.map fun x => (bo x.pl).map Piece.at_).flatten
def verOf (bo : Pl → List Piece) (x : En) : Ver := ⟨x.pl.key, x.pl.num, x.mark, ((bo x.pl).map Piece.l).flatten⟩
structure BodyOk (rd : Nat → List Value) (bo : Pl → List Piece) (x : En) : Prop where
  chain : Chain rd (bo x.pl)
  head : headP (bo x.pl) = x.at_
  size : ((bo x.pl).map Piece.l).flatten.length = x.size
  few : (bo x.pl).length ≤ (x.size + 99) / 100
structure Rep (bs : List (List Value)) (V : Con) (tree n : Nat) (m : List UInt8) (es : List En) (bl : List Nat) (bo : Pl → List Piece) : Prop where
  few : bs.length ≤ 1000
  root : IsRoot (rdB bs 1) tree n
  n0 : V.n0 = n
  map : IsMap (rdB bs 2) m
  forest : Forest (rdB bs) tree es bl
  body : ∀ x ∈ es, BodyOk (rdB bs) bo x
  nodup : (bl ++ bods es bo).Nodup
  range : ∀ j ∈ bl ++ bods es bo, 21 ≤ j ∧ j < bs.length
  taken : ∀ i, i + 21 < bs.length → (takenB m i = true ↔ i + 21 ∈ bl ++ bods es bo)
  vers : V.vs.Perm (es.map (verOf bo))
  head : ∃ p : Pg, p.Ok ∧ rdB bs 0 = pgV p ∧ p.items.length = 0
  good : law.Good V

theorem nodup_len : ∀ (l r : List Nat), l.Nodup → (∀ x ∈ l, x ∈ r) → l.length ≤ r.length
  | [], _, _, _ => by simp
  | a :: l, r, hn, hs => by
    rw [List.nodup_cons] at hn
    have h1 := nodup_len l (r.erase a) hn.2 (fun x hx => (List.mem_erase_of_ne (show x ≠ a from fun e => hn.1 (e ▸ hx))).2 (hs x (List.mem_cons_of_mem _ hx)))
    have ha := hs a (List.mem_cons_self ..)
    have hp := List.length_pos_of_mem ha
    rw [List.length_erase_of_mem ha] at h1
    rw [List.length_cons]
    omega
theorem range_len {l : List Nat} {N : Nat} (hn : l.Nodup) (hr : ∀ j ∈ l, 21 ≤ j ∧ j < N) : l.length ≤ N - 21 := by
  have := nodup_len l (List.range' 21 (N - 21)) hn (fun x hx => by rw [List.mem_range'_1]; have := hr x hx; omega)
  simpa using this
theorem kids_six {h : Nat} : ∀ (cs : List (Pl × Tr h)), (∀ c ∈ cs, c.2.ents.length ≤ 6 * c.2.blocks.length) → (flatE cs).length ≤ 6 * (flatB cs).length
  | [], _ => by simp [flatB, flatE]
  | c :: cs, hc => by
    have h1 := hc c (List.mem_cons_self ..)
    have h2 := kids_six cs (fun x hx => hc x (List.mem_cons_of_mem _ hx))
    rw [flatB_cons, flatE_cons, List.length_append, List.length_append]
    omega
theorem Tr.Good.six : ∀ {h : Nat} {t : Tr h}, t.Good → t.items.length ≤ 6 → t.ents.length ≤ 6 * t.blocks.length
  | 0, t, _, hl => by show t.2.length ≤ 6 * 1; have h2 : t.2.length = t.items.length := rfl; omega
  | h + 1, t, g, hl => by
    have := kids_six t.2 (fun c hc => (g.kids.good c hc).1.six (g.kids.good c hc).2.1)
    rw [Tr.blocks_succ, Tr.ents_succ, List.length_cons]
    omega
theorem Forest.six {rd : Nat → List Value} {root : Nat} {es : List En} {bs : List Nat} (h : Forest rd root es bs) : es.length ≤ 6 * bs.length ∧ 2 * bs.length ≤ es.length + 1 ∧ Srt es := by
  rcases h with ⟨rfl, rfl, rfl⟩ | ⟨h, t, hr, hl, rfl, rfl, rfl⟩
  · exact ⟨by simp, by simp, List.Pairwise.nil⟩
  · exact ⟨hr.good.six hr.hi, hr.few, hr.srt⟩
theorem Forest.congr {rd rd' : Nat → List Value} {root : Nat} {es : List En} {bs : List Nat} (h : Forest rd root es bs) (e : ∀ j ∈ bs, rd' j = rd j) : Forest rd' root es bs := by
  rcases h with h | ⟨h, t, hr, hl, rfl, rfl, rfl⟩
  · exact .inl h
  · exact .inr ⟨h, t, hr, hl.congr e, rfl, rfl, rfl⟩
theorem bods_len {rd : Nat → List Value} {bo : Pl → List Piece} : ∀ (es : List En), (∀ x ∈ es, BodyOk rd bo x) → es.length + (bods es bo).length ≤ weight (es.map (verOf bo))
  | [], _ => by simp [bods]
  | x :: es, h => by
    have h1 := h x (List.mem_cons_self ..)
    have h2 := bods_len es (fun y hy => h y (List.mem_cons_of_mem _ hy))
    have h3 := h1.few
    have h4 : weight ((x :: es).map (verOf bo)) = weigh x.size + weight (es.map (verOf bo)) := by
      unfold weight
      rw [List.map_cons, List.map_cons, List.sum_cons]
      show weigh ((bo x.pl).map Piece.l).flatten.length + _ = _
      rw [h1.size]
    have h5 : (bods (x :: es) bo).length = (bo x.pl).length + (bods es bo).length := by simp [bods]
    rw [h4, h5, List.length_cons]
    unfold weigh
    omega
theorem Rep.len {bs : List (List Value)} {V : Con} {tree n : Nat} {m : List UInt8} {es : List En} {bl : List Nat} {bo : Pl → List Piece} (h : Rep bs V tree n m es bl bo) : bl.length ≤ 979 := by
  have h1 := range_len h.nodup h.range
  have := h.few
  rw [List.length_append] at h1
  omega
theorem bods_mem {es : List En} {bo : Pl → List Piece} {j : Nat} : j ∈ bods es bo ↔ ∃ x ∈ es, j ∈ (bo x.pl).map Piece.at_ := by
  unfold bods
  rw [List.mem_flatten]
  constructor
  · rintro ⟨l, hl, hj⟩
    obtain ⟨x, hx, rfl⟩ := List.mem_map.1 hl
    exact ⟨x, hx, hj⟩
  · rintro ⟨x, hx, hj⟩
    exact ⟨_, List.mem_map.2 ⟨x, hx, rfl⟩, hj⟩
theorem Rep.low {bs : List (List Value)} {V : Con} {tree n : Nat} {m : List UInt8} {es : List En} {bl : List Nat} {bo : Pl → List Piece} (h : Rep bs V tree n m es bl bo) : ∀ x ∈ es, (¬ x.pl.lt noPl = true) ∧ 1 ≤ x.pl.num ∧ x.pl.num ≤ n ∧ keyB x.pl.key.data.toList = true := fun x hx => by
  have hv : verOf bo x ∈ V.vs := h.vers.mem_iff.2 (List.mem_map.2 ⟨x, hx, rfl⟩)
  have hk := h.good.key _ hv
  have hm := h.good.num _ hv
  rw [h.n0] at hm
  refine ⟨fun hc => ?_, hm.1, hm.2, hk⟩
  rw [Pl.lt_iff] at hc
  have hne : keyB (noPl.key).data.toList = false := by decide
  rcases hc with hc | ⟨hc, _⟩
  · have h2 : ∀ k : ByteArray, lessB k noPl.key = false := by
      intro k
      show lessL k.data.toList [] = false
      cases k.data.toList <;> rfl
    rw [h2] at hc; cases hc
  · have hk2 : keyB x.pl.key.data.toList = true := hk
    rw [hc, hne] at hk2; cases hk2
end Go.Proofs.YtcoengihaobddaaGreatDoor.prog
namespace Go.Proofs.YtcoengihaobddaaGreatDoor.prog
open Go.RowKit Go.Proofs.YtcoengihaobddaaGreatDoor.disk Go.Proofs.YtcoengihaobddaaGreatDoor.ref
open Go.Proofs.YtcoengihaobddaaGreatDoor.law (Con)
open Go.Proofs.YtcoengihaobddaaGreatDoor.keys (keyB)
set_option linter.unusedVariables false
set_option maxRecDepth 8000

/-- What is known when a version is added. -/
structure Adds (D : Dk) (V : Con) (tree n : Nat) (m : List UInt8) (es : List En) (bl : List Nat) (bo : Pl → List Piece) (key : ByteArray) (mark : Bool) (l : List UInt8) (f : Nat) (C1 : Ck) (m1 : List UInt8) (nb1 : List Nat) (root' : Nat) (C2 : Ck) (m2 : List UInt8) (pb nb : List Nat) : Prop where
  rep : Rep D.bs V tree n m es bl bo
  ps : D.ps = []
  big : 64 ≤ D.bs.length
  body : BodyR D ck0 C1 m m1 f (chunks l) nb1
  ins : InsertR D C1 C2 m1 m2 root' ⟨⟨key, (n : Int) + 1⟩, mark, l.length, f⟩ es bl pb nb
  key : keyB key.data.toList = true
  len : l.length ≤ 300
  bare : mark = true → l = []
  num : n < 4611686018427387904
section
variable {D : Dk} {V : Con} {tree n : Nat} {m : List UInt8} {es : List En} {bl : List Nat} {bo : Pl → List Piece} {key : ByteArray} {mark : Bool} {l : List UInt8} {f : Nat} {C1 : Ck} {m1 : List UInt8} {nb1 : List Nat} {root' : Nat} {C2 : Ck} {m2 : List UInt8} {pb nb : List Nat}
theorem Adds.old (h : Adds D V tree n m es bl bo key mark l f C1 m1 nb1 root' C2 m2 pb nb) {j : Nat} (hj : j ∈ bl ++ bods es bo) : takenB m (j - 21) = true ∧ takenB m1 (j - 21) = true ∧ j ∉ nb1 ∧ j ∉ nb := by
  have hr := h.rep.range j hj
  have h1 : takenB m (j - 21) = true := (h.rep.taken (j - 21) (by omega)).2 (by rw [show j - 21 + 21 = j from by omega]; exact hj)
  have h2 := h.body.stp.grew.keeps h1
  exact ⟨h1, h2, h.body.stp.grew.apart h1, h.ins.stp.grew.apart h2⟩
theorem Adds.mid (h : Adds D V tree n m es bl bo key mark l f C1 m1 nb1 root' C2 m2 pb nb) {j : Nat} (hj : j ∈ nb1) : 21 ≤ j ∧ j < D.bs.length ∧ j ∉ bl ++ bods es bo ∧ j ∉ nb := by
  have hf := h.body.stp.grew.fresh j hj
  refine ⟨hf.1, hf.2.1, fun hc => (h.old hc).2.2.1 hj, ?_⟩
  refine h.ins.stp.grew.apart ?_
  rw [h.body.stp.grew.taken, show j - 21 + 21 = j from by omega]
  simp [hj]
theorem Adds.new (h : Adds D V tree n m es bl bo key mark l f C1 m1 nb1 root' C2 m2 pb nb) {j : Nat} (hj : j ∈ nb) : 21 ≤ j ∧ j < D.bs.length := by
  have hf := h.ins.stp.grew.fresh j hj
  exact ⟨hf.1, hf.2.1⟩
theorem Adds.keys (h : Adds D V tree n m es bl bo key mark l f C1 m1 nb1 root' C2 m2 pb nb) (hf : C2.full = false) : ∀ k ∈ (C2.put 1 (pgV (rootPg root' (n + 1)))).keys, k ∈ [1, 2] ++ (nb1 ++ (pb ++ nb)) := fun k hk => by
  have hf1 : C1.full = false := by
    cases h1 : C1.full with
    | false => rfl
    | true => rw [h.ins.stp.full h1] at hf; cases hf
  rcases (keys_put C2 1 _ k).1 hk with h1 | h1
  · rcases h.ins.stp.keys k h1 with h1 | h1 | h1 | h1 | h1
    · rcases h.body.stp.keys k h1 with h1 | h1 | h1 | h1 | h1
      · exact nomatch h1
      · exact nomatch h1
      · simp [h1]
      · simp [h1]
      · rw [hf1] at h1; exact nomatch h1.2
    · simp [h1]
    · simp [h1]
    · simp [h1]
    · rw [hf] at h1; exact nomatch h1.2
  · simp [h1]
theorem Adds.klt (h : Adds D V tree n m es bl bo key mark l f C1 m1 nb1 root' C2 m2 pb nb) (hf : C2.full = false) : ∀ k ∈ (C2.put 1 (pgV (rootPg root' (n + 1)))).keys, k < D.bs.length := fun k hk => by
  have := h.keys hf k hk
  have hb := h.big
  rcases List.mem_append.1 this with h1 | h1
  · simp at h1; omega
  · rcases List.mem_append.1 h1 with h1 | h1
    · exact (h.mid h1).2.1
    · rcases List.mem_append.1 h1 with h1 | h1
      · exact (h.rep.range k (List.mem_append_left _ (h.ins.sub k h1))).2
      · exact (h.new h1).2
theorem pow_low {h : Nat} (h3 : 3 ^ h ≤ 979) : h ≤ 6 := by
  rcases Nat.lt_or_ge 6 h with h7 | h7
  · have : 3 ^ 7 ≤ 3 ^ h := Nat.pow_le_pow_right (by omega) h7
    omega
  · exact h7
/-- Where it fits, it is taken. -/
theorem Adds.fits (h : Adds D V tree n m es bl bo key mark l f C1 m1 nb1 root' C2 m2 pb nb) (hfit : fitsB V.vs (weigh l.length) D.bs.length = true) : ((C2.put 1 (pgV (rootPg root' (n + 1)))).full || decide (18 < (C2.put 1 (pgV (rootPg root' (n + 1)))).ws.length)) = false := by
  have hnl := h.body.nl
  rw [chunks_len] at hnl
  have hlen := h.len
  cases hf : C2.full with
  | true =>
    exfalso
    have hall := h.ins.chn.full hf
    have h1 := nodup_len (List.range' 21 (D.bs.length - 21)) ((bl ++ bods es bo) ++ (nb1 ++ nb)) List.nodup_range' (fun x hx => by
      rw [List.mem_range'_1] at hx
      have hx1 := hall (x - 21) (by omega)
      rw [h.ins.stp.grew.taken, h.body.stp.grew.taken, show x - 21 + 21 = x from by omega] at hx1
      simp only [Bool.or_eq_true, decide_eq_true_eq] at hx1
      rcases hx1 with (hx1 | hx1) | hx1
      · have := (h.rep.taken (x - 21) (by omega)).1 hx1
        rw [show x - 21 + 21 = x from by omega] at this
        exact List.mem_append_left _ this
      · exact List.mem_append_right _ (List.mem_append_left _ hx1)
      · exact List.mem_append_right _ (List.mem_append_right _ hx1))
    rw [List.length_range', List.length_append, List.length_append, List.length_append] at h1
    have h2 := h.rep.forest.six.2.1
    have h3 := h.ins.nl
    have h4 := bods_len es h.rep.body
    rw [← weight_perm h.rep.vers] at h4
    unfold fitsB weigh at hfit
    simp only [decide_eq_true_eq] at hfit
    omega
  | false =>
    rw [full_put, hf, Bool.false_or, decide_eq_false_iff_not]
    obtain ⟨bl', hF, hp, hh, hc1, hc2⟩ := h.ins.tree hf
    have h1 := nodup_len _ _ (nodup_put h.ins.chn.nodup 1 (pgV (rootPg root' (n + 1)))) (h.keys hf)
    rw [Ck.keys_len] at h1
    simp only [List.length_append, List.length_cons, List.length_nil] at h1
    have hbl : bl'.length ≤ 979 := by
      have := range_len (l := bl') (N := D.bs.length) (hp.nodup_iff.2 (List.nodup_append.2 ⟨(List.nodup_append.1 h.rep.nodup).1, h.ins.stp.grew.nodup, fun a ha b hb e => (h.old (List.mem_append_left _ ha)).2.2.2 (e ▸ hb)⟩)) (fun j hj => by
        rcases List.mem_append.1 (hp.mem_iff.1 hj) with hj | hj
        · exact h.rep.range j (List.mem_append_left _ hj)
        · exact h.new hj)
      have := h.rep.few
      omega
    have := pow_low (Nat.le_trans hc2 hbl)
    omega
theorem rd_cbs (hp : D.ps = []) {ws : List (Nat × List Value)} {j : Nat} : rdB (cbs D.bs ws) j = Dk.look { D with bs := cbs D.bs ws } (j : Nat) := by
  unfold rdB Dk.look
  rw [hp]
/-- What comes of it. -/
theorem Adds.rest (h : Adds D V tree n m es bl bo key mark l f C1 m1 nb1 root' C2 m2 pb nb) (hnf : ((C2.put 1 (pgV (rootPg root' (n + 1)))).full || decide (18 < (C2.put 1 (pgV (rootPg root' (n + 1)))).ws.length)) = false) : ∃ bl' bo', Rep (cbs D.bs (C2.put 1 (pgV (rootPg root' (n + 1)))).ws) (V.add key mark l) root' (n + 1) m2 (insE ⟨⟨key, (n : Int) + 1⟩, mark, l.length, f⟩ es) bl' bo' := by
  simp only [Bool.or_eq_false_iff, decide_eq_false_iff_not, full_put] at hnf
  obtain ⟨hf, h18⟩ := hnf
  have hf1 : C1.full = false := by
    cases h1 : C1.full with
    | false => rfl
    | true => rw [h.ins.stp.full h1] at hf; cases hf
  obtain ⟨bl', hF, hp, _⟩ := h.ins.tree hf
  obtain ⟨ps, c1, c2, c3, c4⟩ := h.body.chain hf1
  have hbig := h.big
  have hkn := nodup_put h.ins.chn.nodup 1 (pgV (rootPg root' (n + 1)))
  -- the blocks behind it
  have look : ∀ j : Nat, j ≠ 0 → (j < 3 ∨ 21 ≤ j) → rdB (cbs D.bs (C2.put 1 (pgV (rootPg root' (n + 1)))).ws) j = (C2.put 1 (pgV (rootPg root' (n + 1)))).look D (j : Nat) := fun j h0 hj => by
    rw [rd_cbs h.ps]
    exact cbs_look h.ps hkn (by omega) (h.klt hf) h0 hj
  have look2 : ∀ j : Nat, j ≠ 0 → j ≠ 1 → (j < 3 ∨ 21 ≤ j) → rdB (cbs D.bs (C2.put 1 (pgV (rootPg root' (n + 1)))).ws) j = C2.look D (j : Nat) := fun j h0 h1 hj => by
    rw [look j h0 hj, look_put_ne _ _ _ _ _ (by omega)]
  have hne : ∀ x ∈ es, x.pl ≠ ⟨key, (n : Int) + 1⟩ := fun x hx e => by
    have := (h.rep.low x hx).2.2.1
    rw [e] at this
    simp only at this
    omega
  refine ⟨bl', fun p => if p = ⟨key, (n : Int) + 1⟩ then ps else bo p, ?_⟩
  have hbo : ∀ x ∈ es, (fun p => if p = (⟨key, (n : Int) + 1⟩ : Pl) then ps else bo p) x.pl = bo x.pl := fun x hx => if_neg (hne x hx)
  have hboe : (fun p => if p = (⟨key, (n : Int) + 1⟩ : Pl) then ps else bo p) ⟨key, (n : Int) + 1⟩ = ps := if_pos rfl
  generalize (fun p => if p = (⟨key, (n : Int) + 1⟩ : Pl) then ps else bo p) = bo' at *
  have hbods0 : bods es bo' = bods es bo := by
    unfold bods
    congr 1
    exact List.map_congr_left (fun x hx => by rw [hbo x hx])
  have hbods : (bods (insE ⟨⟨key, (n : Int) + 1⟩, mark, l.length, f⟩ es) bo').Perm (nb1 ++ bods es bo) := by
    have h1 : (bods (insE ⟨⟨key, (n : Int) + 1⟩, mark, l.length, f⟩ es) bo').Perm (bods (⟨⟨key, (n : Int) + 1⟩, mark, l.length, f⟩ :: es) bo') := ((insE_perm _ es).map _).flatten
    have h2 : bods (⟨⟨key, (n : Int) + 1⟩, mark, l.length, f⟩ :: es) bo' = ps.map Piece.at_ ++ bods es bo := by
      rw [← hbods0]
      unfold bods
      rw [List.map_cons, List.flatten_cons, hboe]
    rw [h2] at h1
    exact h1.trans (c4.append_right _)
  have hall : (bl' ++ bods (insE ⟨⟨key, (n : Int) + 1⟩, mark, l.length, f⟩ es) bo').Perm ((bl ++ bods es bo) ++ (nb1 ++ nb)) := by
    refine (hp.append hbods).trans ?_
    rw [List.append_assoc, List.append_assoc]
    refine List.Perm.append_left bl ?_
    have e1 : (nb ++ (nb1 ++ bods es bo)).Perm ((nb1 ++ bods es bo) ++ nb) := List.perm_append_comm
    refine e1.trans ?_
    rw [← List.append_assoc]
    exact List.Perm.append_right nb List.perm_append_comm
  have hmem : ∀ j, j ∈ bl' ++ bods (insE ⟨⟨key, (n : Int) + 1⟩, mark, l.length, f⟩ es) bo' ↔ (j ∈ bl ++ bods es bo ∨ j ∈ nb1 ∨ j ∈ nb) := fun j => by
    rw [hall.mem_iff, List.mem_append (s := bl ++ bods es bo), List.mem_append (s := nb1)]
  have hlow : ∀ x : Nat, 21 ≤ x → x ≠ 0 ∧ x ≠ 1 ∧ (x < 3 ∨ 21 ≤ x) := fun x hx => ⟨by omega, by omega, .inr hx⟩
  have hflat : (ps.map Piece.l).flatten = l := by rw [c3, chunks_flat]
  have hplen : ps.length = (l.length + 123) / 124 := by
    have := congrArg List.length c3
    rw [List.length_map, chunks_len] at this
    exact this
  have hll := h.len
  refine ⟨by rw [cbs_len]; exact h.rep.few, ?_, ?_, ?_, ?_, ?_, ?_, ?_, ?_, ?_, ?_, ?_⟩
  · have := look 1 (by omega) (by omega)
    rw [this]
    have h2 : (C2.put 1 (pgV (rootPg root' (n + 1)))).look D ((1 : Nat) : Int) = pgV (rootPg root' (n + 1)) := look_put_eq _ _ _ _
    rw [h2]
    exact ⟨.inl rfl, h.ins.lt, by have := h.num; omega⟩
  · show V.n0 + 1 = _
    rw [h.rep.n0]
    omega
  · rw [look2 2 (by omega) (by omega) (by omega)]
    exact h.ins.chn.map
  · refine hF.congr (fun j hj => ?_)
    have hj2 : 21 ≤ j := by
      rcases List.mem_append.1 (hp.mem_iff.1 hj) with hj | hj
      · exact (h.rep.range j (List.mem_append_left _ hj)).1
      · exact (h.new hj).1
    obtain ⟨a1, a2, a3⟩ := hlow j hj2
    exact look2 j a1 a2 a3
  · intro x hx
    rcases insE_mem.1 hx with rfl | hx
    · refine ⟨?_, ?_, ?_, ?_⟩
      · show Chain _ (bo' ⟨key, (n : Int) + 1⟩)
        rw [hboe]
        refine c1.congr (fun p hpp => ?_)
        have hm1 : p.at_ ∈ nb1 := c4.mem_iff.1 (List.mem_map.2 ⟨p, hpp, rfl⟩)
        have hm2 := h.mid hm1
        obtain ⟨a1, a2, a3⟩ := hlow p.at_ hm2.1
        rw [look2 _ a1 a2 a3]
        exact h.ins.stp.look _ (fun hc => hm2.2.2.1 (List.mem_append_left _ (h.ins.sub _ hc))) hm2.2.2.2 (by omega) a1
      · show headP (bo' ⟨key, (n : Int) + 1⟩) = f
        rw [hboe]; exact c2
      · show ((bo' ⟨key, (n : Int) + 1⟩).map Piece.l).flatten.length = l.length
        rw [hboe, hflat]
      · show (bo' ⟨key, (n : Int) + 1⟩).length ≤ (l.length + 99) / 100
        rw [hboe, hplen]; omega
    · have hb := h.rep.body x hx
      have hx2 := hbo x hx
      refine ⟨?_, by rw [hx2]; exact hb.head, by rw [hx2]; exact hb.size, by rw [hx2]; exact hb.few⟩
      rw [hx2]
      refine hb.chain.congr (fun p hpp => ?_)
      have hm1 : p.at_ ∈ bods es bo := bods_mem.2 ⟨x, hx, List.mem_map.2 ⟨p, hpp, rfl⟩⟩
      have hm2 := h.old (List.mem_append_right bl hm1)
      have hm3 := h.rep.range p.at_ (List.mem_append_right _ hm1)
      obtain ⟨a1, a2, a3⟩ := hlow p.at_ hm3.1
      have hnp : p.at_ ∉ pb := fun hc => (List.nodup_append.1 h.rep.nodup).2.2 _ (h.ins.sub _ hc) _ hm1 rfl
      rw [look2 _ a1 a2 a3, h.ins.stp.look _ hnp hm2.2.2.2 (by omega) a1, h.body.stp.look _ (fun hc => nomatch hc) hm2.2.2.1 (by omega) a1, ck0_look, look_rd h.ps]
  · refine hall.nodup_iff.2 (List.nodup_append.2 ⟨h.rep.nodup, List.nodup_append.2 ⟨h.body.stp.grew.nodup, h.ins.stp.grew.nodup, fun a ha b hb e => (h.mid ha).2.2.2 (e ▸ hb)⟩, fun a ha b hb e => ?_⟩)
    rcases List.mem_append.1 hb with hb | hb
    · exact (h.old ha).2.2.1 (e ▸ hb)
    · exact (h.old ha).2.2.2 (e ▸ hb)
  · intro j hj
    rw [cbs_len]
    rcases (hmem j).1 hj with hj | hj | hj
    · exact h.rep.range j hj
    · exact ⟨(h.mid hj).1, (h.mid hj).2.1⟩
    · exact h.new hj
  · intro i hi
    rw [cbs_len] at hi
    rw [hmem, h.ins.stp.grew.taken, h.body.stp.grew.taken]
    simp only [Bool.or_eq_true, decide_eq_true_eq]
    rw [h.rep.taken i hi, or_assoc]
  · show (V.vs ++ [(⟨key, V.n0 + 1, mark, l⟩ : Ver)]).Perm _
    have h1 : ((insE ⟨⟨key, (n : Int) + 1⟩, mark, l.length, f⟩ es).map (verOf bo')).Perm ((⟨⟨key, (n : Int) + 1⟩, mark, l.length, f⟩ :: es).map (verOf bo')) := (insE_perm _ es).map _
    have h2 : (⟨⟨key, (n : Int) + 1⟩, mark, l.length, f⟩ :: es).map (verOf bo') = ⟨key, V.n0 + 1, mark, l⟩ :: es.map (verOf bo) := by
      rw [List.map_cons]
      congr 1
      · show (⟨key, (n : Int) + 1, mark, ((bo' ⟨key, (n : Int) + 1⟩).map Piece.l).flatten⟩ : Ver) = _
        rw [hboe, hflat, h.rep.n0]
      · refine List.map_congr_left (fun x hx => ?_)
        unfold verOf
        rw [hbo x hx]
    rw [h2] at h1
    refine List.Perm.trans ?_ h1.symm
    refine List.perm_append_comm.trans ?_
    show ((⟨key, V.n0 + 1, mark, l⟩ : Ver) :: V.vs).Perm _
    exact h.rep.vers.cons _
  · refine ⟨Pg.new 1, Pg.new_ok 1 (by omega), ?_, rfl⟩
    rw [rd_cbs h.ps]
    exact cbs_head h.ps (by omega) _
  · have hg := h.rep.good
    have hn0 := h.rep.n0
    refine ⟨?_, ?_, ?_, ?_, ?_, ?_, ?_⟩
    · show (V.vs ++ [(⟨key, V.n0 + 1, mark, l⟩ : Ver)]).Pairwise _
      refine List.pairwise_append.2 ⟨hg.apart, List.pairwise_singleton _ _, fun a ha b hb hc => ?_⟩
      rw [List.mem_singleton.1 hb] at hc
      have := (hg.num a ha).2
      have h2 : a.num = V.n0 + 1 := hc.2
      omega
    · intro v hv
      show 1 ≤ v.num ∧ v.num ≤ V.n0 + 1
      rcases List.mem_append.1 hv with hv | hv
      · have := hg.num v hv; omega
      · rw [List.mem_singleton.1 hv]; show 1 ≤ V.n0 + 1 ∧ V.n0 + 1 ≤ V.n0 + 1; omega
    · intro v hv
      rcases List.mem_append.1 hv with hv | hv
      · exact hg.key v hv
      · rw [List.mem_singleton.1 hv]; exact h.key
    · intro v hv
      rcases List.mem_append.1 hv with hv | hv
      · exact hg.body v hv
      · rw [List.mem_singleton.1 hv]; exact h.len
    · intro v hv
      rcases List.mem_append.1 hv with hv | hv
      · exact hg.mark v hv
      · rw [List.mem_singleton.1 hv]; exact h.bare
    · have h1 : (V.vs ++ [(⟨key, V.n0 + 1, mark, l⟩ : Ver)]).length ≤ 6000 := by
        have h2 := hF.six.1
        rw [(insE_perm _ es).length_eq, List.length_cons] at h2
        have h3 := h.rep.vers.length_eq
        rw [List.length_map] at h3
        have hbl : bl'.length ≤ 979 := by
          have := range_len (l := bl') (N := D.bs.length) (hp.nodup_iff.2 (List.nodup_append.2 ⟨(List.nodup_append.1 h.rep.nodup).1, h.ins.stp.grew.nodup, fun a ha b hb e => (h.old (List.mem_append_left _ ha)).2.2.2 (e ▸ hb)⟩)) (fun j hj => by
            rcases List.mem_append.1 (hp.mem_iff.1 hj) with hj | hj
            · exact h.rep.range j (List.mem_append_left _ hj)
            · exact h.new hj)
          have := h.rep.few
          omega
        rw [List.length_append, List.length_singleton]
        omega
      exact h1
    · show 0 ≤ V.n0 + 1
      have := hg.n0
      omega
end
end Go.Proofs.YtcoengihaobddaaGreatDoor.prog
namespace Go.Proofs.YtcoengihaobddaaGreatDoor.prog
open Go.RowKit Go.Proofs.YtcoengihaobddaaGreatDoor.disk Go.Proofs.YtcoengihaobddaaGreatDoor.ref
open Go.Proofs.YtcoengihaobddaaGreatDoor.law (Con)
open Go.Proofs.YtcoengihaobddaaGreatDoor.keys (keyB)
set_option linter.unusedVariables false
set_option maxRecDepth 8000

theorem key_len {l : List UInt8} (h : keyB l = true) : 1 ≤ l.length ∧ l.length ≤ 8 ∧ (0 : UInt8) ∉ l := by
  unfold keyB at h
  simp only [Bool.and_eq_true, decide_eq_true_eq] at h
  refine ⟨h.1.1, h.1.2, fun h0 => ?_⟩
  have h2 := h.2
  unfold keys.allB at h2
  rw [List.all_eq_true] at h2
  have := h2 0 h0
  exact absurd this (by decide)
theorem key_low {key : ByteArray} (h : keyB key.data.toList = true) (k : Int) : ¬ (⟨key, k⟩ : Pl).lt noPl = true := fun hc => by
  rw [Pl.lt_iff] at hc
  rcases hc with hc | ⟨hc, _⟩
  · have h2 : ∀ k : ByteArray, lessB k noPl.key = false := by
      intro k
      show lessL k.data.toList [] = false
      cases k.data.toList <;> rfl
    rw [h2] at hc; cases hc
  · have h1 := (key_len h).1
    have hc' : key = noPl.key := hc
    rw [hc'] at h1
    exact absurd h1 (by decide)
section
variable {bs : List (List Value)} {V : Con} {tree n : Nat} {m : List UInt8} {es : List En} {bl : List Nat} {bo : Pl → List Piece}
theorem Rep.ver (h : Rep bs V tree n m es bl bo) {v : Ver} (hv : v ∈ V.vs) : ∃ x ∈ es, v = verOf bo x := by
  obtain ⟨x, hx, e⟩ := List.mem_map.1 (h.vers.mem_iff.1 hv)
  exact ⟨x, hx, e.symm⟩
theorem Rep.mem (h : Rep bs V tree n m es bl bo) {x : En} (hx : x ∈ es) : verOf bo x ∈ V.vs := h.vers.mem_iff.2 (List.mem_map.2 ⟨x, hx, rfl⟩)
theorem Srt.same {l : List En} (h : Srt l) {x y : En} (hx : x ∈ l) (hy : y ∈ l) (e : x.pl = y.pl) : x = y := by
  induction l with
  | nil => exact nomatch hx
  | cons a l ih =>
    have h2 := List.pairwise_cons.1 h
    rcases List.mem_cons.1 hx with ex | hx1
    · rcases List.mem_cons.1 hy with ey | hy1
      · rw [ex, ey]
      · have := h2.1 y hy1
        rw [← ex, e] at this
        exact absurd this (Pl.irrefl _)
    · rcases List.mem_cons.1 hy with ey | hy1
      · have := h2.1 x hx1
        rw [← ey, e] at this
        exact absurd this (Pl.irrefl _)
      · exact ih h2.2 hx1 hy1
/-- The first one at a place or behind it. -/
theorem Srt.head_on {l : List En} (h : Srt l) {p : Pl} {x : En} (ho : (onE p l).head? = some x) : x ∈ l ∧ x.pl.lt p = false ∧ ∀ y ∈ l, y.pl.lt p = false → y = x ∨ x.pl.lt y.pl = true := by
  have hs : Srt (onE p l) := List.Pairwise.filter _ h
  cases hl : onE p l with
  | nil => rw [hl] at ho; cases ho
  | cons a r =>
    rw [hl] at ho
    cases ho
    have hx : x ∈ onE p l := by rw [hl]; exact List.mem_cons_self ..
    have hx2 := List.mem_filter.1 hx
    refine ⟨hx2.1, by simpa using hx2.2, fun y hy hlt => ?_⟩
    have hym : y ∈ onE p l := List.mem_filter.2 ⟨hy, by rw [hlt]; rfl⟩
    rw [hl] at hym hs
    rcases List.mem_cons.1 hym with rfl | hym
    · exact .inl rfl
    · exact .inr ((List.pairwise_cons.1 hs).1 y hym)
theorem head_none {l : List En} {p : Pl} (ho : (onE p l).head? = none) : ∀ y ∈ l, y.pl.lt p = true := fun y hy => by
  have : onE p l = [] := by
    cases h : onE p l with
    | nil => rfl
    | cons a r => rw [h] at ho; cases ho
  unfold onE at this
  rw [List.filter_eq_nil_iff] at this
  have := this y hy
  simpa using this
theorem Rep.lt_max (h : Rep bs V tree n m es bl bo) (hn : n < 4611686018427387904) {y : En} (hy : y ∈ es) (key : ByteArray) (hk : y.pl.key = key) : y.pl.lt ⟨key, 9223372036854775807⟩ = false := by
  cases hc : y.pl.lt ⟨key, 9223372036854775807⟩ with
  | false => rfl
  | true =>
    rw [Pl.lt_iff] at hc
    rcases hc with hc | ⟨_, hc⟩
    · simp only [hk] at hc
      rw [lessB_irrefl] at hc; cases hc
    · simp only at hc
      have := (h.low y hy).2.2.1
      omega
theorem Rep.new_yes (h : Rep bs V tree n m es bl bo) (hn : n < 4611686018427387904) {key : ByteArray} {x : En} (ho : (onE ⟨key, 9223372036854775807⟩ es).head? = some x) (hk : x.pl.key = key) : newestV V.vs key = some (verOf bo x) := by
  have hsr := h.forest.six.2.2
  obtain ⟨hx, _, hall⟩ := hsr.head_on ho
  cases hv : newestV V.vs key with
  | none => exact absurd hk (newest_none hv _ (h.mem hx))
  | some v =>
    obtain ⟨h1, h2, h3⟩ := newest_some hv
    obtain ⟨y, hy, rfl⟩ := h.ver h2
    have hyk : y.pl.key = key := h1
    have h4 : x.pl.num ≤ y.pl.num := h3 _ (h.mem hx) hk
    rcases hall y hy (h.lt_max hn hy key hyk) with rfl | hlt
    · rfl
    · rw [Pl.lt_iff] at hlt
      rcases hlt with hlt | ⟨_, hlt⟩
      · rw [hk, hyk, lessB_irrefl] at hlt; cases hlt
      · omega
theorem Rep.new_no (h : Rep bs V tree n m es bl bo) (hn : n < 4611686018427387904) {key : ByteArray} (hno : ∀ x, (onE ⟨key, 9223372036854775807⟩ es).head? = some x → x.pl.key ≠ key) : newestV V.vs key = none := by
  have hsr := h.forest.six.2.2
  cases hv : newestV V.vs key with
  | none => rfl
  | some v =>
    exfalso
    obtain ⟨h1, h2, _⟩ := newest_some hv
    obtain ⟨y, hy, rfl⟩ := h.ver h2
    have hyk : y.pl.key = key := h1
    have hlm := h.lt_max hn hy key hyk
    cases ho : (onE ⟨key, 9223372036854775807⟩ es).head? with
    | none => rw [head_none ho y hy] at hlm; cases hlm
    | some x =>
      obtain ⟨hx, hxp, hall⟩ := hsr.head_on ho
      have hxk := hno x ho
      rcases hall y hy hlm with rfl | hlt
      · exact hxk hyk
      · rw [Pl.lt_iff] at hlt
        rcases hlt with hlt | ⟨hlt, _⟩
        · rw [hyk] at hlt
          have : x.pl.lt ⟨key, 9223372036854775807⟩ = true := (Pl.lt_iff _ _).2 (.inl hlt)
          rw [this] at hxp; cases hxp
        · exact hxk (hlt.trans hyk)
theorem Rep.at_yes (h : Rep bs V tree n m es bl bo) {key : ByteArray} {num : Int} {x : En} (hx : x ∈ es) (hk : x.pl.key = key) (hnum : x.pl.num = num) : findV V.vs key num = some (verOf bo x) := by
  have hsr := h.forest.six.2.2
  cases hv : findV V.vs key num with
  | none => exact absurd ⟨hk, hnum⟩ (find_none hv _ (h.mem hx))
  | some v =>
    obtain ⟨h1, h2, h3⟩ := find_some hv
    obtain ⟨y, hy, rfl⟩ := h.ver h3
    have e1 : y.pl.key = key := h1
    have e2 : y.pl.num = num := h2
    have : y = x := hsr.same hy hx (by
      have e3 : y.pl = ⟨y.pl.key, y.pl.num⟩ := rfl
      have e4 : x.pl = ⟨x.pl.key, x.pl.num⟩ := rfl
      rw [e3, e4, e1, e2, hk, hnum])
    rw [this]
theorem Rep.at_no (h : Rep bs V tree n m es bl bo) {key : ByteArray} {num : Int} (hno : ∀ x, (onE ⟨key, num⟩ es).head? = some x → ¬ (x.pl.key = key ∧ x.pl.num = num)) : findV V.vs key num = none := by
  have hsr := h.forest.six.2.2
  cases hv : findV V.vs key num with
  | none => rfl
  | some v =>
    exfalso
    obtain ⟨h1, h2, h3⟩ := find_some hv
    obtain ⟨y, hy, rfl⟩ := h.ver h3
    have e1 : y.pl.key = key := h1
    have e2 : y.pl.num = num := h2
    have e3 : y.pl = ⟨key, num⟩ := by rw [← e1, ← e2]
    have hlm : y.pl.lt ⟨key, num⟩ = false := by
      rw [e3]
      cases hc : (⟨key, num⟩ : Pl).lt ⟨key, num⟩ with
      | false => rfl
      | true => exact absurd hc (Pl.irrefl _)
    cases ho : (onE ⟨key, num⟩ es).head? with
    | none => rw [head_none ho y hy] at hlm; cases hlm
    | some x =>
      obtain ⟨hx, hxp, hall⟩ := hsr.head_on ho
      rcases hall y hy hlm with rfl | hlt
      · exact hno _ ho ⟨e1, e2⟩
      · rw [e3, hxp] at hlt; cases hlt
theorem Rep.pieces (h : Rep bs V tree n m es bl bo) {x : En} (hx : x ∈ es) : ((bo x.pl).map Piece.at_).Nodup ∧ x.size ≤ 300 ∧ (bo x.pl).length ≤ 3 := by
  have hb := h.body x hx
  have h1 : x.size ≤ 300 := by
    have := h.good.body _ (h.mem hx)
    have e : (verOf bo x).body.length = x.size := hb.size
    omega
  refine ⟨?_, h1, by have := hb.few; omega⟩
  have hs : List.Sublist ((bo x.pl).map Piece.at_) (bods es bo) := List.sublist_flatten_of_mem (List.mem_map.2 ⟨x, hx, rfl⟩)
  exact hs.nodup (List.nodup_append.1 h.nodup).2.1
end
theorem zero_pg : zeroB = pgV (Pg.new 0) := by
  rw [pgV, Pg.nought]
  rfl
theorem rd_zeros (N j : Nat) : rdB (List.replicate N zeroB) j = zeroB := by
  unfold rdB Dk.look
  split
  · rename_i h
    have h2 : j < N := by have := h.2; simp at this; exact this
    simp [lastOf, h2]
  · rfl
/-- A disk of noughts is a store at rest, with nothing in it. -/
theorem rep_zeros (N : Nat) (h64 : 64 ≤ N) (hN : N ≤ 1000) : Rep (List.replicate N zeroB) ⟨[], 0⟩ 0 0 noMap [] [] (fun _ => []) where
  few := by simpa using hN
  root := by rw [rd_zeros]; exact ⟨.inr ⟨zero_pg, rfl, rfl⟩, by omega, by omega⟩
  n0 := rfl
  map := by rw [rd_zeros]; exact ⟨noMap_len, .inr ⟨zero_pg, rfl⟩⟩
  forest := .inl ⟨rfl, rfl, rfl⟩
  body := fun x hx => nomatch hx
  nodup := by simp [bods]
  range := fun j hj => by simp [bods] at hj
  taken := fun i _ => by rw [taken_none]; simp [bods]
  vers := List.Perm.refl _
  head := ⟨Pg.new 0, Pg.new_ok 0 (by omega), by rw [rd_zeros]; exact zero_pg, rfl⟩
  good := ⟨List.Pairwise.nil, fun v hv => (nomatch hv), fun v hv => (nomatch hv), fun v hv => (nomatch hv), fun v hv => (nomatch hv), by simp, Int.le_refl _⟩
end Go.Proofs.YtcoengihaobddaaGreatDoor.prog
namespace Go.Proofs.YtcoengihaobddaaGreatDoor.prog
open Go.RowKit Go.Proofs.YtcoengihaobddaaGreatDoor.disk Go.Proofs.YtcoengihaobddaaGreatDoor.ref
open Go.Proofs.YtcoengihaobddaaGreatDoor.law (Con Meaning ApiOpen ApiPut ApiGet ApiAt Fore Aft Opd OutIs Out)
open Go.Proofs.YtcoengihaobddaaGreatDoor.keys (keyB)
set_option linter.unusedVariables false
set_option maxRecDepth 8000

def RestB (bs : List (List Value)) (V : Con) : Prop := ∃ tree n m es bl bo, Rep bs V tree n m es bl bo
/-- What the stores mean, where no fuse is set. -/
def mng : Meaning where
  Rest := RestB
  Holds := RestB
  Sto := fun w b q => StoAt w b 0 q
  Fu := fun f => f = -1
  rest_holds := fun _ _ h => h
  good := fun bs V ⟨_, _, _, _, _, _, h⟩ => h.good
  zeros := fun n h1 h2 => ⟨_, _, _, _, _, _, rep_zeros n h1 h2⟩
  sto_lt := fun w b q h => h.lt
  sto_kept := fun w w' b q T h k hn => h.kept k hn
  fu_int := fun f h => by rw [h]; constructor <;> omega
  fu_neg := rfl

theorem sel_true : ∀ ps : List (Nat × List Value), sel ps (List.replicate ps.length true) = ps
  | [] => rfl
  | p :: ps => by
    unfold sel
    rw [List.length_cons, List.replicate_succ]
    simp [sel_true ps]
theorem api_open : ApiOpen mng where
  small := fun w bd S D hd hN => (open_small w bd S D hd hN).mono (by
    rintro e w' ⟨h1, rfl⟩
    exact ⟨h1, hd, Kept.refl _ _⟩)
  big := fun w bd S D P hd hcould hfu hr0 hr1 => by
    have hf : D.fuse = -1 := hfu
    obtain ⟨V, hV, tree, n, m, es, bl, bo, hrep⟩ := hcould.all (List.replicate D.ps.length true)
    rw [sel_true] at hrep
    obtain ⟨p, hp, hl, hi⟩ := hrep.head
    have hfl := flush_live hf
    have hbig := hcould.big
    have hl0 : D.flush.look 0 = pgV p := by rw [hfl]; exact hl
    refine (open_true w bd S D { D.flush with reads := D.reads + 1 } hd hcould.big (finish_none w bd S D hd (by rw [hf]; constructor <;> omega) (by rw [hf]; rfl) hr0 (by omega) p hp hl0 hi)).mono ?_
    rintro e w' ⟨bs, h1, h2, h3, S', h4, h5, h6, h7⟩
    have e1 : D.flush.bs = putAll D.bs D.ps := by rw [hfl]
    have e2 : D.flush.ps = [] := by rw [hfl]
    have e3 : D.flush.fuse = -1 := by rw [hfl]; exact hf
    refine ⟨{ D.flush with reads := D.reads + 1 }, S', ⟨h4, h5, h7, by show D.reads ≤ D.reads + 1; omega, by show D.reads + 1 ≤ _; omega, by show D.flush.bs.length = _; rw [e1, putAll_len], e3⟩, .inl ⟨bs, V, h1, h2, h6, h3, hV, ⟨e2, ?_, ?_⟩⟩⟩
    · show RestB D.flush.bs V
      rw [e1]
      exact ⟨tree, n, m, es, bl, bo, hrep⟩
    · show 64 ≤ D.flush.bs.length
      rw [e1, putAll_len]; exact hbig

theorem aft_same {w w' : World} {bd bs : Nat} {S : Nat → Prop} {D : Dk} {q : Option Nat} (hd : Disk w bd S D) (hn : ¬ S bs) (hfu : D.fuse = -1) (hs : StoAt w' bs 0 q) (hk : Kept (fun k => k = bs) w w') : Aft mng w w' bd bs S S D D 40 q :=
  ⟨hd.kept hk (fun j hj e => hn (by rw [← show j = bs from e]; exact hj)), fun _ h => .inl h, hs, hk.mono (fun _ h => .inr h), Int.le_refl _, by omega, rfl, hfu⟩
theorem aft_read {w w' : World} {bd bs : Nat} {S : Nat → Prop} {D : Dk} {q : Option Nat} {r : Int} (hd : Disk w bd S D) (hfu : D.fuse = -1) (hs : StoAt w' bs 0 q) (h1 : D.reads ≤ r) (h2 : r ≤ D.reads + 40) (hd' : Disk w' bd S { D with reads := r }) (hk : Kept (fun k => k = bd ∨ k = bs) w w') : Aft mng w w' bd bs S S D { D with reads := r } 40 q :=
  ⟨hd', fun _ h => .inl h, hs, hk.mono (fun j hj => hj.elim (fun e => .inl (by rw [e]; exact hd.bdS)) .inr), h1, h2, rfl, hfu⟩

theorem api_get : ApiGet mng where
  live := fun w bd bs S D V key F hk => by
    have hfu : D.fuse = -1 := F.fuse
    have hs : StoAt w bs 0 (some bd) := F.sto
    have hd := F.disk
    have hps := F.live.ps
    obtain ⟨tree, n, m, es, bl, bo, R⟩ := F.live.rest
    have hr0 := F.reads0
    have hr1 := F.reads1
    have hn9 : n < 4611686018427387904 := by have := F.few; rw [R.n0] at this; omega
    have live' : ∀ r : Int, mng.Live { D with reads := r } V := fun r => ⟨hps, ⟨tree, n, m, es, bl, bo, R⟩, F.live.big⟩
    cases hkey : keyB key.data.toList with
    | false =>
      refine (get_key w bs (some bd) hs key hk hkey).mono ?_
      rintro e w' ⟨h1, h2, h3⟩
      exact ⟨D, .slice none 0 0, 0, S, h1, aft_same hd F.apart hfu h2 h3, F.live, ⟨fun h => absurd h (show ¬ (2 : Int) = 0 by decide), fun _ => ⟨none, 0, rfl⟩⟩, fun k h => (nomatch h), fun _ => rfl, fun u h => absurd h (show ¬ (2 : Int) = 0 by decide)⟩
    | true =>
      have hroot : IsRoot (D.look 1) tree n := by have := R.root; rw [← look_rd hps] at this; exact this
      have hfor : Forest (fun j => D.look (j : Nat)) tree es bl := R.forest.congr (fun j _ => look_rd hps j)
      have hlow : ∀ j ∈ bl, 21 ≤ j := fun j hj => (R.range j (List.mem_append_left _ hj)).1
      cases hnew : newB key (onE ⟨key, 9223372036854775807⟩ es).head? with
      | false =>
        have hans : ansE true (newestV V.vs key) = 5 := by
          cases ho : (onE ⟨key, 9223372036854775807⟩ es).head? with
          | none => rw [R.new_no hn9 (fun x hx => by rw [ho] at hx; cases hx)]; rfl
          | some x =>
            by_cases hxk : x.pl.key = key
            · rw [R.new_yes hn9 ho hxk]
              rw [ho] at hnew
              have hm : x.mark = true := by
                simp only [newB, hxk, decide_true, Bool.true_and] at hnew
                cases hmm : x.mark with
                | true => rfl
                | false => rw [hmm] at hnew; cases hnew
              show cond x.mark 5 0 = 5
              rw [hm]; rfl
            · rw [R.new_no hn9 (fun y hy => by rw [ho] at hy; cases hy; exact hxk)]; rfl
        refine (get_none w bs bd S D hs hd F.apart hr0 (by omega) tree n hroot key hk hkey es bl hfor R.len hlow _ rfl hnew).mono ?_
        rintro e w' ⟨h1, h2, ⟨r, h3, h4, h5⟩, h6⟩
        rw [hans]
        exact ⟨{ D with reads := r }, .slice none 0 0, 0, S, h1, aft_read hd hfu h2 h3 (by omega) h5 h6, live' r, ⟨fun h => absurd h (by decide), fun _ => ⟨none, 0, rfl⟩⟩, fun k h => (nomatch h), fun _ => rfl, fun u h => absurd h (by decide)⟩
      | true =>
        cases ho : (onE ⟨key, 9223372036854775807⟩ es).head? with
        | none => rw [ho] at hnew; cases hnew
        | some x =>
          rw [ho] at hnew
          have hxk : x.pl.key = key := by simp only [newB, Bool.and_eq_true, decide_eq_true_eq] at hnew; exact hnew.1
          have hxm : x.mark = false := by simp only [newB, Bool.and_eq_true, Bool.not_eq_true'] at hnew; exact hnew.2
          have hnv := R.new_yes hn9 ho hxk
          have hx := (R.forest.six.2.2.head_on ho).1
          have hb := R.body x hx
          obtain ⟨p1, p2, p3⟩ := R.pieces hx
          have hans : ansE true (newestV V.vs key) = 0 := by rw [hnv]; show cond x.mark 5 0 = 0; rw [hxm]; rfl
          refine (get_some w bs bd S D hs hd F.apart hr0 (by omega) tree n hroot key hk hkey es bl hfor R.len hlow x ho hnew (bo x.pl) (hb.chain.congr (fun p _ => look_rd hps p.at_)) p1 hb.head _ rfl hb.size p2 (by omega)).mono ?_
          rintro e w' ⟨⟨a, cap, h1, hown, hfr⟩, h2, ⟨r, h3, h4, h5⟩, h6⟩
          rw [hans]
          refine ⟨{ D with reads := r }, _, x.pl.num, S, h1, aft_read hd hfu h2 h3 (by omega) h5 h6, live' r, ⟨fun _ => ⟨_, hnv, ⟨a, cap, rfl, hown, hfr⟩⟩, fun h => absurd rfl h⟩, fun k h hS => ?_, fun h => absurd rfl h, fun u _ hu => ?_⟩
          · have := hfr k h; have := hd.lt k hS; omega
          · rw [hnv] at hu; cases hu; rfl
  shut := fun w bs key hs hk => by
    have hs' : StoAt w bs 0 none := hs
    cases hkey : keyB key.data.toList with
    | false => exact (get_key w bs none hs' key hk hkey).mono (fun e w' ⟨h1, h2, h3⟩ => ⟨none, 0, h1, h2, h3⟩)
    | true => exact (get_shut w bs hs' key hk hkey).mono (fun e w' ⟨h1, h2, h3⟩ => ⟨none, 0, h1, h2, h3⟩)
theorem api_at : ApiAt mng where
  live := fun w bd bs S D V key num F hk hnum => by
    have hfu : D.fuse = -1 := F.fuse
    have hs : StoAt w bs 0 (some bd) := F.sto
    have hd := F.disk
    have hps := F.live.ps
    obtain ⟨tree, n, m, es, bl, bo, R⟩ := F.live.rest
    have hr0 := F.reads0
    have hr1 := F.reads1
    have live' : ∀ r : Int, mng.Live { D with reads := r } V := fun r => ⟨hps, ⟨tree, n, m, es, bl, bo, R⟩, F.live.big⟩
    cases hkey : keyB key.data.toList with
    | false =>
      refine (at_key w bs (some bd) hs key num hk hkey).mono ?_
      rintro e w' ⟨h1, h2, h3⟩
      exact ⟨D, .slice none 0 0, S, h1, aft_same hd F.apart hfu h2 h3, F.live, ⟨fun h => absurd h (show ¬ (2 : Int) = 0 by decide), fun _ => ⟨none, 0, rfl⟩⟩, fun k h => (nomatch h)⟩
    | true =>
      have hroot : IsRoot (D.look 1) tree n := by have := R.root; rw [← look_rd hps] at this; exact this
      have hfor : Forest (fun j => D.look (j : Nat)) tree es bl := R.forest.congr (fun j _ => look_rd hps j)
      have hlow : ∀ j ∈ bl, 21 ≤ j := fun j hj => (R.range j (List.mem_append_left _ hj)).1
      cases hnew : atB key num (onE ⟨key, num⟩ es).head? with
      | false =>
        have hans : ansE true (findV V.vs key num) = 5 := by
          cases ho : (onE ⟨key, num⟩ es).head? with
          | none => rw [R.at_no (fun x hx => by rw [ho] at hx; cases hx)]; rfl
          | some x =>
            by_cases hxk : x.pl.key = key ∧ x.pl.num = num
            · rw [R.at_yes (R.forest.six.2.2.head_on ho).1 hxk.1 hxk.2]
              rw [ho] at hnew
              have hm : x.mark = true := by
                simp only [atB, hxk.1, hxk.2, decide_true, Bool.true_and] at hnew
                cases hmm : x.mark with
                | true => rfl
                | false => rw [hmm] at hnew; cases hnew
              show cond x.mark 5 0 = 5
              rw [hm]; rfl
            · rw [R.at_no (fun y hy => by rw [ho] at hy; cases hy; exact hxk)]; rfl
        refine (at_none w bs bd S D hs hd F.apart hr0 (by omega) tree n hroot key num hk hkey es bl hfor R.len hlow _ rfl hnew).mono ?_
        rintro e w' ⟨h1, h2, ⟨r, h3, h4, h5⟩, h6⟩
        rw [hans]
        exact ⟨{ D with reads := r }, .slice none 0 0, S, h1, aft_read hd hfu h2 h3 (by omega) h5 h6, live' r, ⟨fun h => absurd h (by decide), fun _ => ⟨none, 0, rfl⟩⟩, fun k h => (nomatch h)⟩
      | true =>
        cases ho : (onE ⟨key, num⟩ es).head? with
        | none => rw [ho] at hnew; cases hnew
        | some x =>
          rw [ho] at hnew
          have hxk : x.pl.key = key ∧ x.pl.num = num := by simp only [atB, Bool.and_eq_true, decide_eq_true_eq] at hnew; exact hnew.1
          have hxm : x.mark = false := by simp only [atB, Bool.and_eq_true, Bool.not_eq_true'] at hnew; exact hnew.2
          have hx := (R.forest.six.2.2.head_on ho).1
          have hnv := R.at_yes hx hxk.1 hxk.2
          have hb := R.body x hx
          obtain ⟨p1, p2, p3⟩ := R.pieces hx
          have hans : ansE true (findV V.vs key num) = 0 := by rw [hnv]; show cond x.mark 5 0 = 0; rw [hxm]; rfl
          refine (at_some w bs bd S D hs hd F.apart hr0 (by omega) tree n hroot key num hk hkey es bl hfor R.len hlow x ho hnew (bo x.pl) (hb.chain.congr (fun p _ => look_rd hps p.at_)) p1 hb.head _ rfl hb.size p2 (by omega)).mono ?_
          rintro e w' ⟨⟨a, cap, h1, hown, hfr⟩, h2, ⟨r, h3, h4, h5⟩, h6⟩
          rw [hans]
          refine ⟨{ D with reads := r }, _, S, h1, aft_read hd hfu h2 h3 (by omega) h5 h6, live' r, ⟨fun _ => ⟨_, hnv, ⟨a, cap, rfl, hown, hfr⟩⟩, fun h => absurd rfl h⟩, fun k h hS => ?_⟩
          have := hfr k h; have := hd.lt k hS; omega
  shut := fun w bs key num hs hk => by
    have hs' : StoAt w bs 0 none := hs
    cases hkey : keyB key.data.toList with
    | false => exact (at_key w bs none hs' key num hk hkey).mono (fun e w' ⟨h1, h2, h3⟩ => ⟨none, 0, h1, h2, h3⟩)
    | true => exact (at_shut w bs hs' key num hk hkey).mono (fun e w' ⟨h1, h2, h3⟩ => ⟨none, 0, h1, h2, h3⟩)
end Go.Proofs.YtcoengihaobddaaGreatDoor.prog

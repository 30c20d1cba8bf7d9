/- Part 26 of 39 of a proof: Tr3, Tr4, Grow1, Log1 -/
import Derived.Test.YtcoengihaobddaaGreatDoorJp16
import Derived.Test.YtcoengihaobddaaGreatDoorJp25
import Derived.Test.YtcoengihaobddaaGreatDoorJp21
import Derived.Test.YtcoengihaobddaaGreatDoorJp03
namespace Go.Proofs.YtcoengihaobddaaGreatDoor.prog
set_option linter.unusedVariables false
open Go.Proofs.YtcoengihaobddaaGreatDoor.ref

/-- A node that took a version in. -/
structure Took1 {h : Nat} (t : Tr h) (e : En) (t' : Tr h) : Prop where
  blk : t'.blk = t.blk
  good : t'.Good
  lo : t.items.length ≤ t'.items.length
  hi : t'.items.length ≤ 6
  ents : t'.ents = insE e t.ents
  first : ∀ p, t.First p → t'.First p
/-- .. and is two then. -/
structure Took2 {h : Nat} (t : Tr h) (e : En) (t' u : Tr h) (q : Pl) : Prop where
  blk : t'.blk = t.blk
  good : t'.Good
  goodu : u.Good
  lo : 3 ≤ t'.items.length
  hi : t'.items.length ≤ 6
  lou : 3 ≤ u.items.length
  hiu : u.items.length ≤ 6
  ents : t'.ents ++ u.ents = insE e t.ents
  first : ∀ p, t.First p → t'.First p
  firstu : u.First q
  qok : q.Ok
  left : ∀ x ∈ t'.ents, x.pl.lt q = true
  right : ∀ x ∈ u.ents, ¬ x.pl.lt q = true

theorem items_pair {h : Nat} (b : Nat) (cs : List (Pl × Tr h)) : (Tr.items (h := h + 1) (b, cs)).length = cs.length := items_len (h := h) (b, cs)
theorem leaf_one {b : Nat} {es : List En} {e : En} (g : Tr.Good (h := 0) (b, es)) (he : e.Ok) (hl : (insE e es).length ≤ 6) : Took1 (h := 0) (b, es) e (b, insE e es) where
  blk := rfl
  good := ⟨g.1, fun x hx => by
    rcases insE_mem.1 hx with rfl | hx
    · exact he
    · exact g.2 x hx⟩
  lo := by
    show es.length ≤ (insE e es).length
    rw [(insE_perm e es).length_eq]; simp
  hi := hl
  ents := rfl
  first := fun _ h => h
theorem insE_ok {es : List En} {e : En} (g : ∀ x ∈ es, x.Ok) (he : e.Ok) : ∀ x ∈ insE e es, x.Ok := fun x hx => by
  rcases insE_mem.1 hx with rfl | hx
  · exact he
  · exact g x hx
theorem insE_len (e : En) (es : List En) : (insE e es).length = es.length + 1 := by rw [(insE_perm e es).length_eq]; simp
theorem leaf_two {b ta : Nat} {es l : List En} {e : En} (g : Tr.Good (h := 0) (b, es)) (he : e.Ok) (hta : ta < 65536) (hs : Srt es) (hn : ∀ x ∈ es, x.pl ≠ e.pl) (hl : insE e es = l) (h6 : es.length = 6) (d : En) :
    Took2 (h := 0) (b, es) e (b, l.take (l.length / 2)) (ta, l.drop (l.length / 2)) (l.getD (l.length / 2) d).pl := by
  have hok := insE_ok g.2 he
  have hs' := hs.ins hn
  have hlen : l.length = 7 := by rw [← hl, insE_len, h6]
  rw [hl] at hok hs'
  rw [hlen]
  have e0 : l = l.take 3 ++ l[3] :: l.drop 4 := by rw [← List.drop_eq_getElem_cons, List.take_append_drop]
  have hg : l.getD (7 / 2) d = l[3] := by rw [List.getD_eq_getElem?_getD, List.getElem?_eq_getElem (by omega)]; rfl
  have hs2 : Srt (l.take 3 ++ l[3] :: l.drop 4) := by rw [← e0]; exact hs'
  have hp := List.pairwise_append.1 hs2
  have hd : l.drop (7 / 2) = l[3] :: l.drop 4 := List.drop_eq_getElem_cons (by omega)
  rw [hg]
  refine ⟨rfl, ⟨g.1, fun x hx => hok x (List.mem_of_mem_take hx)⟩, ⟨hta, fun x hx => hok x (List.mem_of_mem_drop hx)⟩, ?_, ?_, ?_, ?_, ?_, fun _ h => h, True.intro, (hok _ (List.getElem_mem (by omega))).pl, ?_, ?_⟩
  · show 3 ≤ (l.take (7 / 2)).length; simp; omega
  · show (l.take (7 / 2)).length ≤ 6; simp; omega
  · show 3 ≤ (l.drop (7 / 2)).length; simp; omega
  · show (l.drop (7 / 2)).length ≤ 6; simp; omega
  · show l.take (7 / 2) ++ l.drop (7 / 2) = insE e es
    rw [List.take_append_drop, hl]
  · intro x hx
    exact hp.2.2 x hx _ (List.mem_cons_self ..)
  · intro x hx
    have hx : x ∈ l.drop (7 / 2) := hx
    rw [hd] at hx
    rcases List.mem_cons.1 hx with rfl | hx
    · exact Pl.irrefl _
    · exact Pl.asymm ((List.pairwise_cons.1 hp.2.1).1 x hx)

/-- What is below some children, the version that comes among them. -/
theorem Kids.route {h : Nat} {A B : List (Pl × Tr h)} {q0 : Pl} {tc : Tr h} (k : Kids (A ++ (q0, tc) :: B)) {e : En} (hq : ¬ e.pl.lt q0 = true) (hB : ∀ b ∈ B, e.pl.lt b.1 = true) :
    insE e (flatE (A ++ (q0, tc) :: B)) = flatE A ++ (insE e tc.ents ++ flatE B) := by
  obtain ⟨m1, m2, m3, m4, m5, m6, m7⟩ := k.mid
  rw [flatE_append, flatE_cons]
  refine insE_mid (fun x hx => Pl.lt_of_lt_not (m3 x hx) hq) (fun x hx => ?_)
  obtain ⟨l, hl, hx'⟩ := List.mem_flatten.1 hx
  obtain ⟨c, hc, rfl⟩ := List.mem_map.1 hl
  have h1 := m7 c hc x hx'
  have h2 := hB c hc
  cases h3 : x.pl.lt e.pl with
  | false => rfl
  | true => exact absurd (Pl.trans h3 h2) h1
theorem first_mid {h : Nat} {b b' : Nat} {A B B' : List (Pl × Tr h)} {q0 p : Pl} {tc tc' : Tr h} (hf : Tr.First (h := h + 1) (b, A ++ (q0, tc) :: B) p) : Tr.First (h := h + 1) (b', A ++ (q0, tc') :: B') p := by
  obtain ⟨u, r, hu⟩ := hf
  simp only at hu
  cases A with
  | nil =>
    simp only [List.nil_append, List.cons.injEq, Prod.mk.injEq] at hu
    exact ⟨tc', B', by simp [hu.1.1]⟩
  | cons a A =>
    simp only [List.cons_append, List.cons.injEq] at hu
    exact ⟨u, A ++ (q0, tc') :: B', by simp [hu.1]⟩
theorem ents_lo {h : Nat} {u : Tr h} (g : u.Good) (hl : 1 ≤ u.items.length) : ∃ x, x ∈ u.ents := g.some_ent hl
/-- A branch, one of whose children took a version in. -/
theorem branch_one {h : Nat} {b : Nat} {A B : List (Pl × Tr h)} {q0 : Pl} {tc tc' : Tr h} {e : En} (g : Tr.Good (h := h + 1) (b, A ++ (q0, tc) :: B)) (hl : (A ++ (q0, tc) :: B).length ≤ 6) (hq : ¬ e.pl.lt q0 = true) (hB : ∀ b ∈ B, e.pl.lt b.1 = true) (k : Took1 tc e tc') :
    Took1 (h := h + 1) (b, A ++ (q0, tc) :: B) e (b, A ++ (q0, tc') :: B) := by
  have kk : Kids (A ++ (q0, tc) :: B) := g.kids
  obtain ⟨m1, m2, m3, m4, m5, m6, m7⟩ := kk.mid
  have hf3 := g.full
  simp only at hf3
  have hm : ∀ x ∈ tc'.ents, x = e ∨ x ∈ tc.ents := fun x hx => by rw [k.ents] at hx; exact insE_mem.1 hx
  refine ⟨rfl, ?_, ?_, ?_, ?_, fun p hp => first_mid hp⟩
  · refine Kids.node (kk.swap k.good k.hi (k.first _ m5) (fun x hx => ?_) (fun b' hb' x hx => ?_)) (fun c hc => ?_) g.1
    · rcases hm x hx with rfl | hx
      · exact hq
      · exact m4 x (by rw [flatE_cons]; exact List.mem_append_left _ hx)
    · rcases hm x hx with rfl | hx
      · exact hB b' hb'
      · exact m6 b' hb' x (List.mem_append_right _ hx)
    · rcases List.mem_append.1 hc with hc | hc
      · exact hf3 c (List.mem_append_left _ hc)
      · rcases List.mem_cons.1 hc with rfl | hc
        · exact Nat.le_trans (hf3 (q0, tc) (by simp)) k.lo
        · exact hf3 c (by simp [hc])
  · refine Nat.le_trans (Nat.le_of_eq (items_pair _ _)) (Nat.le_trans ?_ (Nat.le_of_eq (items_pair _ _).symm)); simp
  · exact Nat.le_trans (Nat.le_of_eq (items_pair _ _)) (by simpa using hl)
  · show flatE (A ++ (q0, tc') :: B) = insE e (flatE (A ++ (q0, tc) :: B))
    rw [kk.route hq hB, flatE_append, flatE_cons, k.ents]
/-- Its children, one of which is two. -/
theorem kids_two {h : Nat} {b : Nat} {A B : List (Pl × Tr h)} {q0 q : Pl} {tc tc' uc : Tr h} {e : En} (g : Tr.Good (h := h + 1) (b, A ++ (q0, tc) :: B)) (hq : ¬ e.pl.lt q0 = true) (hB : ∀ b ∈ B, e.pl.lt b.1 = true) (k : Took2 tc e tc' uc q) :
    Kids (A ++ (q0, tc') :: (q, uc) :: B) ∧ (∀ c ∈ A ++ (q0, tc') :: (q, uc) :: B, 3 ≤ c.2.items.length) ∧ flatE (A ++ (q0, tc') :: (q, uc) :: B) = insE e (flatE (A ++ (q0, tc) :: B)) := by
  have kk : Kids (A ++ (q0, tc) :: B) := g.kids
  obtain ⟨m1, m2, m3, m4, m5, m6, m7⟩ := kk.mid
  have hf3 := g.full
  simp only at hf3
  have hm : ∀ x, x ∈ tc'.ents ∨ x ∈ uc.ents → x = e ∨ x ∈ tc.ents := fun x hx => by
    refine insE_mem.1 (k.ents ▸ ?_)
    exact List.mem_append.2 hx
  have hge : ∀ x, x ∈ tc'.ents ∨ x ∈ uc.ents → ¬ x.pl.lt q0 = true := fun x hx => by
    rcases hm x hx with rfl | hx
    · exact hq
    · exact m4 x (by rw [flatE_cons]; exact List.mem_append_left _ hx)
  have hlt : ∀ b ∈ B, ∀ x, x ∈ tc'.ents ∨ x ∈ uc.ents → x.pl.lt b.1 = true := fun b' hb' x hx => by
    rcases hm x hx with rfl | hx
    · exact hB b' hb'
    · exact m6 b' hb' x (List.mem_append_right _ hx)
  obtain ⟨x, hx⟩ := k.good.some_ent (by have := k.lo; omega)
  obtain ⟨y, hy⟩ := k.goodu.some_ent (by have := k.lou; omega)
  refine ⟨kk.parted k.good k.goodu k.hi k.hiu k.qok (k.first _ m5) k.firstu (Pl.lt_of_not (hge x (.inl hx)) (k.left x hx)) k.left k.right (fun z hz => hge z (.inl hz)) (fun b' hb' z hz => hlt b' hb' z (.inr hz)) (fun b' hb' => Pl.lt_of_not (k.right y hy) (hlt b' hb' y (.inr hy))), fun c hc => ?_, ?_⟩
  · rcases List.mem_append.1 hc with hc | hc
    · exact hf3 c (List.mem_append_left _ hc)
    · rcases List.mem_cons.1 hc with rfl | hc
      · exact k.lo
      · rcases List.mem_cons.1 hc with rfl | hc
        · exact k.lou
        · exact hf3 c (by simp [hc])
  · rw [kk.route hq hB, flatE_append, flatE_cons, flatE_cons, ← k.ents]
    simp
theorem branch_two {h : Nat} {b : Nat} {A B : List (Pl × Tr h)} {q0 q : Pl} {tc tc' uc : Tr h} {e : En} (g : Tr.Good (h := h + 1) (b, A ++ (q0, tc) :: B)) (hl : (A ++ (q0, tc) :: B).length + 1 ≤ 6) (hq : ¬ e.pl.lt q0 = true) (hB : ∀ b ∈ B, e.pl.lt b.1 = true) (k : Took2 tc e tc' uc q) :
    Took1 (h := h + 1) (b, A ++ (q0, tc) :: B) e (b, A ++ (q0, tc') :: (q, uc) :: B) := by
  obtain ⟨h1, h2, h3⟩ := kids_two g hq hB k
  refine ⟨rfl, h1.node h2 g.1, ?_, ?_, h3, fun p hp => first_mid hp⟩
  · refine Nat.le_trans (Nat.le_of_eq (items_pair _ _)) (Nat.le_trans ?_ (Nat.le_of_eq (items_pair _ _).symm)); simp
  · exact Nat.le_trans (Nat.le_of_eq (items_pair _ _)) (by simp at hl ⊢; omega)
/-- Seven children in two nodes. -/
theorem branch_cut {h : Nat} {b ta : Nat} {A B : List (Pl × Tr h)} {q0 q : Pl} {tc tc' uc : Tr h} {e : En} (g : Tr.Good (h := h + 1) (b, A ++ (q0, tc) :: B)) (hl : (A ++ (q0, tc) :: B).length = 6) (hta : ta < 65536) (hq : ¬ e.pl.lt q0 = true) (hB : ∀ b ∈ B, e.pl.lt b.1 = true) (k : Took2 tc e tc' uc q)
    (cs : List (Pl × Tr h)) (hcs : A ++ (q0, tc') :: (q, uc) :: B = cs) (q3 : Pl) (hq3 : (cs.map Prod.fst)[3]? = some q3) :
    Took2 (h := h + 1) (b, A ++ (q0, tc) :: B) e (b, cs.take 3) (ta, cs.drop 3) q3 := by
  obtain ⟨h1, h2, h3⟩ := kids_two g hq hB k
  have hlen : cs.length = 7 := by rw [← hcs]; simp at hl ⊢; omega
  have hfirst : ∀ p, Tr.First (h := h + 1) (b, A ++ (q0, tc) :: B) p → Tr.First (h := h + 1) (b, cs.take 3) p := fun p hp => by
    obtain ⟨u, r, hu⟩ := first_mid (b' := b) (B' := (q, uc) :: B) (tc' := tc') hp
    simp only at hu
    rw [hcs] at hu
    exact ⟨u, r.take 2, by simp only; rw [hu, List.take_succ_cons]⟩
  rw [hcs] at h1 h2 h3
  have hd : cs.drop 3 = cs[3] :: cs.drop 4 := List.drop_eq_getElem_cons (by omega)
  have e0 : cs = cs.take 3 ++ cs[3] :: cs.drop 4 := by rw [← hd, List.take_append_drop]
  have hc3 : cs[3] = (q3, cs[3].2) := by
    have : cs[3].1 = q3 := by
      rw [List.getElem?_map, List.getElem?_eq_getElem (by omega)] at hq3
      simpa using hq3
    rw [← this]
  have hk : Kids (cs.take 3 ++ (q3, cs[3].2) :: cs.drop 4) := by rw [← hc3, ← e0]; exact h1
  obtain ⟨m1, m2, m3, m4, m5, m6, m7⟩ := hk.mid
  have kl : Kids (cs.take 3) := hk.left
  have kr : Kids (cs.drop 3) := by rw [hd, hc3]; exact hk.right
  refine ⟨rfl, kl.node (fun c hc => h2 c (List.mem_of_mem_take hc)) g.1, kr.node (fun c hc => h2 c (List.mem_of_mem_drop hc)) hta, ?_, ?_, ?_, ?_, ?_, hfirst, ?_, ?_, ?_, ?_⟩
  · refine Nat.le_trans ?_ (Nat.le_of_eq (items_pair _ _).symm); simp; omega
  · refine Nat.le_trans (Nat.le_of_eq (items_pair _ _)) ?_; simp; omega
  · refine Nat.le_trans ?_ (Nat.le_of_eq (items_pair _ _).symm); simp; omega
  · refine Nat.le_trans (Nat.le_of_eq (items_pair _ _)) ?_; simp; omega
  · show flatE (cs.take 3) ++ flatE (cs.drop 3) = insE e (flatE (A ++ (q0, tc) :: B))
    rw [← flatE_append, List.take_append_drop, h3]
  · exact ⟨cs[3].2, cs.drop 4, by simp only; rw [hd]; exact congrArg (· :: cs.drop 4) hc3⟩
  · exact (hk.right.good (q3, cs[3].2) (List.mem_cons_self ..)).2.2
  · intro x hx; exact m3 x hx
  · intro x hx
    refine m4 x ?_
    rw [← hc3, ← hd]; exact hx
end Go.Proofs.YtcoengihaobddaaGreatDoor.prog
namespace Go.Proofs.YtcoengihaobddaaGreatDoor.prog
set_option linter.unusedVariables false
open Go.Proofs.YtcoengihaobddaaGreatDoor.ref

/-- It lies in the blocks rd. -/
def Tr.LayV {β : Type} (pg : Pg → β) (rd : Nat → β) : {h : Nat} → Tr h → Prop
  | 0, t => rd t.1 = pg (nodePg 5 t.2)
  | h + 1, t => rd t.1 = pg (nodePg 4 (Tr.items (h := h + 1) t)) ∧ ∀ c ∈ t.2, Tr.LayV pg rd (h := h) c.2
theorem Tr.LayV.node {β : Type} {pg : Pg → β} {rd : Nat → β} : {h : Nat} → {t : Tr h} → t.LayV pg rd → rd t.blk = pg (nodePg (kindOf h) t.items)
  | 0, _, l => l
  | _ + 1, _, l => l.1
theorem flatB_mem {h : Nat} {cs : List (Pl × Tr h)} {c : Pl × Tr h} {j : Nat} (hc : c ∈ cs) (hj : j ∈ c.2.blocks) : j ∈ flatB cs := List.mem_flatten.2 ⟨_, List.mem_map.2 ⟨c, hc, rfl⟩, hj⟩
theorem flatB_ex {h : Nat} {cs : List (Pl × Tr h)} {j : Nat} (hj : j ∈ flatB cs) : ∃ c ∈ cs, j ∈ c.2.blocks := by
  obtain ⟨l, hl, hj⟩ := List.mem_flatten.1 hj
  obtain ⟨c, hc, rfl⟩ := List.mem_map.1 hl
  exact ⟨c, hc, hj⟩
theorem flatE_ex {h : Nat} {cs : List (Pl × Tr h)} {x : En} (hj : x ∈ flatE cs) : ∃ c ∈ cs, x ∈ c.2.ents := by
  obtain ⟨l, hl, hj⟩ := List.mem_flatten.1 hj
  obtain ⟨c, hc, rfl⟩ := List.mem_map.1 hl
  exact ⟨c, hc, hj⟩
theorem flatE_mem {h : Nat} {cs : List (Pl × Tr h)} {c : Pl × Tr h} {x : En} (hc : c ∈ cs) (hj : x ∈ c.2.ents) : x ∈ flatE cs := List.mem_flatten.2 ⟨_, List.mem_map.2 ⟨c, hc, rfl⟩, hj⟩
theorem Tr.LayV.congr {β : Type} {pg : Pg → β} {rd rd' : Nat → β} : ∀ {h : Nat} {t : Tr h}, t.LayV pg rd → (∀ j ∈ t.blocks, rd' j = rd j) → t.LayV pg rd'
  | 0, t, l, h => (h t.1 (List.mem_singleton.2 rfl)).trans l
  | h + 1, t, l, he => ⟨(he t.1 (List.mem_cons_self ..)).trans l.1, fun c hc => (l.2 c hc).congr (fun j hj => he j (List.mem_cons_of_mem _ (flatB_mem hc hj)))⟩

/-! Blocks that come and go. -/
theorem branch_one_blocks {h : Nat} {b : Nat} {A B : List (Pl × Tr h)} {q0 : Pl} {tc tc' : Tr h} {nb : List Nat} (hp : tc'.blocks.Perm (tc.blocks ++ nb)) :
    (Tr.blocks (h := h + 1) (b, A ++ (q0, tc') :: B)).Perm (Tr.blocks (h := h + 1) (b, A ++ (q0, tc) :: B) ++ nb) := by
  show (b :: flatB (A ++ (q0, tc') :: B)).Perm (b :: flatB (A ++ (q0, tc) :: B) ++ nb)
  rw [flatB_append, flatB_cons, flatB_append, flatB_cons]
  simp only [List.cons_append, List.append_assoc]
  refine List.Perm.cons b (List.Perm.append_left _ ?_)
  refine (hp.append_right _).trans ?_
  rw [List.append_assoc]
  exact List.Perm.append_left _ List.perm_append_comm
theorem branch_two_blocks {h : Nat} {b : Nat} {A B : List (Pl × Tr h)} {q0 q : Pl} {tc tc' uc : Tr h} {nb : List Nat} (hp : (tc'.blocks ++ uc.blocks).Perm (tc.blocks ++ nb)) :
    (b :: flatB (A ++ (q0, tc') :: (q, uc) :: B)).Perm (Tr.blocks (h := h + 1) (b, A ++ (q0, tc) :: B) ++ nb) := by
  show (b :: flatB (A ++ (q0, tc') :: (q, uc) :: B)).Perm (b :: flatB (A ++ (q0, tc) :: B) ++ nb)
  rw [flatB_append, flatB_cons, flatB_cons, flatB_append, flatB_cons]
  simp only [List.cons_append, List.append_assoc]
  refine List.Perm.cons b (List.Perm.append_left _ ?_)
  rw [← List.append_assoc]
  refine (hp.append_right _).trans ?_
  rw [List.append_assoc]
  exact List.Perm.append_left _ List.perm_append_comm
theorem branch_cut_blocks {h : Nat} {b ta : Nat} {t : Tr (h + 1)} {cs : List (Pl × Tr h)} {nb : List Nat} (hp : (b :: flatB cs).Perm (t.blocks ++ nb)) (i : Nat) :
    (Tr.blocks (h := h + 1) (b, cs.take i) ++ Tr.blocks (h := h + 1) (ta, cs.drop i)).Perm (t.blocks ++ (nb ++ [ta])) := by
  show (b :: flatB (cs.take i) ++ ta :: flatB (cs.drop i)).Perm _
  have e : flatB cs = flatB (cs.take i) ++ flatB (cs.drop i) := by rw [← flatB_append, List.take_append_drop]
  refine List.perm_middle.trans ?_
  rw [List.cons_append, ← e, ← List.append_assoc]
  exact (hp.cons ta).trans (List.perm_append_comm (l₁ := [ta]))

/-! How many there are. -/
theorem flat_count {h : Nat} (f : Tr h → Nat) (g : Tr h → Nat) : ∀ (cs : List (Pl × Tr h)), (∀ c ∈ cs, f c.2 ≤ g c.2) → (cs.map fun c => f c.2).sum ≤ (cs.map fun c => g c.2).sum
  | [], _ => Nat.le_refl _
  | c :: cs, hc => by
    simp only [List.map_cons, List.sum_cons]
    have := hc c (List.mem_cons_self ..)
    have := flat_count f g cs (fun x hx => hc x (List.mem_cons_of_mem _ hx))
    omega
theorem kids_count {h : Nat} : ∀ (cs : List (Pl × Tr h)), (∀ c ∈ cs, 2 * c.2.blocks.length + 1 ≤ c.2.ents.length) → 2 * (flatB cs).length + cs.length ≤ (flatE cs).length
  | [], _ => by simp [flatB, flatE]
  | c :: cs, hc => by
    have h1 := hc c (List.mem_cons_self ..)
    have h2 := kids_count cs (fun x hx => hc x (List.mem_cons_of_mem _ hx))
    rw [flatB_cons, flatE_cons, List.length_append, List.length_append, List.length_cons]
    omega
theorem kids_pow {h : Nat} (k : Nat) : ∀ (cs : List (Pl × Tr h)), (∀ c ∈ cs, k ≤ 2 * c.2.blocks.length + 1) → cs.length * k ≤ 2 * (flatB cs).length + cs.length
  | [], _ => by simp
  | c :: cs, hc => by
    have h1 := hc c (List.mem_cons_self ..)
    have h2 := kids_pow k cs (fun x hx => hc x (List.mem_cons_of_mem _ hx))
    rw [flatB_cons, List.length_append, List.length_cons, Nat.add_mul]
    omega
theorem Tr.Good.few : ∀ {h : Nat} {t : Tr h}, t.Good → 3 ≤ t.items.length → 2 * t.blocks.length + 1 ≤ t.ents.length
  | 0, t, _, hl => hl
  | h + 1, t, g, hl => by
    have := kids_count t.2 (fun c hc => (g.kids.good c hc).1.few (g.full c hc))
    rw [items_len] at hl
    rw [Tr.blocks_succ, Tr.ents_succ, List.length_cons]
    omega
theorem Tr.Good.many : ∀ {h : Nat} {t : Tr h}, t.Good → 3 ≤ t.items.length → 3 ^ (h + 1) ≤ 2 * t.blocks.length + 1
  | 0, t, _, hl => by show 3 ≤ 2 * 1 + 1; omega
  | h + 1, t, g, hl => by
    have := kids_pow (3 ^ (h + 1)) t.2 (fun c hc => (g.kids.good c hc).1.many (g.full c hc))
    rw [items_len] at hl
    rw [Tr.blocks_succ, List.length_cons, Nat.pow_succ, Nat.mul_comm]
    have h2 : 3 * 3 ^ (h + 1) - 3 ≤ t.2.length * 3 ^ (h + 1) - t.2.length := by
      rw [← Nat.mul_sub_one, ← Nat.mul_sub_one]
      exact Nat.mul_le_mul_right _ hl
    have h3 : t.2.length ≤ t.2.length * 3 ^ (h + 1) := Nat.le_mul_of_pos_right _ (Nat.pow_pos (by omega))
    have h4 : 3 ≤ 3 * 3 ^ (h + 1) := Nat.le_mul_of_pos_right _ (Nat.pow_pos (by omega))
    omega
def noPl : Pl := ⟨⟨#[]⟩, 0⟩
/-- A root: of a tree that is one. -/
structure Tr.Root {h : Nat} (t : Tr h) : Prop where
  good : t.Good
  hi : t.items.length ≤ 6
  one : 1 ≤ t.items.length
  two : 0 < h → 2 ≤ t.items.length
  first : t.First noPl
  srt : Srt t.ents
theorem Tr.Root.few : ∀ {h : Nat} {t : Tr h}, t.Root → 2 * t.blocks.length ≤ t.ents.length + 1
  | 0, t, r => by have := r.one; show 2 * 1 ≤ t.2.length + 1; have h2 : t.2.length = t.items.length := rfl; omega
  | h + 1, t, r => by
    have := kids_count t.2 (fun c hc => (r.good.kids.good c hc).1.few (r.good.full c hc))
    have hl := r.two (by omega)
    rw [items_len] at hl
    rw [Tr.blocks_succ, Tr.ents_succ, List.length_cons]
    omega
theorem Tr.Root.many : ∀ {h : Nat} {t : Tr h}, t.Root → 3 ^ h ≤ t.blocks.length
  | 0, t, r => by show 1 ≤ 1; omega
  | h + 1, t, r => by
    have := kids_pow (3 ^ (h + 1)) t.2 (fun c hc => (r.good.kids.good c hc).1.many (r.good.full c hc))
    have hl := r.two (by omega)
    rw [items_len] at hl
    rw [Tr.blocks_succ, List.length_cons]
    have h2 : 2 * 3 ^ (h + 1) - 2 ≤ t.2.length * 3 ^ (h + 1) - t.2.length := by
      rw [← Nat.mul_sub_one, ← Nat.mul_sub_one]
      exact Nat.mul_le_mul_right _ hl
    have h3 : t.2.length ≤ t.2.length * 3 ^ (h + 1) := Nat.le_mul_of_pos_right _ (Nat.pow_pos (by omega))
    have h4 : 2 ≤ 2 * 3 ^ (h + 1) := Nat.le_mul_of_pos_right _ (Nat.pow_pos (by omega))
    omega
/-- The places on the way down. -/
theorem noPl_lt (p : Pl) : ¬ p.lt noPl = true → True := fun _ => trivial
theorem Tr.Root.low {h : Nat} {t : Tr h} (r : t.Root) (hb : t.blocks.length ≤ 979) : h ≤ 6 := by
  have := r.many
  by_cases h7 : h ≤ 6
  · exact h7
  · have : 3 ^ 7 ≤ 3 ^ h := Nat.pow_le_pow_right (by omega) (by omega)
    have h8 : (3 : Nat) ^ 7 = 2187 := by decide
    omega
theorem pow_lin (h : Nat) : h + 1 ≤ 3 ^ h := by
  induction h with
  | zero => decide
  | succ h ih => rw [Nat.pow_succ]; omega
end Go.Proofs.YtcoengihaobddaaGreatDoor.prog
namespace Go.Proofs.YtcoengihaobddaaGreatDoor.prog
open Go.RowKit Go.Proofs.YtcoengihaobddaaGreatDoor.disk Go.Proofs.YtcoengihaobddaaGreatDoor.ref
set_option linter.unusedVariables false
set_option maxRecDepth 8000

/-- The blocks that a change writes. -/
def Ck.keys (C : Ck) : List Nat := C.ws.map Prod.fst
theorem Ck.keys_len (C : Ck) : C.keys.length = C.ws.length := by simp [Ck.keys]
theorem keys_hit {C : Ck} {i k : Nat} (b : List Value) (h : ixOf C.ws i = some k) : (C.put i b).keys = C.keys ∧ i ∈ C.keys := by
  obtain ⟨hk, e⟩ := ck_put_hit b h
  obtain ⟨_, _, hki⟩ := look_hit (D := ⟨[], [], 0, 0⟩) h
  rw [e]
  unfold Ck.keys
  refine ⟨?_, ?_⟩
  · simp only [List.map_set]
    have : C.ws[k].1 = (C.ws.map Prod.fst)[k]'(by simpa using hk) := by simp
    rw [this, List.set_getElem_self]
  · have : i = C.ws[k].1 := by omega
    rw [this]
    exact List.mem_map.2 ⟨_, List.getElem_mem hk, rfl⟩
theorem keys_miss {C : Ck} {i : Nat} (b : List Value) (h : ixOf C.ws i = none) : (C.put i b).keys = C.keys ++ [i] ∧ i ∉ C.keys := by
  rw [ck_put_miss b h]
  refine ⟨by simp [Ck.keys], fun hm => ?_⟩
  obtain ⟨p, hp, rfl⟩ := List.mem_map.1 hm
  unfold ixOf at h
  rw [List.findIdx?_eq_none_iff] at h
  have := h p hp
  simp at this
theorem keys_put (C : Ck) (i : Nat) (b : List Value) : ∀ k, k ∈ (C.put i b).keys ↔ k ∈ C.keys ∨ k = i := fun k => by
  cases hx : ixOf C.ws i with
  | none => rw [(keys_miss b hx).1]; simp
  | some j =>
    obtain ⟨h1, h2⟩ := keys_hit b hx
    rw [h1]
    exact ⟨.inl, fun h => h.elim id (fun e => e ▸ h2)⟩
theorem nodup_put {C : Ck} (h : C.keys.Nodup) (i : Nat) (b : List Value) : (C.put i b).keys.Nodup := by
  cases hx : ixOf C.ws i with
  | none =>
    obtain ⟨h1, h2⟩ := keys_miss b hx
    rw [h1]
    exact List.nodup_append.2 ⟨h, by simp, fun a ha c hc e => by rw [List.mem_singleton.1 hc] at e; exact h2 (e ▸ ha)⟩
  | some j => rw [(keys_hit b hx).1]; exact h
theorem full_put (C : Ck) (i : Nat) (b : List Value) : (C.put i b).full = C.full := by
  unfold Ck.put; split <;> rfl

/-- Blocks that were taken. -/
structure Grew (N : Nat) (m m' : List UInt8) (nb : List Nat) : Prop where
  nodup : nb.Nodup
  fresh : ∀ j ∈ nb, 21 ≤ j ∧ j < N ∧ takenB m (j - 21) = false
  taken : ∀ i, takenB m' i = (takenB m i || decide (i + 21 ∈ nb))
theorem Grew.refl (N : Nat) (m : List UInt8) : Grew N m m [] := ⟨List.nodup_nil, fun _ h => (nomatch h), fun i => by simp⟩
theorem Grew.trans {N : Nat} {m m1 m2 : List UInt8} {a b : List Nat} (h : Grew N m m1 a) (k : Grew N m1 m2 b) : Grew N m m2 (a ++ b) where
  nodup := List.nodup_append.2 ⟨h.nodup, k.nodup, fun x hx y hy e => by
    subst e
    have h1 := k.fresh x hy
    have h2 := h.taken (x - 21)
    rw [h1.2.2, show x - 21 + 21 = x from by omega] at h2
    simp [hx] at h2⟩
  fresh := fun j hj => by
    rcases List.mem_append.1 hj with hj | hj
    · exact h.fresh j hj
    · have h1 := k.fresh j hj
      refine ⟨h1.1, h1.2.1, ?_⟩
      have h2 := h.taken (j - 21)
      rw [h1.2.2] at h2
      cases h3 : takenB m (j - 21) with
      | false => rfl
      | true => rw [h3] at h2; simp at h2
  taken := fun i => by rw [k.taken, h.taken, Bool.or_assoc]; simp
theorem Grew.keeps {N : Nat} {m m' : List UInt8} {nb : List Nat} (h : Grew N m m' nb) {i : Nat} (hi : takenB m i = true) : takenB m' i = true := by rw [h.taken, hi]; rfl
theorem Grew.apart {N : Nat} {m m' : List UInt8} {nb : List Nat} (h : Grew N m m' nb) {j : Nat} (hj : takenB m (j - 21) = true) : j ∉ nb := fun hn => by
  have := (h.fresh j hn).2.2; rw [hj] at this; cases this
def AllTaken (N : Nat) (m : List UInt8) : Prop := ∀ i, i + 21 < N → takenB m i = true
theorem take_is (C : Ck) {N : Nat} (hN : N ≤ 1000) {m : List UInt8} (hm : m.length = 124) :
    (∃ i, C.take N m = (i + 21, C.put 2 (pgV (mapPg (setB m i))), setB m i) ∧ Grew N m (setB m i) [i + 21]) ∨ (C.take N m = (0, { C with full := true }, m) ∧ AllTaken N m) := by
  unfold Ck.take
  cases h : takeI N m with
  | some i =>
    obtain ⟨h1, h2, h3⟩ := takeI_is h
    refine .inl ⟨i, rfl, by simp, fun j hj => ?_, fun j => ?_⟩
    · rw [List.mem_singleton.1 hj]
      exact ⟨by omega, by omega, by rw [show i + 21 - 21 = i from by omega]; exact h2⟩
    · rw [taken_set (by rw [hm]; omega)]
      congr 1
      simp
  | none =>
    refine .inr ⟨rfl, fun i hi => ?_⟩
    unfold takeI at h
    rw [List.find?_eq_none] at h
    have := h i (by simp; omega)
    simpa using this

/-- A change on its way: its map; it is full only where all is taken; no block stands twice among its writes. -/
structure Chn (D : Dk) (C : Ck) (m : List UInt8) : Prop where
  map : IsMap (C.look D 2) m
  full : C.full = true → AllTaken D.bs.length m
  nodup : C.keys.Nodup
/-- What a part of a change does: pb: the blocks that it writes anew; nb: those that it takes. -/
structure Stp (D : Dk) (C C' : Ck) (m m' : List UInt8) (pb nb : List Nat) : Prop where
  grew : Grew D.bs.length m m' nb
  full : C.full = true → C'.full = true
  look : ∀ j : Nat, j ∉ pb → j ∉ nb → j ≠ 2 → j ≠ 0 → C'.look D j = C.look D j
  keys : ∀ k ∈ C'.keys, k ∈ C.keys ∨ k ∈ pb ∨ k ∈ nb ∨ k = 2 ∨ (k = 0 ∧ C'.full = true)
theorem Stp.refl (D : Dk) (C : Ck) (m : List UInt8) : Stp D C C m m [] [] := ⟨Grew.refl _ _, id, fun _ _ _ _ _ => rfl, fun _ h => .inl h⟩
theorem Stp.trans {D : Dk} {C C1 C2 : Ck} {m m1 m2 : List UInt8} {p1 p2 n1 n2 : List Nat} (h : Stp D C C1 m m1 p1 n1) (k : Stp D C1 C2 m1 m2 p2 n2) : Stp D C C2 m m2 (p1 ++ p2) (n1 ++ n2) where
  grew := h.grew.trans k.grew
  full := fun hf => k.full (h.full hf)
  look := fun j h1 h2 h3 h4 => by
    rw [List.mem_append, not_or] at h1 h2
    rw [k.look j h1.2 h2.2 h3 h4, h.look j h1.1 h2.1 h3 h4]
  keys := fun x hx => by
    simp only [List.mem_append]
    rcases k.keys x hx with hx | hx | hx | hx | ⟨hx, hf⟩
    · rcases h.keys x hx with hx | hx | hx | hx | ⟨hx, hf⟩
      · exact .inl hx
      · exact .inr (.inl (.inl hx))
      · exact .inr (.inr (.inl (.inl hx)))
      · exact .inr (.inr (.inr (.inl hx)))
      · exact .inr (.inr (.inr (.inr ⟨hx, k.full hf⟩)))
    · exact .inr (.inl (.inr hx))
    · exact .inr (.inr (.inl (.inr hx)))
    · exact .inr (.inr (.inr (.inl hx)))
    · exact .inr (.inr (.inr (.inr ⟨hx, hf⟩)))
theorem Stp.unfull {D : Dk} {C C' : Ck} {m m' : List UInt8} {p n : List Nat} (h : Stp D C C' m m' p n) (hf : C'.full = false) : C.full = false := by
  cases hc : C.full with
  | false => rfl
  | true => rw [h.full hc] at hf; cases hf
/-- A write of a block. -/
theorem Stp.put (D : Dk) (C : Ck) (m : List UInt8) (i : Nat) (b : List Value) : Stp D C (C.put i b) m m [i] [] where
  grew := Grew.refl _ _
  full := fun h => by rw [full_put]; exact h
  look := fun j h1 _ _ _ => look_put_ne C D i b j (fun e => h1 (by rw [List.mem_singleton]; omega))
  keys := fun k hk => ((keys_put C i b k).1 hk).elim .inl (fun e => .inr (.inl (by rw [e]; simp)))
theorem Stp.put0 {D : Dk} {C : Ck} (m : List UInt8) (b : List Value) (hf : C.full = true) : Stp D C (C.put 0 b) m m [] [] where
  grew := Grew.refl _ _
  full := fun h => by rw [full_put]; exact h
  look := fun j _ _ _ h0 => look_put_ne C D 0 b j (by omega)
  keys := fun k hk => ((keys_put C 0 b k).1 hk).elim .inl (fun e => .inr (.inr (.inr (.inr ⟨e, by rw [full_put]; exact hf⟩))))
theorem Chn.put {D : Dk} {C : Ck} {m : List UInt8} (h : Chn D C m) {i : Nat} (hi : i ≠ 2) (b : List Value) : Chn D (C.put i b) m :=
  ⟨h.map.put i b hi, fun hf => h.full (by rw [full_put] at hf; exact hf), nodup_put h.nodup i b⟩
/-- A write of a block that was taken (or of none, where there was none). -/
theorem Stp.taken {D : Dk} {C C' : Ck} {m m' : List UInt8} {pb nb : List Nat} (h : Stp D C C' m m' pb nb) {i : Nat} (b : List Value) (hi : i ∈ nb ∨ (i = 0 ∧ C'.full = true)) : Stp D C (C'.put i b) m m' pb nb where
  grew := h.grew
  full := fun hf => by rw [full_put]; exact h.full hf
  look := fun j h1 h2 h3 h4 => by
    rw [look_put_ne C' D i b j (fun e => by rcases hi with hi | ⟨hi, _⟩; exact h2 (by rw [show j = i from by omega]; exact hi); omega)]
    exact h.look j h1 h2 h3 h4
  keys := fun k hk => by
    rw [full_put]
    rcases (keys_put C' i b k).1 hk with hk | rfl
    · exact h.keys k hk
    · rcases hi with hi | ⟨hi, hf⟩
      · exact .inr (.inr (.inl hi))
      · exact .inr (.inr (.inr (.inr ⟨hi, hf⟩)))
/-- What Take does. -/
structure Tkn (D : Dk) (C : Ck) (m : List UInt8) (ta : Nat) (C' : Ck) (m' : List UInt8) (nb : List Nat) : Prop where
  chn : Chn D C' m'
  stp : Stp D C C' m m' [] nb
  len : nb.length ≤ 1
  few : C'.ws.length ≤ C.ws.length + 1
  is : (nb = [ta] ∧ 21 ≤ ta ∧ ta < D.bs.length ∧ C'.full = C.full) ∨ (nb = [] ∧ ta = 0 ∧ C'.full = true)
theorem Tkn.mem {D : Dk} {C C' : Ck} {m m' : List UInt8} {ta : Nat} {nb : List Nat} (h : Tkn D C m ta C' m' nb) : ta ∈ nb ∨ (ta = 0 ∧ C'.full = true) := by
  rcases h.is with ⟨rfl, _⟩ | ⟨_, h1, h2⟩
  · exact .inl (by simp)
  · exact .inr ⟨h1, h2⟩
theorem Tkn.lt {D : Dk} {C C' : Ck} {m m' : List UInt8} {ta : Nat} {nb : List Nat} (h : Tkn D C m ta C' m' nb) (hN : D.bs.length ≤ 1000) : ta < 65536 ∧ ta ≠ 2 := by
  rcases h.is with ⟨_, h1, h2, _⟩ | ⟨_, h1, _⟩
  · omega
  · omega
theorem take_tkn {D : Dk} {C : Ck} {m : List UInt8} (h : Chn D C m) (hN : D.bs.length ≤ 1000) : ∃ ta C' m' nb, C.take D.bs.length m = (ta, C', m') ∧ Tkn D C m ta C' m' nb := by
  rcases take_is C hN h.map.len with ⟨i, e, g⟩ | ⟨e, ha⟩
  · refine ⟨_, _, _, [i + 21], e, ⟨⟨?_, fun hf => ?_, nodup_put h.nodup _ _⟩, ⟨g, fun hf => by rw [full_put]; exact hf, fun j _ _ h2 _ => look_put_ne C D 2 _ j (by omega), fun k hk => ?_⟩, by simp, ck_put_len _ _ _, .inl ⟨rfl, by omega, (g.fresh _ (by simp)).2.1, full_put _ _ _⟩⟩⟩
    · have := h.map.take (N := D.bs.length)
      rw [e] at this; exact this
    · rw [full_put] at hf
      exact fun i hi => g.keeps (h.full hf i hi)
    · rcases (keys_put C 2 _ k).1 hk with hk | hk
      · exact .inl hk
      · exact .inr (.inr (.inr (.inl hk)))
  · refine ⟨_, _, _, [], e, ⟨⟨h.map, fun _ => ha, h.nodup⟩, ⟨Grew.refl _ _, fun _ => rfl, fun _ _ _ _ _ => rfl, fun k hk => .inl hk⟩, by simp, by simp, .inr ⟨rfl, rfl, rfl⟩⟩⟩
/-- A node kept with one entry more, in one block or in two. -/
structure Mre (D : Dk) (C : Ck) (m : List UInt8) (at_ k : Nat) (es : List En) (f : Bool) (v : List Value) (C' : Ck) (m' : List UInt8) (nb : List Nat) : Prop where
  chn : Chn D C' m'
  stp : Stp D C C' m m' [at_] nb
  len : nb.length ≤ if f then 1 else 0
  few : C'.ws.length ≤ C.ws.length + 3
  one : f = false → es.length ≤ 6 ∧ v = zeroE ∧ nb = [] ∧ C'.look D at_ = pgV (nodePg k es)
  two : f = true → 6 < es.length ∧ ∃ ta, ta < 65536 ∧ v = enV ⟨(es.getD (es.length / 2) noE).pl, false, 0, ta⟩ ∧ (C'.full = false → nb = [ta] ∧ 21 ≤ ta ∧ C'.look D at_ = pgV (nodePg k (es.take (es.length / 2))) ∧ C'.look D ta = pgV (nodePg k (es.drop (es.length / 2))))
theorem more_mre {D : Dk} {C : Ck} {m : List UInt8} (h : Chn D C m) (hN : D.bs.length ≤ 1000) (at_ k : Nat) (hat : at_ ≠ 2) (hat1 : 21 ≤ at_) (hatk : takenB m (at_ - 21) = true) (es : List En) : ∃ f v C' m' nb, C.more D.bs.length m at_ k es = (f, v, C', m') ∧ Mre D C m at_ k es f v C' m' nb := by
  unfold Ck.more
  by_cases hl : es.length ≤ 6
  · rw [if_pos hl]
    exact ⟨_, _, _, _, [], rfl, ⟨h.put hat _, Stp.put D C m at_ _, by simp, by have := ck_put_len C at_ (pgV (nodePg k es)); omega, fun _ => ⟨hl, rfl, rfl, look_put_eq _ _ _ _⟩, fun h => by cases h⟩⟩
  · rw [if_neg hl]
    obtain ⟨ta, C1, m1, nb, e, tk⟩ := take_tkn h hN
    simp only [Ck.split, e]
    have hlt := tk.lt hN
    have hne : at_ ∉ nb := tk.stp.grew.apart hatk
    have s1 := tk.stp.trans (Stp.put D C1 m1 at_ (pgV (nodePg k (es.take (es.length / 2)))))
    rw [List.nil_append, List.append_nil] at s1
    have s2 := s1.taken (i := ta) (pgV (nodePg k (es.drop (es.length / 2)))) (tk.mem.imp id (fun h => ⟨h.1, by rw [full_put]; exact h.2⟩))
    refine ⟨_, _, _, _, nb, rfl, ⟨(tk.chn.put hat _).put hlt.2 _, s2, by simpa using tk.len, ?_, fun h => (by cases h), fun _ => ⟨by omega, ta, hlt.1, rfl, fun hf => ?_⟩⟩⟩
    · have := ck_put_len (C1.put at_ (pgV (nodePg k (es.take (es.length / 2))))) ta (pgV (nodePg k (es.drop (es.length / 2))))
      have := ck_put_len C1 at_ (pgV (nodePg k (es.take (es.length / 2))))
      have := tk.few
      omega
    · rw [full_put, full_put] at hf
      rcases tk.is with ⟨rfl, h1, _⟩ | ⟨_, _, h1⟩
      · refine ⟨rfl, h1, ?_, look_put_eq _ _ _ _⟩
        rw [look_put_ne _ _ _ _ _ (fun e => hne (by rw [List.mem_singleton]; omega)), look_put_eq]
      · rw [h1] at hf; cases hf
end Go.Proofs.YtcoengihaobddaaGreatDoor.prog
namespace Go.Proofs.YtcoengihaobddaaGreatDoor.prog
open Go.ChangeShapes Go.WideShapes Go.ChangeAt Go.RowKit Go.Proofs.YtcoengihaobddaaGreatDoor.disk Go.Proofs.YtcoengihaobddaaGreatDoor.ref
open Go.Proofs.YtcoengihaobddaaGreatDoor.keys (ret_int ret_bool beq_no beq_yes)
set_option linter.unusedVariables false
set_option maxRecDepth 8000

/-- Some writes, one behind the other: were all done, and what the disk is then. -/
def wrAll (D : Dk) : List (Nat × List Value) → Bool × Dk
  | [] => (true, D)
  | p :: ws => if D.writes p.1 = true then wrAll (D.write p.1 p.2) ws else (false, D)
def setHd (D : Dk) (h : List Value) : Bool × Dk := if D.writes 0 = true then (!((D.write 0 h).fuse == 0), (D.write 0 h).flush) else (false, D)
def noHead : List Value := pgV (Pg.new 1)
/-- All made to last, and then the head written. -/
def endHd (r : Bool × Dk) (h : List Value) : Bool × Dk := if r.1 = true ∧ r.2.fuse ≠ 0 then setHd r.2.flush h else (false, r.2)
def settleD (D : Dk) (ws : List (Nat × List Value)) : Bool × Dk := endHd (wrAll D ws) noHead
def logged (ws : List (Nat × List Value)) : List (Nat × List Value) := ws.mapIdx fun i p => (3 + i, p.2)
def headPg (ws : List (Nat × List Value)) : Pg := ⟨1, 0, ws.map fun p => bytesOf 2 p.1⟩
def noteD (D : Dk) (ws : List (Nat × List Value)) : Bool × Dk := endHd (wrAll D (logged ws)) (pgV (headPg ws))
def commitD (D : Dk) (ws : List (Nat × List Value)) : Bool × Dk := if (noteD D ws).1 = true then settleD (noteD D ws).2 ws else noteD D ws

/-- A disk somewhere, behind some writes of it. -/
structure Onto (w w' : World) (bd : Nat) (S : Nat → Prop) (D : Dk) : Prop where
  disk : ∃ S', Disk w' bd S' D ∧ ∀ k, S' k → S k ∨ w.heap.size ≤ k
  kept : Kept S w w'
theorem Onto.refl {w : World} {bd : Nat} {S : Nat → Prop} {D : Dk} (h : Disk w bd S D) : Onto w w bd S D := ⟨⟨S, h, fun _ h => .inl h⟩, Kept.refl _ _⟩
theorem Onto.trans {w w1 w2 : World} {bd : Nat} {S S1 : Nat → Prop} {D D1 : Dk} (hS : ∀ k, S1 k → S k ∨ w.heap.size ≤ k) (k1 : Kept S w w1) (h : Onto w1 w2 bd S1 D) : Onto w w2 bd S D := by
  obtain ⟨⟨S', h1, h2⟩, h3⟩ := h
  refine ⟨⟨S', h1, fun k hk => ?_⟩, k1.trans h3 hS⟩
  rcases h2 k hk with h4 | h4
  · exact hS k h4
  · exact .inr (Nat.le_trans k1.size h4)
theorem Onto.kept0 {w w1 w2 : World} {bd : Nat} {S : Nat → Prop} {D : Dk} (k1 : Kept (fun _ => False) w w1) (h : Onto w1 w2 bd S D) : Onto w w2 bd S D := Onto.trans (D1 := D) (fun _ h => .inl h) (k1.mono (fun _ hf => hf.elim)) h

theorem write_fuse {D : Dk} (a : Int) (b : List Value) (hf : IntOk D.fuse) : IntOk (D.write a b).fuse := by
  unfold Dk.write
  split
  · show IntOk (burnt D.fuse)
    unfold burnt IntOk at *
    split <;> omega
  · exact hf
theorem flush_fuse {D : Dk} (hf : IntOk D.fuse) : IntOk D.flush.fuse := by
  unfold Dk.flush
  split
  · exact hf
  · show IntOk (burnt D.fuse)
    unfold burnt IntOk at *
    split <;> omega
theorem write_ps {D : Dk} (a : Int) (b : List Value) : (D.write a b).ps.length ≤ D.ps.length + 1 := by
  unfold Dk.write
  split <;> simp

section
attribute [local go_sem ↓] loadP_eq
set_option maxHeartbeats 1000000 in
theorem setHead_any (w : World) (bd : Nat) (S : Nat → Prop) (D : Dk) (h : Disk w bd S D) (b : List Value) (hb : BlkOk b) (hfu : IntOk D.fuse) (hps : D.ps.length ≤ 68719476736) :
    Calls Tryz.prog 147 #[.pointer (some ⟨bd, 0, none⟩), .agg b.toArray] w fun e w' => e = .returned (.bool (setHd D b).1) ∧ Onto w w' bd S (setHd D b).2 := by
  have HH : Hid (Disk w bd S D) := h
  have HBO : Hid (BlkOk b) := hb
  have hqb := hb.1
  have HK1 : Hid (Kept (fun _ => False) w (w.alloc (.cells b.toArray 154))) := Kept.alloc _ _ _
  have hr1 : (loadP (.pointer (some ⟨w.heap.size, 0, none⟩))).run Tryz.prog (w.alloc (.cells b.toArray 154)) = .ok (.agg b.toArray) (w.alloc (.cells b.toArray 154)) := run_loadP _ _ _ b (range_of_block (heap_alloc_new w _)) hqb
  clear h hb
  cases hwr : D.writes 0 with
  | true =>
    have HWR : Hid _ := hwr
    go_enter Tryz.func147, Tryz.ntmps147
    go_wp2_with (first
      | (go_at_call 146; refine (write_any _ bd S D (HH.out.kept HK1.out (fun _ _ hf => hf)) 0 (by constructor <;> omega) b HBO.out hfu hps).mono ?_; rintro e w1 ⟨rfl, ⟨S1, hd1, hS1⟩, hk1⟩; rw [HWR.out]; have HD1 : Hid (Disk w1 bd S1 (D.write 0 b)) := hd1; have HS1 : Hid _ := hS1; have HK2 : Hid _ := hk1; clear hd1 hS1 hk1)
      | (go_at_call 40; refine (flush_any _ bd S1 _ HD1.out (write_fuse _ _ hfu)).mono ?_; rintro e w2 ⟨rfl, ⟨S2, hd2, hS2⟩, hk2⟩; have HD2 : Hid (Disk w2 bd S2 (D.write 0 b).flush) := hd2; have HS2 : Hid _ := hS2; have HK3 : Hid _ := hk2; clear hd2 hS2 hk2))
    go_ret
    have e1 : setHd D b = (!((D.write 0 b).fuse == 0), (D.write 0 b).flush) := if_pos HWR.out
    rw [e1]
    have hS : ∀ k, S1 k → S k ∨ w.heap.size ≤ k := fun k hk => by
      rcases HS1.out k hk with h1 | h1
      · exact .inl h1
      · right; have := HK1.out.size; omega
    exact ⟨rfl, ⟨S2, HD2.out, fun k hk => hS k (HS2.out k hk)⟩, ((HK1.out.mono (fun _ hf => hf.elim)).trans HK2.out (fun _ h => .inl h)).trans HK3.out hS⟩
  | false =>
    have HWR : Hid _ := hwr
    go_enter Tryz.func147, Tryz.ntmps147
    go_wp2_with (go_at_call 146; refine (write_any _ bd S D (HH.out.kept HK1.out (fun _ _ hf => hf)) 0 (by constructor <;> omega) b HBO.out hfu hps).mono ?_; rintro e w1 ⟨rfl, ⟨S1, hd1, hS1⟩, hk1⟩; rw [HWR.out]; have HD1 : Hid (Disk w1 bd S1 (D.write 0 b)) := hd1; have HS1 : Hid _ := hS1; have HK2 : Hid _ := hk1; clear hd1 hS1 hk1)
    go_ret
    have e1 : setHd D b = (false, D) := if_neg (by rw [HWR.out]; simp)
    have e2 : D.write 0 b = D := by
      have := HWR.out
      unfold Dk.writes at this
      unfold Dk.write
      rw [if_neg (of_decide_eq_false this)]
    rw [e1]
    have hd := HD1.out
    rw [e2] at hd
    refine ⟨rfl, ⟨S1, hd, fun k hk => ?_⟩, (HK1.out.mono (fun _ hf => hf.elim)).trans HK2.out (fun _ h => .inl h)⟩
    rcases HS1.out k hk with h1 | h1
    · exact .inl h1
    · right; have := HK1.out.size; omega
end
end Go.Proofs.YtcoengihaobddaaGreatDoor.prog

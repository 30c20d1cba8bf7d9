/- Part 16 of 39 of a proof: Blk3, Tr1, Tr2, Tree1 -/
import Derived.Test.YtcoengihaobddaaGreatDoorJp15
import Derived.Lib.Bytealg
import Derived.Deep.RegionHeld3
namespace Go.Proofs.YtcoengihaobddaaGreatDoor.prog
open Go.ChangeShapes Go.WideShapes Go.ChangeAt Go.RowKit Go.Proofs.YtcoengihaobddaaGreatDoor.disk Go.Proofs.YtcoengihaobddaaGreatDoor.ref
open Go.Proofs.YtcoengihaobddaaGreatDoor.keys (ret_int ret_bool beq_no beq_yes)
set_option linter.unusedVariables false
set_option maxRecDepth 8000

theorem Tryz.infoPage : (Tryz.prog.info? 154).map (fun i => (i.zero, i.size, i.bytes)) = some (some (.agg zeroB.toArray), 128, 128) := by kernel_rfl
def buildP (parts : Array (Nat × Value)) : Sem Value := Instr.build 154 parts
theorem buildP_eq (parts : Array (Nat × Value)) : Instr.build 154 parts = buildP parts := rfl
theorem run_buildP (w : World) (k : Int) : (buildP #[(0, .int .u8 k)]).run Tryz.prog w = .ok (.agg (.int .u8 k :: List.replicate 127 (.int .u8 0)).toArray) w := by
  have hz := zero_run Tryz.infoPage w
  have h1 : ∀ w, (sizeOf (Tryz.prog.elem 154)).run Tryz.prog w = .ok 1 w := run_size elem_size
  have hzl : zeroB = .int .u8 0 :: List.replicate 127 (.int .u8 0) := rfl
  simp only [buildP, Instr.build, Sem.run_bind, hz, Result.andThen_ok, run_underlying arr_under w]
  simp [h1, Value.cells, Instr.fill, hzl]

/-- A page as a value. -/
def pgV (p : Pg) : List Value := p.bytes.map byteV
theorem pgV_len {p : Pg} (h : p.Ok) : (pgV p).length = 128 := by rw [pgV, List.length_map, h.len]
theorem pgV_ok {p : Pg} (h : p.Ok) : BlkOk (pgV p) := ⟨pgV_len h, byteV_one _⟩
theorem newV (k : Nat) (hk : k ≤ 6) : pgV (Pg.new k) = .int .u8 (k : Int) :: List.replicate 127 (.int .u8 0) := by
  rw [pgV, Pg.new_bytes, List.map_cons, List.map_replicate]
  unfold byteV
  rw [u8_small _ (by omega)]
  rfl
end Go.Proofs.YtcoengihaobddaaGreatDoor.prog
namespace Go.Proofs.YtcoengihaobddaaGreatDoor.prog
open Go.ChangeShapes Go.WideShapes Go.ChangeAt Go.RowKit Go.Proofs.YtcoengihaobddaaGreatDoor.disk Go.Proofs.YtcoengihaobddaaGreatDoor.ref
section
attribute [local go_sem ↓] buildP_eq
set_option maxHeartbeats 400000 in
theorem new_any (w : World) (k : Nat) (hk : k ≤ 6) : Calls Tryz.prog 131 #[.int .u8 k] w fun e w' => e = .returned (.agg (pgV (Pg.new k)).toArray) ∧ Kept (fun _ => False) w w' := by
  have HI : Hid ((Tryz.prog.info? 154).map (·.size) = some 128) := size_of Tryz.infoPage
  obtain ⟨Zb, hZb, hz⟩ : ∃ Zb : List Value, Zb = zeroB ∧ ∀ w, (zeroValue 154).run Tryz.prog w = .ok (.agg Zb.toArray) w := ⟨zeroB, rfl, zero_run Tryz.infoPage⟩
  have HZb : Hid (BlkOk Zb) := by rw [hZb]; exact zeroB_ok
  clear hZb
  have HV : Hid (pgV (Pg.new k) = .int .u8 (k : Int) :: List.replicate 127 (.int .u8 0)) := newV k hk
  have HO : Hid (BlkOk (pgV (Pg.new k))) := pgV_ok (Pg.new_ok k hk)
  have hrun := fun w => run_buildP w (k : Int)
  rw [← HV.out] at hrun
  generalize pgV (Pg.new k) = pv at *
  clear HV
  go_enter Tryz.func131, Tryz.ntmps131
  go_wp2_with (show wpList _ _ _ ({ dst := none, op := .store _ _ _, type := _, pos := _, after := _, guard := _ } :: _) _ _; refine wpList_store_new rfl 154 (.tmp 2) (.tmp 4) rfl _ _ pv (by simp) rfl rfl (by rw [HO.out.1]; exact HI.out) (by rw [List.size_toArray, HZb.out.1, HO.out.1]) HO.out.2 ?_)
  refine bodyPost_ret (v := .agg pv.toArray) (results_cell_row Tryz.results131 _ _ w.heap.size 154 _ (0, 0) _ rfl (by have := heap_alloc_new w (.cells pv.toArray 154); simpa using this) arr_under rfl (by rw [List.size_toArray, HO.out.1]; exact HI.out)) rfl ⟨rfl, Kept.alloc _ _ _⟩
end

theorem over_one (l : List UInt8) (i : Nat) (c : UInt8) (h : i < l.length) : over l i [c] = l.set i c := by
  rw [over_cons _ _ _ _ (by simp; omega), over_nil]
def growV (b k n i : Nat) : Value := .slice (some ⟨b, 4 + n * width k, none⟩) (i * width k) (124 - n * width k)
set_option maxHeartbeats 1000000 in
theorem grow_any (w : World) (b : Nat) (p : Pg) (h : PgAt w b p) (k : Nat) (hf : (p.items.length + k) * width p.kind ≤ 124) (hl : p.items.length + k ≤ 124) (hz : 1 ≤ k * width p.kind) :
    Calls Tryz.prog 133 #[.pointer (some ⟨b, 0, none⟩), .int .i64 k] w fun e w' => e = .returned (growV b p.kind p.items.length k) ∧ PgAt w' b (p.grown k) ∧ Kept (fun i => i = b) w w' := by
  have hc := h.c1
  have hfz := h.bs.fz 1
  have HH : Hid _ := h
  clear h
  go_enter Tryz.func133, Tryz.ntmps133
  go_wp2_with (go_at_call 125; refine (items_any _ b p HH.out).mono ?_; rintro e w1 ⟨rfl, n1, rfl⟩; unfold itemsV)
  go_region
  have hl0 := HH.out.ok.len
  have HP : Hid (PgAt ((w.drewN (n1 + 1)).setCell ⟨b, 1, none⟩ (.int .u8 (↑p.items.length + ↑k))) b (p.grown k)) := by
    show PgAt _ b (p.grown k)
    refine ⟨?_, HH.out.ok.grown k hf hl⟩
    have h1 := (HH.out.bs.kept (T := fun _ => False) (w' := w.drewN (n1 + 1)) ⟨rfl, rfl, rfl, Nat.le_refl _, fun _ _ _ => rfl⟩ (fun hf => hf)).set 1 (UInt8.ofNat (p.items.length + k))
    rw [u8_small _ (by omega), ← over_one _ _ _ (by omega), HH.out.ok.grown_bytes k hf] at h1
    exact h1
  have HK : Hid (Kept (fun i => i = b) w ((w.drewN (n1 + 1)).setCell ⟨b, 1, none⟩ (.int .u8 (↑p.items.length + ↑k)))) :=
    Kept.trans (S' := fun i => i = b) (b := w.drewN (n1 + 1)) ⟨rfl, rfl, rfl, Nat.le_refl _, fun _ _ _ => rfl⟩ (Kept.setCell _ _ _ rfl) (fun _ h => .inl h)
  generalize (w.drewN (n1 + 1)).setCell ⟨b, 1, none⟩ (.int .u8 (↑p.items.length + ↑k)) = w2 at *
  have HG : Hid (growV b p.kind p.items.length k = .slice (some ⟨b, 4 + p.items.length * width p.kind, none⟩) (k * width p.kind) (124 - p.items.length * width p.kind)) := rfl
  have HKK : Hid ((p.grown k).kind = p.kind) := rfl
  have hx : ((p.items.length : Int) * (width p.kind : Nat)) = ((p.items.length * width p.kind : Nat) : Int) := by simp
  have hxy : (p.items.length + k) * width p.kind = p.items.length * width p.kind + k * width p.kind := Nat.add_mul ..
  have HXY : Hid _ := hxy
  rw [hxy] at hf
  rw [hx]
  clear hx hxy
  generalize p.items.length * width p.kind = x at *
  generalize k * width p.kind = z at *
  have hx124 : ¬ 124 = x := by omega
  go_wp2_with (go_at_call 125; refine (items_any _ b _ HP.out).mono ?_; rintro e w1 ⟨rfl, n3, rfl⟩; unfold itemsV; rw [HKK.out, Pg.grown_len, HXY.out])
  go_ret
  exact ⟨by rw [HG.out]; rfl, HP.out.kept (T := fun _ => False) ⟨rfl, rfl, rfl, Nat.le_refl _, fun _ _ _ => rfl⟩ (fun hf => hf), HK.out.trans (S' := fun _ => False) ⟨rfl, rfl, rfl, Nat.le_refl _, fun _ _ _ => rfl⟩ (fun _ hf => hf.elim)⟩
end Go.Proofs.YtcoengihaobddaaGreatDoor.prog
namespace Go.Proofs.YtcoengihaobddaaGreatDoor.prog
set_option linter.unusedVariables false
open Go.Proofs.YtcoengihaobddaaGreatDoor.ref

/-- A tree of so many levels above its leaves: a node's block, and its entries or its children, each with the place from which on it has versions. -/
def Tr : Nat → Type
  | 0 => Nat × List En
  | h + 1 => Nat × List (Pl × Tr h)
def Tr.blk : {h : Nat} → Tr h → Nat
  | 0, t => t.1
  | _ + 1, t => t.1
/-- A node's own entries, as they stand in its block. -/
def Tr.items : {h : Nat} → Tr h → List En
  | 0, t => t.2
  | _ + 1, t => t.2.map fun c => ⟨c.1, false, 0, c.2.blk⟩
def kindOf : Nat → Nat
  | 0 => 5
  | _ + 1 => 4
/-- All versions below a node, in their order; all its blocks. -/
def Tr.ents : {h : Nat} → Tr h → List En
  | 0, t => t.2
  | h + 1, t => (t.2.map fun c => Tr.ents (h := h) c.2).flatten
def Tr.blocks : {h : Nat} → Tr h → List Nat
  | 0, t => [t.1]
  | h + 1, t => t.1 :: (t.2.map fun c => Tr.blocks (h := h) c.2).flatten
/-- It lies in the blocks rd. -/
def Tr.Lay (rd : Nat → List UInt8) : {h : Nat} → Tr h → Prop
  | 0, t => rd t.1 = (nodePg 5 t.2).bytes
  | h + 1, t => rd t.1 = (nodePg 4 (Tr.items (h := h + 1) t)).bytes ∧ ∀ c ∈ t.2, Tr.Lay rd (h := h) c.2

/-- The versions below some children. -/
def flatE {h : Nat} (cs : List (Pl × Tr h)) : List En := (cs.map fun c => c.2.ents).flatten
def flatB {h : Nat} (cs : List (Pl × Tr h)) : List Nat := (cs.map fun c => c.2.blocks).flatten
theorem flatE_append {h : Nat} (A B : List (Pl × Tr h)) : flatE (A ++ B) = flatE A ++ flatE B := by simp [flatE]
theorem flatE_cons {h : Nat} (c : Pl × Tr h) (B : List (Pl × Tr h)) : flatE (c :: B) = c.2.ents ++ flatE B := by simp [flatE]
theorem flatB_append {h : Nat} (A B : List (Pl × Tr h)) : flatB (A ++ B) = flatB A ++ flatB B := by simp [flatB]
theorem flatB_cons {h : Nat} (c : Pl × Tr h) (B : List (Pl × Tr h)) : flatB (c :: B) = c.2.blocks ++ flatB B := by simp [flatB]
theorem Tr.ents_succ {h : Nat} (t : Tr (h + 1)) : t.ents = flatE t.2 := rfl
theorem Tr.blocks_succ {h : Nat} (t : Tr (h + 1)) : t.blocks = t.1 :: flatB t.2 := rfl
theorem Tr.blk_mem : ∀ {h : Nat} (t : Tr h), t.blk ∈ t.blocks
  | 0, t => List.mem_singleton.2 rfl
  | _ + 1, t => List.mem_cons_self ..

structure Pl.Ok (p : Pl) : Prop where
  key : p.key.data.toList.length ≤ 8
  zero : (0 : UInt8) ∉ p.key.data.toList
  num0 : 0 ≤ p.num
  num1 : p.num < 9223372036854775808
theorem En.Ok.pl {e : En} (h : e.Ok) : e.pl.Ok := ⟨h.key, h.zero, h.num0, h.num1⟩
theorem Pl.Ok.en {p : Pl} (h : p.Ok) {n : Nat} (hn : n < 65536) : En.Ok ⟨p, false, 0, n⟩ := ⟨h.key, h.zero, h.num0, h.num1, by simp, by simp, hn⟩

/-- In their order. -/
def Srt (l : List En) : Prop := l.Pairwise fun a b => a.pl.lt b.pl = true
/-- Where a node that is no leaf begins. -/
def Tr.First : {h : Nat} → Tr h → Pl → Prop
  | 0, _, _ => True
  | _ + 1, t, p => ∃ u r, t.2 = (p, u) :: r
/-- Each place parts what is ahead of it from what is behind it. -/
def Seps {h : Nat} (cs : List (Pl × Tr h)) : Prop :=
  ∀ A p t B, cs = A ++ (p, t) :: B → (∀ e ∈ flatE A, e.pl.lt p = true) ∧ (∀ e ∈ flatE ((p, t) :: B), ¬ e.pl.lt p = true) ∧ t.First p
/-- A node in order, but for how full it is itself. -/
def Tr.Good : {h : Nat} → Tr h → Prop
  | 0, t => t.1 < 65536 ∧ ∀ e ∈ t.2, e.Ok
  | h + 1, t => t.1 < 65536 ∧ (∀ c ∈ t.2, Tr.Good (h := h) c.2 ∧ (c.2.items).length ≤ 6 ∧ c.1.Ok) ∧ t.2.Pairwise (fun a b => a.1.lt b.1 = true) ∧ Seps t.2 ∧ ∀ c ∈ t.2, 3 ≤ (c.2.items).length
/-- Some children in order, however full they are. -/
structure Kids {h : Nat} (cs : List (Pl × Tr h)) : Prop where
  good : ∀ c ∈ cs, c.2.Good ∧ c.2.items.length ≤ 6 ∧ c.1.Ok
  places : cs.Pairwise fun a b => a.1.lt b.1 = true
  seps : Seps cs
theorem Tr.Good.kids {h : Nat} {t : Tr (h + 1)} (g : t.Good) : Kids t.2 := ⟨g.2.1, g.2.2.1, g.2.2.2.1⟩
theorem Tr.Good.full {h : Nat} {t : Tr (h + 1)} (g : t.Good) : ∀ c ∈ t.2, 3 ≤ c.2.items.length := g.2.2.2.2
theorem Tr.Good.blk : ∀ {h : Nat} {t : Tr h}, t.Good → t.blk < 65536
  | 0, _, g => g.1
  | _ + 1, _, g => g.1
theorem Kids.node {h : Nat} {cs : List (Pl × Tr h)} (k : Kids cs) (f : ∀ c ∈ cs, 3 ≤ c.2.items.length) {b : Nat} (hb : b < 65536) : Tr.Good (h := h + 1) (b, cs) := ⟨hb, k.good, k.places, k.seps, f⟩
theorem Tr.Good.items_ok : ∀ {h : Nat} {t : Tr h}, t.Good → ∀ e ∈ t.items, e.Ok
  | 0, _, g, e, he => g.2 e he
  | h + 1, t, g, e, he => by
    obtain ⟨c, hc, rfl⟩ := List.mem_map.1 he
    have := g.kids.good c hc
    exact this.2.2.en this.1.blk
theorem items_len {h : Nat} (t : Tr (h + 1)) : t.items.length = t.2.length := by simp [Tr.items]
/-- Every node but of none has a version below it. -/
theorem Tr.Good.some_ent : ∀ {h : Nat} {t : Tr h}, t.Good → 1 ≤ t.items.length → ∃ e, e ∈ t.ents
  | 0, t, _, hl => by
    have : t.2 ≠ [] := fun e => by simp [Tr.items, e] at hl
    obtain ⟨e, r, he⟩ := List.exists_cons_of_ne_nil this
    exact ⟨e, by show e ∈ t.2; rw [he]; exact List.mem_cons_self ..⟩
  | h + 1, t, g, hl => by
    rw [items_len] at hl
    have : t.2 ≠ [] := fun e => by simp [e] at hl
    obtain ⟨c, r, hc⟩ := List.exists_cons_of_ne_nil this
    have hm : c ∈ t.2 := by rw [hc]; exact List.mem_cons_self ..
    obtain ⟨e, he⟩ := (g.kids.good c hm).1.some_ent (by have := g.full c hm; omega)
    exact ⟨e, by rw [Tr.ents_succ, hc, flatE_cons]; exact List.mem_append_left _ he⟩
theorem Tr.Good.ents_ok : ∀ {h : Nat} {t : Tr h}, t.Good → ∀ e ∈ t.ents, e.Ok
  | 0, _, g, e, he => g.2 e he
  | h + 1, t, g, e, he => by
    obtain ⟨l, hl, he⟩ := List.mem_flatten.1 he
    obtain ⟨c, hc, rfl⟩ := List.mem_map.1 hl
    exact (g.kids.good c hc).1.ents_ok e he

/-! Some children: parts, and parts put together. -/
theorem Seps.left {h : Nat} {A B : List (Pl × Tr h)} (s : Seps (A ++ B)) : Seps A := fun A' p t B' e => by
  obtain ⟨h1, h2, h3⟩ := s A' p t (B' ++ B) (by rw [e]; simp)
  exact ⟨h1, fun x hx => h2 x (by rw [show (p, t) :: (B' ++ B) = ((p, t) :: B') ++ B from rfl, flatE_append]; exact List.mem_append_left _ hx), h3⟩
theorem Seps.right {h : Nat} {A B : List (Pl × Tr h)} (s : Seps (A ++ B)) : Seps B := fun A' p t B' e => by
  obtain ⟨h1, h2, h3⟩ := s (A ++ A') p t B' (by rw [e]; simp)
  exact ⟨fun x hx => h1 x (by rw [flatE_append]; exact List.mem_append_right _ hx), h2, h3⟩
theorem Kids.left {h : Nat} {A B : List (Pl × Tr h)} (k : Kids (A ++ B)) : Kids A := ⟨fun c hc => k.good c (List.mem_append_left _ hc), (List.pairwise_append.1 k.places).1, k.seps.left⟩
theorem Kids.right {h : Nat} {A B : List (Pl × Tr h)} (k : Kids (A ++ B)) : Kids B := ⟨fun c hc => k.good c (List.mem_append_right _ hc), (List.pairwise_append.1 k.places).2.1, k.seps.right⟩
theorem Kids.nil {h : Nat} : Kids ([] : List (Pl × Tr h)) := ⟨fun _ h => (nomatch h), List.Pairwise.nil, fun A p t B e => by simp at e⟩
/-- Two runs of children are one, if the second one's place parts them. -/
theorem Seps.join {h : Nat} {A B : List (Pl × Tr h)} {p : Pl} {t : Tr h} (sa : Seps A) (sb : Seps ((p, t) :: B)) (hA : ∀ e ∈ flatE A, e.pl.lt p = true) (hp1 : ∀ a ∈ A, a.1.lt p = true) (hp2 : ∀ b ∈ B, p.lt b.1 = true) : Seps (A ++ (p, t) :: B) := by
  obtain ⟨_, hB, hf⟩ := sb [] p t B rfl
  intro A' q u B' e
  rcases List.append_eq_append_iff.1 e with ⟨m, h1, h2⟩ | ⟨m, h1, h2⟩
  · cases m with
    | nil =>
      simp only [List.append_nil] at h1
      simp only [List.nil_append, List.cons.injEq, Prod.mk.injEq] at h2
      obtain ⟨⟨rfl, rfl⟩, rfl⟩ := h2
      subst h1
      exact ⟨hA, hB, hf⟩
    | cons c m =>
      obtain ⟨g1, g2, g3⟩ := sb (c :: m) q u B' h2
      refine ⟨fun x hx => ?_, g2, g3⟩
      rw [h1, flatE_append] at hx
      rcases List.mem_append.1 hx with hx | hx
      · have hq : (q, u) ∈ B := by simp only [List.cons_append, List.cons.injEq] at h2; rw [h2.2]; simp
        exact Pl.trans (hA x hx) (hp2 _ hq)
      · exact g1 x hx
  · cases m with
    | nil =>
      simp only [List.append_nil] at h1
      simp only [List.nil_append, List.cons.injEq, Prod.mk.injEq] at h2
      obtain ⟨⟨rfl, rfl⟩, rfl⟩ := h2
      subst h1
      exact ⟨hA, hB, hf⟩
    | cons c m =>
      simp only [List.cons_append, List.cons.injEq] at h2
      obtain ⟨rfl, h2⟩ := h2
      obtain ⟨g1, g2, g3⟩ := sa A' q u m h1
      refine ⟨g1, fun x hx => ?_, g3⟩
      rw [h2, show (q, u) :: (m ++ (p, t) :: B) = ((q, u) :: m) ++ (p, t) :: B from rfl, flatE_append] at hx
      rcases List.mem_append.1 hx with hx | hx
      · exact g2 x hx
      · exact fun hlt => hB x hx (Pl.trans hlt (hp1 (q, u) (by rw [h1]; simp)))
theorem Kids.join {h : Nat} {A B : List (Pl × Tr h)} {p : Pl} {t : Tr h} (ka : Kids A) (kb : Kids ((p, t) :: B)) (hA : ∀ e ∈ flatE A, e.pl.lt p = true) (hp1 : ∀ a ∈ A, a.1.lt p = true) : Kids (A ++ (p, t) :: B) where
  good := fun c hc => (List.mem_append.1 hc).elim (ka.good c) (kb.good c)
  places := List.pairwise_append.2 ⟨ka.places, kb.places, fun a ha b hb => by
    rcases List.mem_cons.1 hb with rfl | hb
    · exact hp1 a ha
    · exact Pl.trans (hp1 a ha) ((List.pairwise_cons.1 kb.places).1 b hb)⟩
  seps := ka.seps.join kb.seps hA hp1 (fun b hb => (List.pairwise_cons.1 kb.places).1 b hb)
/-- A child in their midst. -/
theorem Kids.mid {h : Nat} {A B : List (Pl × Tr h)} {p : Pl} {t : Tr h} (k : Kids (A ++ (p, t) :: B)) : (∀ a ∈ A, a.1.lt p = true) ∧ (∀ b ∈ B, p.lt b.1 = true) ∧ (∀ e ∈ flatE A, e.pl.lt p = true) ∧ (∀ e ∈ flatE ((p, t) :: B), ¬ e.pl.lt p = true) ∧ t.First p ∧
    (∀ b ∈ B, ∀ e ∈ flatE A ++ t.ents, e.pl.lt b.1 = true) ∧ (∀ b ∈ B, ∀ e ∈ b.2.ents, ¬ e.pl.lt b.1 = true) := by
  have hp := List.pairwise_append.1 k.places
  obtain ⟨s1, s2, s3⟩ := k.seps A p t B rfl
  refine ⟨fun a ha => hp.2.2 a ha _ (List.mem_cons_self ..), (List.pairwise_cons.1 hp.2.1).1, s1, s2, s3, fun b hb e he => ?_, fun b hb e he => ?_⟩
  · obtain ⟨B1, B2, rfl⟩ := List.append_of_mem hb
    obtain ⟨q, u⟩ := b
    have := (k.seps (A ++ (p, t) :: B1) q u B2 (by simp)).1 e
    refine this ?_
    rw [flatE_append, flatE_cons]
    rcases List.mem_append.1 he with he | he
    · exact List.mem_append_left _ he
    · exact List.mem_append_right _ (List.mem_append_left _ he)
  · obtain ⟨B1, B2, rfl⟩ := List.append_of_mem hb
    obtain ⟨q, u⟩ := b
    exact (k.seps (A ++ (p, t) :: B1) q u B2 (by simp)).2.1 e (by rw [flatE_cons]; exact List.mem_append_left _ he)
/-- A run of children out of its first one and the others. -/
theorem Kids.cons {h : Nat} {B : List (Pl × Tr h)} {p : Pl} {u : Tr h} (kb : Kids B) (g : u.Good) (hl : u.items.length ≤ 6) (hp : p.Ok) (hf : u.First p) (h1 : ∀ e ∈ u.ents, ¬ e.pl.lt p = true) (h2 : ∀ b ∈ B, p.lt b.1 = true) (h3 : ∀ b ∈ B, ∀ e ∈ u.ents, e.pl.lt b.1 = true) : Kids ((p, u) :: B) where
  good := fun c hc => by
    rcases List.mem_cons.1 hc with rfl | hc
    · exact ⟨g, hl, hp⟩
    · exact kb.good c hc
  places := List.pairwise_cons.2 ⟨h2, kb.places⟩
  seps := by
    intro A q v B' e
    cases A with
    | nil =>
      simp only [List.nil_append, List.cons.injEq, Prod.mk.injEq] at e
      obtain ⟨⟨rfl, rfl⟩, rfl⟩ := e
      refine ⟨fun x hx => (nomatch hx), fun x hx => ?_, hf⟩
      rw [flatE_cons] at hx
      rcases List.mem_append.1 hx with hx | hx
      · exact h1 x hx
      · obtain ⟨l, hl, hx'⟩ := List.mem_flatten.1 hx
        obtain ⟨c, hc, rfl⟩ := List.mem_map.1 hl
        obtain ⟨B1, B2, rfl⟩ := List.append_of_mem hc
        obtain ⟨r, y⟩ := c
        have := (kb.seps B1 r y B2 rfl).2.1 x (by rw [flatE_cons]; exact List.mem_append_left _ hx')
        exact fun hlt => this (Pl.trans hlt (h2 _ hc))
    | cons c A =>
      simp only [List.cons_append, List.cons.injEq] at e
      obtain ⟨rfl, e⟩ := e
      obtain ⟨g1, g2, g3⟩ := kb.seps A q v B' e
      refine ⟨fun x hx => ?_, g2, g3⟩
      rw [flatE_cons] at hx
      rcases List.mem_append.1 hx with hx | hx
      · exact h3 (q, v) (by rw [e]; simp) x hx
      · exact g1 x hx
/-- A child is another one of the same place, with versions that lie as the elder ones did. -/
theorem Kids.swap {h : Nat} {A B : List (Pl × Tr h)} {p : Pl} {t u : Tr h} (k : Kids (A ++ (p, t) :: B)) (g : u.Good) (hl : u.items.length ≤ 6) (hf : u.First p)
    (h1 : ∀ e ∈ u.ents, ¬ e.pl.lt p = true) (h2 : ∀ b ∈ B, ∀ e ∈ u.ents, e.pl.lt b.1 = true) : Kids (A ++ (p, u) :: B) := by
  obtain ⟨m1, m2, m3, m4, m5, m6, m7⟩ := k.mid
  have kr := k.right
  have kb : Kids B := Kids.right (A := [(p, t)]) kr
  exact k.left.join (kb.cons g hl (kr.good (p, t) (List.mem_cons_self ..)).2.2 hf h1 m2 h2) m3 m1
/-- A child is two: the second one has what is from q on. -/
theorem Kids.parted {h : Nat} {A B : List (Pl × Tr h)} {p q : Pl} {t u v : Tr h} (k : Kids (A ++ (p, t) :: B)) (gu : u.Good) (gv : v.Good) (lu : u.items.length ≤ 6) (lv : v.items.length ≤ 6) (hq : q.Ok) (hf : u.First p) (hfv : v.First q)
    (hpq : p.lt q = true) (hu : ∀ e ∈ u.ents, e.pl.lt q = true) (hv : ∀ e ∈ v.ents, ¬ e.pl.lt q = true) (h1 : ∀ e ∈ u.ents, ¬ e.pl.lt p = true) (h2 : ∀ b ∈ B, ∀ e ∈ v.ents, e.pl.lt b.1 = true) (h3 : ∀ b ∈ B, q.lt b.1 = true) : Kids (A ++ (p, u) :: (q, v) :: B) := by
  obtain ⟨m1, m2, m3, m4, m5, m6, m7⟩ := k.mid
  have kr := k.right
  have kb : Kids B := Kids.right (A := [(p, t)]) kr
  have kv : Kids ((q, v) :: B) := kb.cons gv lv hq hfv hv h3 h2
  refine k.left.join (kv.cons gu lu (kr.good (p, t) (List.mem_cons_self ..)).2.2 hf h1 ?_ ?_) m3 m1
  · intro b hb
    rcases List.mem_cons.1 hb with rfl | hb
    · exact hpq
    · exact m2 b hb
  · intro b hb e he
    rcases List.mem_cons.1 hb with rfl | hb
    · exact hu e he
    · exact Pl.trans (hu e he) (h3 b hb)
end Go.Proofs.YtcoengihaobddaaGreatDoor.prog
namespace Go.Proofs.YtcoengihaobddaaGreatDoor.prog
set_option linter.unusedVariables false
open Go.Proofs.YtcoengihaobddaaGreatDoor.ref

/-- So many stand ahead of a place. -/
def fromI (l : List En) (p : Pl) : Nat := (l.filter fun x => x.pl.lt p).length
theorem Srt.cut {l : List En} (h : Srt l) (p : Pl) : l.take (fromI l p) = l.filter (fun x => x.pl.lt p) ∧ l.drop (fromI l p) = l.filter (fun x => !x.pl.lt p) := by
  induction l with
  | nil => simp [fromI]
  | cons a l ih =>
    unfold Srt at h
    rw [List.pairwise_cons] at h
    cases ha : a.pl.lt p with
    | true =>
      obtain ⟨h1, h2⟩ := ih h.2
      have e : fromI (a :: l) p = fromI l p + 1 := by simp [fromI, ha]
      rw [e, List.take_succ_cons, List.drop_succ_cons, h1, h2]
      simp [ha]
    | false =>
      have hn : ∀ x ∈ l, x.pl.lt p = false := fun x hx => by
        cases hx2 : x.pl.lt p with
        | false => rfl
        | true => have := Pl.trans (h.1 x hx) hx2; rw [ha] at this; cases this
      have e : fromI (a :: l) p = 0 := by simp [fromI, ha]; exact hn
      have e1 : l.filter (fun x => x.pl.lt p) = [] := List.filter_eq_nil_iff.2 (fun x hx => by rw [hn x hx]; simp)
      have e2 : l.filter (fun x => !x.pl.lt p) = l := List.filter_eq_self.2 (fun x hx => by rw [hn x hx]; rfl)
      rw [e]; simp [ha, e1, e2]
theorem fromI_le (l : List En) (p : Pl) : fromI l p ≤ l.length := List.length_filter_le _ _
theorem Srt.at_lt {l : List En} (h : Srt l) (p : Pl) (i : Nat) (hi : i < l.length) : l[i].pl.lt p = decide (i < fromI l p) := by
  obtain ⟨h1, h2⟩ := h.cut p
  by_cases hl : i < fromI l p
  · rw [decide_eq_true hl]
    have hm : l[i] ∈ l.take (fromI l p) := List.mem_take_iff_getElem.2 ⟨i, by omega, rfl⟩
    rw [h1, List.mem_filter] at hm
    exact hm.2
  · rw [decide_eq_false hl]
    have hm : l[i] ∈ l.drop (fromI l p) := List.mem_drop_iff_getElem.2 ⟨i - fromI l p, by omega, by congr 1; omega⟩
    rw [h2, List.mem_filter] at hm
    simpa using hm.2

/-- A version more, in its place. -/
def insE (e : En) (l : List En) : List En := l.filter (fun x => x.pl.lt e.pl) ++ e :: l.filter (fun x => !x.pl.lt e.pl)
theorem insE_mem {e x : En} {l : List En} : x ∈ insE e l ↔ x = e ∨ x ∈ l := by
  simp only [insE, List.mem_append, List.mem_cons, List.mem_filter, Bool.not_eq_true']
  constructor
  · rintro (h | h | h)
    · exact .inr h.1
    · exact .inl h
    · exact .inr h.1
  · rintro (h | h)
    · exact .inr (.inl h)
    · cases hx : x.pl.lt e.pl with
      | true => exact .inl ⟨h, rfl⟩
      | false => exact .inr (.inr ⟨h, rfl⟩)
theorem insE_perm (e : En) (l : List En) : (insE e l).Perm (e :: l) := by
  unfold insE
  refine List.perm_middle.trans (List.Perm.cons e ?_)
  induction l with
  | nil => exact List.Perm.refl _
  | cons a l ih =>
    cases ha : a.pl.lt e.pl with
    | true => simp only [List.filter_cons, ha, Bool.not_true, if_true, Bool.false_eq_true, if_false, List.cons_append]; exact ih.cons a
    | false => simp only [List.filter_cons, ha, Bool.not_false, if_true, Bool.false_eq_true, if_false]; exact List.perm_middle.trans (ih.cons a)
theorem Srt.ins {e : En} {l : List En} (h : Srt l) (hn : ∀ x ∈ l, x.pl ≠ e.pl) : Srt (insE e l) := by
  unfold Srt insE
  refine List.pairwise_append.2 ⟨h.filter _, List.pairwise_cons.2 ⟨fun x hx => ?_, h.filter _⟩, fun x hx y hy => ?_⟩
  · rw [List.mem_filter] at hx
    exact Pl.total (fun e2 => hn x hx.1 e2) (by simpa using hx.2)
  · rw [List.mem_filter] at hx
    rcases List.mem_cons.1 hy with rfl | hy
    · exact hx.2
    · rw [List.mem_filter] at hy
      exact Pl.lt_of_lt_not hx.2 (by simpa using hy.2)
theorem insE_mid {e : En} {A M B : List En} (hA : ∀ x ∈ A, x.pl.lt e.pl = true) (hB : ∀ x ∈ B, x.pl.lt e.pl = false) : insE e (A ++ (M ++ B)) = A ++ (insE e M ++ B) := by
  have a1 : A.filter (fun x => x.pl.lt e.pl) = A := List.filter_eq_self.2 hA
  have a2 : A.filter (fun x => !x.pl.lt e.pl) = [] := List.filter_eq_nil_iff.2 (fun x hx => by rw [hA x hx]; simp)
  have b1 : B.filter (fun x => x.pl.lt e.pl) = [] := List.filter_eq_nil_iff.2 (fun x hx => by rw [hB x hx]; simp)
  have b2 : B.filter (fun x => !x.pl.lt e.pl) = B := List.filter_eq_self.2 (fun x hx => by rw [hB x hx]; rfl)
  simp [insE, a1, a2, b1, b2]
theorem Srt.ins_at {e : En} {l : List En} (h : Srt l) : l.take (fromI l e.pl) ++ e :: l.drop (fromI l e.pl) = insE e l := by
  obtain ⟨h1, h2⟩ := h.cut e.pl
  rw [h1, h2]; rfl

/-- All but the version at a place. -/
def delE (p : Pl) (l : List En) : List En := l.filter fun x => decide (x.pl ≠ p)
theorem delE_none {p : Pl} {l : List En} (h : ∀ x ∈ l, x.pl ≠ p) : delE p l = l := List.filter_eq_self.2 (fun x hx => by simpa using h x hx)
theorem delE_append (p : Pl) (A B : List En) : delE p (A ++ B) = delE p A ++ delE p B := by simp [delE]
theorem delE_mem {p : Pl} {x : En} {l : List En} : x ∈ delE p l ↔ x ∈ l ∧ x.pl ≠ p := by simp [delE]
theorem Srt.del {p : Pl} {l : List En} (h : Srt l) : Srt (delE p l) := List.Pairwise.filter _ h
theorem Srt.apart {l : List En} (h : Srt l) : ∀ (i j : Nat) (hi : i < l.length) (hj : j < l.length), l[i].pl = l[j].pl → i = j := fun i j hi hj e => by
  rcases Nat.lt_trichotomy i j with h1 | h1 | h1
  · have := List.pairwise_iff_getElem.1 h i j hi hj h1
    rw [e] at this; exact absurd this (Pl.irrefl _)
  · exact h1
  · have := List.pairwise_iff_getElem.1 h j i hj hi h1
    rw [e] at this; exact absurd this (Pl.irrefl _)
/-- In a run in order the version at a place stands where its place goes, or nowhere. -/
theorem Srt.find {l : List En} (h : Srt l) (p : Pl) : (∀ (hi : fromI l p < l.length), l[fromI l p].pl = p → l.take (fromI l p) ++ l.drop (fromI l p + 1) = delE p l) ∧
    ((∀ (hi : fromI l p < l.length), l[fromI l p].pl ≠ p) → ∀ x ∈ l, x.pl ≠ p) := by
  obtain ⟨h1, h2⟩ := h.cut p
  constructor
  · intro hi he
    have e0 : l = l.take (fromI l p) ++ l[fromI l p] :: l.drop (fromI l p + 1) := by rw [← List.drop_eq_getElem_cons, List.take_append_drop]
    have hs : ∀ x ∈ l.take (fromI l p), x.pl ≠ p := fun x hx e => by
      rw [h1, List.mem_filter, e] at hx; exact Pl.irrefl _ hx.2
    have ht : ∀ x ∈ l.drop (fromI l p + 1), x.pl ≠ p := fun x hx e => by
      unfold Srt at h
      rw [e0] at h
      have := (List.pairwise_cons.1 (List.pairwise_append.1 h).2.1).1 x hx
      rw [he, e] at this; exact Pl.irrefl _ this
    conv => rhs; rw [e0]
    rw [delE_append, delE_none hs, show delE p (l[fromI l p] :: l.drop (fromI l p + 1)) = delE p (l.drop (fromI l p + 1)) from by unfold delE; rw [List.filter_cons, if_neg (by simp [he])], delE_none ht]
  · intro hn x hx e
    obtain ⟨i, hi, rfl⟩ := List.getElem_of_mem hx
    have hlt := h.at_lt p i hi
    rw [e] at hlt
    have hge : ¬ i < fromI l p := fun hc => by rw [decide_eq_true hc] at hlt; exact Pl.irrefl _ hlt
    have hi2 : fromI l p < l.length := by omega
    by_cases h3 : fromI l p = i
    · exact hn hi2 (by simp only [h3]; exact e)
    · have := List.pairwise_iff_getElem.1 h (fromI l p) i hi2 hi (by omega)
      have h4 := h.at_lt p _ hi2
      rw [e] at this
      rw [this] at h4
      simp at h4

/-- Which child has a place: the last one that begins at it or ahead of it; the first, if none does. -/
def childI (l : List En) (p : Pl) : Nat := if h : fromI l p < l.length then (if l[fromI l p].pl = p then fromI l p else fromI l p - 1) else fromI l p - 1
theorem childI_lt {l : List En} (p : Pl) (h : l ≠ []) : childI l p < l.length := by
  have := fromI_le l p
  have : 0 < l.length := List.length_pos_iff.2 h
  unfold childI
  split
  · split <;> omega
  · omega
theorem Kids.items_srt {h : Nat} {cs : List (Pl × Tr h)} (k : Kids cs) : Srt (cs.map fun c => (⟨c.1, false, 0, c.2.blk⟩ : En)) := List.Pairwise.map _ (fun _ _ h => h) k.places
/-- The child that has a place, among the others. -/
theorem Kids.child {h : Nat} {cs : List (Pl × Tr h)} (k : Kids cs) (hn : cs ≠ []) (p : Pl) : ∃ A q t B, cs = A ++ (q, t) :: B ∧ A.length = childI (cs.map fun c => (⟨c.1, false, 0, c.2.blk⟩ : En)) p ∧ (A ≠ [] → ¬ p.lt q = true) ∧ (∀ b ∈ B, p.lt b.1 = true) := by
  have hs := k.items_srt
  generalize hl : (cs.map fun c => (⟨c.1, false, 0, c.2.blk⟩ : En)) = l at hs ⊢
  have hll : l.length = cs.length := by rw [← hl]; simp
  have hget : ∀ i (hi : i < cs.length), l[i]'(by omega) = ⟨cs[i].1, false, 0, cs[i].2.blk⟩ := fun i hi => by subst hl; simp
  have hne : l ≠ [] := fun e => hn (List.eq_nil_of_length_eq_zero (by rw [← hll, e]; rfl))
  have hc := childI_lt p hne
  have hc' : childI l p < cs.length := by omega
  have e0 : cs = cs.take (childI l p) ++ cs[childI l p] :: cs.drop (childI l p + 1) := by rw [← List.drop_eq_getElem_cons, List.take_append_drop]
  have hfl := fromI_le l p
  refine ⟨cs.take (childI l p), cs[childI l p].1, cs[childI l p].2, cs.drop (childI l p + 1), e0, by simp; omega, fun hA => ?_, fun b hb => ?_⟩
  · -- the child's own place is not behind p
    have hpos : 0 < childI l p := by
      rcases Nat.eq_zero_or_pos (childI l p) with h0 | h0
      · rw [h0] at hA; simp at hA
      · exact h0
    have h1 := hs.at_lt p (childI l p) hc
    rw [hget _ hc'] at h1
    simp only at h1
    by_cases hlt : childI l p < fromI l p
    · rw [decide_eq_true hlt] at h1; exact Pl.asymm h1
    · -- then it is p itself
      have : ∃ hi : fromI l p < l.length, l[fromI l p].pl = p ∧ childI l p = fromI l p := by
        unfold childI at hlt hpos ⊢
        split at hlt
        next hi =>
          split at hlt
          next he => exact ⟨hi, he, by rw [dif_pos hi, if_pos he]⟩
          next he => rw [dif_pos hi, if_neg he] at hpos; omega
        next hi => rw [dif_neg hi] at hpos; omega
      obtain ⟨hi, he, h2⟩ := this
      have h3 : cs[childI l p].1 = p := by
        have := hget (fromI l p) (by omega)
        rw [this] at he
        simp only [h2]; exact he
      rw [h3]; exact Pl.irrefl _
  · -- all others are behind p
    obtain ⟨i, hi, rfl⟩ := List.mem_drop_iff_getElem.1 hb
    have hib : childI l p + 1 + i < cs.length := by omega
    have hlt : (cs[childI l p].1).lt (cs[childI l p + 1 + i].1) = true := List.pairwise_iff_getElem.1 k.places _ _ hc' hib (by omega)
    have h1 := hs.at_lt p (childI l p + 1 + i) (by omega)
    rw [hget _ hib] at h1
    simp only at h1
    have hcf : fromI l p ≤ childI l p + 1 := by
      unfold childI; split
      · split <;> omega
      · omega
    rw [decide_eq_false (by omega)] at h1
    by_cases he : cs[childI l p + 1 + i].1 = p
    · -- then p stands at fromI, and the child is it
      have h5 : fromI l p = childI l p + 1 + i := by
        have h6 := hs.find p
        by_cases hx : ∃ hi : fromI l p < l.length, l[fromI l p].pl = p
        · obtain ⟨hi2, he2⟩ := hx
          exact hs.apart _ _ hi2 (by omega) (by rw [he2, hget _ hib]; exact he.symm)
        · exact absurd (by rw [hget _ hib]; exact he) (h6.2 (fun hi2 he2 => hx ⟨hi2, he2⟩) (l[childI l p + 1 + i]'(by omega)) (List.getElem_mem _))
      have h7 : childI l p = fromI l p := by
        have hi2 : fromI l p < l.length := by omega
        have he2 : l[fromI l p].pl = p := by
          have := hget (childI l p + 1 + i) hib
          simp only [h5]; rw [this]; exact he
        unfold childI; rw [dif_pos hi2, if_pos he2]
      omega
    · exact Pl.total he (by rw [h1]; simp)
end Go.Proofs.YtcoengihaobddaaGreatDoor.prog
namespace Go.Proofs.YtcoengihaobddaaGreatDoor.prog
open Go.ChangeShapes Go.WideShapes Go.ChangeAt Go.RowKit Go.Proofs.YtcoengihaobddaaGreatDoor.disk Go.Proofs.YtcoengihaobddaaGreatDoor.ref
open Go.Proofs.YtcoengihaobddaaGreatDoor.keys (ret_int ret_bool beq_no beq_yes)
set_option linter.unusedVariables false
set_option maxRecDepth 8000

/-- How two texts compare. -/
def cmpB (a b : ByteArray) : Int := if lessB a b then -1 else if lessB b a then 1 else 0
theorem cmpL : ∀ a b : List UInt8, Lib.compareBytes a b = if lessL a b then -1 else if lessL b a then 1 else 0
  | [], [] => by simp [Lib.compareBytes, lessL]
  | [], _ :: _ => by simp [Lib.compareBytes, lessL]
  | _ :: _, [] => by simp [Lib.compareBytes, lessL]
  | a :: l, b :: r => by
    have ih := cmpL l r
    unfold Lib.compareBytes lessL
    by_cases h1 : a < b
    · have : a ≠ b := UInt8.ne_of_lt h1
      simp [h1, this]
    · by_cases h2 : b < a
      · have : a ≠ b := (UInt8.ne_of_lt h2).symm
        have h3 : b ≠ a := this.symm
        simp [h1, h2, this, h3]
      · have e : a = b := by
          rw [UInt8.lt_iff_toNat_lt] at h1 h2
          exact UInt8.toNat_inj.1 (by omega)
        subst e
        simp [h1, ih]
theorem cmpB_is (a b : ByteArray) : Lib.compareBytes a.data.toList b.data.toList = cmpB a b := cmpL _ _

set_option maxHeartbeats 1000000 in
theorem cmpString_any (a b : ByteArray) (w : World) : Calls Tryz.prog 211 #[.string a, .string b] w fun e w' => e = .returned (.int .i64 (cmpB a b)) ∧ w' = w := by
  go_enter Tryz.func211, Tryz.ntmps211
  go_wp2
  rw [run_callFunc_extern Tryz.func217 (by kernel_rfl) (by kernel_rfl) (by kernel_rfl) (e := Extern.BytealgCompare.compare) (by kernel_rfl), Lib.run_compareString]
  simp only [Result.andThen]
  rw [Oper.upon_value]
  go_wp2
  go_ret
  exact ⟨ret_int (cmpB_is a b), rfl⟩
theorem strCompare_any (a b : ByteArray) (w : World) : Calls Tryz.prog 204 #[.string a, .string b] w fun e w' => e = .returned (.int .i64 (cmpB a b)) ∧ w' = w := by
  go_enter Tryz.func204, Tryz.ntmps204
  go_wp2_with (go_at_call 211; refine (cmpString_any _ _ _).mono ?_; rintro e w' ⟨rfl, rfl⟩)
  go_ret
  exact ⟨rfl, rfl⟩
def cmpI (x y : Int) : Int := if x < y then -1 else if y < x then 1 else 0
theorem isNaN_any (x : Int) (w : World) : Calls Tryz.prog 212 #[.int .i64 x] w fun e w' => e = .returned (.bool false) ∧ w' = w := by
  go_enter Tryz.func212, Tryz.ntmps212
  go_wp2
  go_ret
  exact ⟨rfl, rfl⟩
theorem cmpInt_any (x y : Int) (w : World) : Calls Tryz.prog 205 #[.int .i64 x, .int .i64 y] w fun e w' => e = .returned (.int .i64 (cmpI x y)) ∧ w' = w := by
  go_enter Tryz.func205, Tryz.ntmps205
  go_wp2_with (go_at_call 212; refine (isNaN_any _ _).mono ?_; rintro e w' ⟨rfl, rfl⟩)
  all_goals
    go_ret
    refine ⟨ret_int ?_, rfl⟩
    unfold cmpI
    (repeat' split) <;> omega
def orI (x y : Int) : Int := if x = 0 then y else x
theorem cmpOr_any (w : World) (b : Nat) (x y : Int) (h0 : w.cell? ⟨b, 0, none⟩ = some (.int .i64 x)) (h1 : w.cell? ⟨b, 1, none⟩ = some (.int .i64 y)) :
    Calls Tryz.prog 203 #[.slice (some ⟨b, 0, none⟩) 2 2] w fun e w' => e = .returned (.int .i64 (orI x y)) ∧ w' = w := by
  go_enter Tryz.func203, Tryz.ntmps203
  go_wp2
  go_loop [8] (fun t => ∃ k : Nat, k ≤ 2 ∧ t = .int .i64 k ∧ (1 ≤ k → x = 0) ∧ (2 ≤ k → y = 0)) (fun t => 2 - (intOf t).toNat)
  case atStart => exact ⟨0, by omega, rfl, by omega, by omega⟩
  case round =>
    obtain ⟨k, hk, rfl, hx, hy⟩ := hrel
    rcases (by omega : k = 0 ∨ k = 1 ∨ k = 2) with rfl | rfl | rfl
    · by_cases h : x = 0
      · subst h
        go_wp2
        go_round
        case rel => exact ⟨1, by omega, by go_num, by simp, by omega⟩
        case measure => simp [intOf]
      · have h2 : (x != 0) = true := by simpa using h
        have HX : Hid _ := h
        go_wp2
        go_ret
        exact ⟨ret_int (if_neg HX.out).symm, rfl⟩
    · have hx0 := hx (by omega)
      subst hx0
      by_cases h : y = 0
      · subst h
        go_wp2
        go_round
        case rel => exact ⟨2, by omega, by go_num, by simp, by simp⟩
        case measure => simp [intOf]
      · have h2 : (y != 0) = true := by simpa using h
        go_wp2
        go_ret
        exact ⟨ret_int (if_pos rfl).symm, rfl⟩
    · have hx0 := hx (by omega)
      have hy0 := hy (by omega)
      subst hx0
      subst hy0
      go_wp2
      go_ret
      exact ⟨rfl, rfl⟩

/-- How two places compare. -/
def plCmp (a b : Pl) : Int := orI (cmpB a.key b.key) (cmpI b.num a.num)
theorem plCmp_lt (a b : Pl) : plCmp a b < 0 ↔ a.lt b = true := by
  unfold plCmp orI cmpB cmpI
  rw [Pl.lt_iff]
  cases h1 : lessB a.key b.key
  · cases h2 : lessB b.key a.key
    · have e : a.key = b.key := by
        by_cases e : a.key = b.key
        · exact e
        · have := lessB_total e h1; rw [h2] at this; cases this
      simp [e]
      by_cases h3 : b.num < a.num
      · simp [h3]
      · by_cases h4 : a.num < b.num
        · simp [h3, h4]
        · simp [h3, h4]
    · have e : a.key ≠ b.key := fun e => by rw [e, lessB_irrefl] at h2; cases h2
      simp [e]
  · simp
theorem plCmp_eq (a b : Pl) : plCmp a b = 0 ↔ a = b := by
  unfold plCmp orI cmpB cmpI
  cases h1 : lessB a.key b.key
  · cases h2 : lessB b.key a.key
    · have e : a.key = b.key := by
        by_cases e : a.key = b.key
        · exact e
        · have := lessB_total e h1; rw [h2] at this; cases this
      cases a; cases b
      simp only at e
      subst e
      simp
      (repeat' split) <;> omega
    · have e : a ≠ b := fun e => by rw [e, lessB_irrefl] at h2; cases h2
      simp [e]
  · have e : a ≠ b := fun e => by rw [e, lessB_irrefl] at h1; cases h1
    simp [e]
def plV (a : Pl) : Value := .agg #[.string a.key, .int .i64 a.num]

set_option maxHeartbeats 2000000 in
theorem placeCmp_any (w : World) (a b : Pl) : Calls Tryz.prog 197 #[.agg #[.string a.key, .int .i64 a.num], .agg #[.string b.key, .int .i64 b.num]] w fun e w' => e = .returned (.int .i64 (plCmp a b)) ∧ Kept (fun _ => False) w w' := by
  go_enter Tryz.func197, Tryz.ntmps197
  go_wp2
  have h20 : ((w.alloc (.cells #[.string a.key, .int .i64 a.num] 107)).alloc (.cells #[.string b.key, .int .i64 b.num] 107)).cell? ⟨w.heap.size, 0, none⟩ = some (.string a.key) := by simp
  have h21 : ((w.alloc (.cells #[.string a.key, .int .i64 a.num] 107)).alloc (.cells #[.string b.key, .int .i64 b.num] 107)).cell? ⟨w.heap.size, 1, none⟩ = some (.int .i64 a.num) := by simp
  have h30 : ((w.alloc (.cells #[.string a.key, .int .i64 a.num] 107)).alloc (.cells #[.string b.key, .int .i64 b.num] 107)).cell? ⟨w.heap.size + 1, 0, none⟩ = some (.string b.key) := by simp
  have h31 : ((w.alloc (.cells #[.string a.key, .int .i64 a.num] 107)).alloc (.cells #[.string b.key, .int .i64 b.num] 107)).cell? ⟨w.heap.size + 1, 1, none⟩ = some (.int .i64 b.num) := by simp
  have HK : Hid (Kept (fun _ => False) w ((w.alloc (.cells #[.string a.key, .int .i64 a.num] 107)).alloc (.cells #[.string b.key, .int .i64 b.num] 107))) := (Kept.alloc _ _ _).trans (Kept.alloc _ _ _) (fun _ h => .inl h)
  generalize ((w.alloc (.cells #[.string a.key, .int .i64 a.num] 107)).alloc (.cells #[.string b.key, .int .i64 b.num] 107)) = W at *
  go_region_held3 (fun w' => w'.cell? ⟨w.heap.size, 0, none⟩ = some (.string a.key) ∧ w'.cell? ⟨w.heap.size, 1, none⟩ = some (.int .i64 a.num) ∧ w'.cell? ⟨w.heap.size + 1, 0, none⟩ = some (.string b.key) ∧ w'.cell? ⟨w.heap.size + 1, 1, none⟩ = some (.int .i64 b.num)) (go_keep) ((first
    | (go_at_call 204; refine (strCompare_any _ _ _).mono ?_; rintro e w' ⟨rfl, rfl⟩)
    | (go_at_call 205; refine (cmpInt_any _ _ _).mono ?_; rintro e w' ⟨rfl, rfl⟩)
    | (go_at_call 203; refine (cmpOr_any _ _ (cmpB a.key b.key) (cmpI b.num a.num) (by simp) (by simp)).mono ?_; rintro e w' ⟨rfl, rfl⟩)))
  all_goals
    go_wp2
    go_ret
    exact ⟨rfl, (HK.out.trans (Kept.alloc (fun _ => False) W _) (fun _ h => .inl h)).trans (Kept.drew (fun _ => False) _) (fun _ h => .inl h)⟩
end Go.Proofs.YtcoengihaobddaaGreatDoor.prog

/- Part 32 of 39 of a proof: Walk3, Sto1, Sto2, Sto3 -/
import Derived.Test.YtcoengihaobddaaGreatDoorJp31
import Derived.Test.YtcoengihaobddaaGreatDoorJp30
import Derived.Test.YtcoengihaobddaaGreatDoorJp28
import Derived.RangeFuncCalls
namespace Go.Proofs.YtcoengihaobddaaGreatDoor.prog
open Go.ChangeShapes Go.WideShapes Go.ChangeAt Go.RowKit Go.Proofs.YtcoengihaobddaaGreatDoor.disk Go.Proofs.YtcoengihaobddaaGreatDoor.ref
open Go.Proofs.YtcoengihaobddaaGreatDoor.keys (ret_int ret_bool beq_no beq_yes)
set_option linter.unusedVariables false
set_option maxRecDepth 8000

theorem WalkPost.mono {J : Int → List En → (Nat → Prop) → World → Prop} {Jx : Int → List En → World → Prop} {B : Nat} {W : World} {r : Int} {pre : List En} {Q : Nat → Prop} {y y' : List En} {n n' f f' : Nat} {e : Ending} {W' : World}
    (h : WalkPost J Jx B W r pre Q y n f e W') (hy : y = y') (hn : n ≤ n') (hf : f = f') : WalkPost J Jx B W r pre Q y' n' f' e W' := by
  subst hy; subst hf
  rcases h with ⟨h1, r', Q', h2, h3, h4⟩ | h
  · exact .inl ⟨h1, r', Q', h2, by omega, h4⟩
  · exact .inr h
/-- A node as a child that is walked. -/
def Tr.kid {h : Nat} (t : Tr h) (p : Pl) : Kid := ⟨t.blk, onE p t.ents, t.blocks.length, t.fy p⟩
theorem kids_y {h : Nat} (cs : List (Pl × Tr h)) (p : Pl) : kidsY (cs.map fun c => c.2.kid p) = onE p (flatE cs) := by
  induction cs with
  | nil => rfl
  | cons c cs ih => rw [flatE_cons, onE_append, ← ih]; rfl
theorem kids_n {h : Nat} (cs : List (Pl × Tr h)) (p : Pl) : kidsN (cs.map fun c => c.2.kid p) = (flatB cs).length := by
  induction cs with
  | nil => rfl
  | cons c cs ih => rw [flatB_cons, List.length_append, ← ih]; rfl
theorem flatB_drop_le {h : Nat} (cs : List (Pl × Tr h)) (c : Nat) : (flatB (cs.drop c)).length ≤ (flatB cs).length := by
  conv => rhs; rw [← List.take_append_drop c cs]
  rw [flatB_append, List.length_append]; omega
theorem walk_tree (l : Nat) (J : Int → List En → (Nat → Prop) → World → Prop) (Jx : Int → List En → World → Prop) (B bd : Nat) (S : Nat → Prop) (D : Dk) (R1 R2 : Int) (all : List En) (E : WalkEnv l J Jx B bd S D R1 R2 all) (hR2 : R2 ≤ 4611686018427380000) (p : Pl) :
    ∀ (h : Nat) (t : Tr h), t.Good → 1 ≤ t.items.length → t.items.length ≤ 6 → Srt t.ents → t.LayV pgV (fun j => D.look (j : Nat)) → KidOk l J Jx B bd R1 R2 all p (t.kid p)
  | 0, (b, es), g, h1, h6, hs, hl => ⟨fun A r pre Q hj hB hr0 hr2 hr1 hall => walk_leaf l J Jx B bd S D R1 R2 all E hR2 A r pre Q hj hB p b g.1 es g.2 h1 h6 hs hl hr0 hr2 hr1 hall⟩
  | h + 1, (b, cs), g, h1, h6, hs, hl => by
    have h1' : 1 ≤ cs.length := Nat.le_trans h1 (Nat.le_of_eq (items_pair b cs))
    have h6' : cs.length ≤ 6 := Nat.le_trans (Nat.le_of_eq (items_pair b cs).symm) h6
    have kk : Kids cs := g.kids
    have hne : cs ≠ [] := fun e => by rw [e] at h1'; simp at h1'
    obtain ⟨c, hc⟩ : ∃ c, c = childI (cs.map fun c => (⟨c.1, false, 0, c.2.blk⟩ : En)) p := ⟨_, rfl⟩
    obtain ⟨w1, _⟩ := kk.walk hne p c hc
    have hsub : ∀ c ∈ cs, c.2.ents.Sublist (flatE cs) := fun c hcm => by
      obtain ⟨A, B, rfl⟩ := List.append_of_mem hcm
      rw [flatE_append, flatE_cons]
      exact ((List.sublist_append_left _ _).trans (List.sublist_append_right _ _))
    have hok : ∀ k ∈ (cs.drop c).map (fun c => c.2.kid p), KidOk l J Jx B bd R1 R2 all p k := fun k hk => by
      obtain ⟨x, hx, rfl⟩ := List.mem_map.1 hk
      have hxm := List.mem_of_mem_drop hx
      have hg := kk.good x hxm
      exact walk_tree l J Jx B bd S D R1 R2 all E hR2 p h x.2 hg.1 (by have : 3 ≤ x.2.items.length := g.full x hxm; omega) hg.2.1 (List.Pairwise.sublist (hsub x hxm) hs) (hl.2 x hxm)
    have hlen : (cs.map fun c => (⟨c.1, false, 0, c.2.blk⟩ : En)).length = cs.length := by simp
    have hN : 1 + kidsN ((cs.drop c).map fun c => c.2.kid p) ≤ (Tr.blocks (h := h + 1) (b, cs)).length := by
      rw [kids_n]
      show 1 + (flatB (cs.drop c)).length ≤ (b :: flatB cs).length
      have := flatB_drop_le cs c
      rw [List.length_cons]; omega
    have hF : 1 + kidsF ((cs.drop c).map fun c => c.2.kid p) = Tr.fy p (h := h + 1) (b, cs) := by
      show 1 + fyL _ = 1 + fyL _
      rw [hc, List.map_map]; rfl
    have hY : kidsY ((cs.drop c).map fun c => c.2.kid p) = onE p (flatE cs) := by rw [kids_y, w1]
    refine ⟨fun A r pre Q hj hB hr0 hr2 hr1 hall => ?_⟩
    have hr2' : r + ((Tr.blocks (h := h + 1) (b, cs)).length : Nat) ≤ R2 := hr2
    have hr1' : pre = [] → r + (Tr.fy p (h := h + 1) (b, cs) : Nat) ≤ R1 := hr1
    refine (walk_branch l J Jx B bd S D R1 R2 all E hR2 A r pre Q hj hB p b g.1 (cs.map fun c : Pl × Tr h => (⟨c.1, false, 0, c.2.blk⟩ : En)) g.items_ok (by omega) (by omega) kk.items_srt (fun e he => by
        obtain ⟨x, _, rfl⟩ := List.mem_map.1 he; exact ⟨rfl, rfl⟩) hl.1 ((cs.drop c).map fun c => c.2.kid p) (by rw [← hc, hlen]; simp) (fun k hk h2 => ?_) hok hr0 (by omega) (fun h0 => by rw [hF]; exact hr1' h0) (by rw [hY]; exact hall)).mono ?_
    · simp only [← hc, List.getElem_map, List.getElem_drop]
      rfl
    · intro e W' hp
      exact hp.mono hY hN hF

/-- The boxes of a walk: the root, the reader, the place. -/
structure WalkBox (W : World) (b1 b2 b3 bd root : Nat) (p : Pl) : Prop where
  root : W.heap[b1]? = some (.cells #[.int .i64 (root : Int)] 3 (0, 0))
  rd : W.heap[b2]? = some (.cells #[.iface 29 (.pointer (some ⟨bd, 0, none⟩))] 193 (0, 0))
  pl : W.heap[b3]? = some (.cells #[.string p.key, .int .i64 p.num] 107 (0, 0))
theorem WalkBox.kept {W W' : World} {b1 b2 b3 bd root : Nat} {p : Pl} (h : WalkBox W b1 b2 b3 bd root p) {X : Nat → Prop} (k : Kept X W W') (h1 : ¬ X b1) (h2 : ¬ X b2) (h3 : ¬ X b3) : WalkBox W' b1 b2 b3 bd root p :=
  ⟨(k.block _ (Array.getElem?_eq_some_iff.1 h.root).1 h1).trans h.root, (k.block _ (Array.getElem?_eq_some_iff.1 h.rd).1 h2).trans h.rd, (k.block _ (Array.getElem?_eq_some_iff.1 h.pl).1 h3).trans h.pl⟩
theorem three_new (w : World) (o1 o2 o3 : Obj) : (((w.alloc o1).alloc o2).alloc o3).heap[w.heap.size]? = some o1 ∧ (((w.alloc o1).alloc o2).alloc o3).heap[w.heap.size + 1]? = some o2 ∧ (((w.alloc o1).alloc o2).alloc o3).heap[w.heap.size + 2]? = some o3 ∧ Kept (fun _ => False) w (((w.alloc o1).alloc o2).alloc o3) ∧ (((w.alloc o1).alloc o2).alloc o3).heap.size = w.heap.size + 3 := by
  have k3 := Kept.alloc (fun _ => False) ((w.alloc o1).alloc o2) o3
  have s2 : ((w.alloc o1).alloc o2).heap.size = w.heap.size + 2 := by simp
  refine ⟨(k3.block _ (by omega) id).trans (((Kept.alloc (fun _ => False) (w.alloc o1) o2).block w.heap.size (by simp) id).trans (heap_alloc_new w _)), (k3.block _ (by omega) id).trans (heap_alloc2_new w _ _), ?_, ((Kept.alloc _ _ _).trans (Kept.alloc _ _ _) (fun _ h => .inl h)).trans k3 (fun _ h => .inl h), by simp⟩
  have := heap_alloc_new ((w.alloc o1).alloc o2) o3
  rw [s2] at this; exact this
set_option maxHeartbeats 2000000 in
theorem walk_any (w : World) (bd root : Nat) (p : Pl) : Calls Tryz.prog 158 #[.iface 29 (.pointer (some ⟨bd, 0, none⟩)), .int .i64 root, .agg #[.string p.key, .int .i64 p.num]] w fun e w' =>
    e = .returned (.func (.func 190) #[] #[.pointer (some ⟨w.heap.size + 1, 0, none⟩), .pointer (some ⟨w.heap.size, 0, none⟩), .pointer (some ⟨w.heap.size + 2, 0, none⟩)]) ∧ WalkBox w' (w.heap.size + 1) w.heap.size (w.heap.size + 2) bd root p ∧ Kept (fun _ => False) w w' ∧ w'.heap.size = w.heap.size + 3 := by
  go_enter Tryz.func158, Tryz.ntmps158
  go_wp2
  go_ret
  obtain ⟨n1, n2, n3, k3, s3⟩ := three_new w (.cells #[.iface 29 (.pointer (some ⟨bd, 0, none⟩))] 193) (.cells #[.int .i64 (root : Int)] 3) (.cells #[.string p.key, .int .i64 p.num] 107)
  exact ⟨rfl, ⟨n2, n1, n3⟩, k3, s3⟩

set_option maxHeartbeats 1000000 in
/-- What ranging over a walk of the tree gives: its versions from the place on, in their order. -/
theorem seq_walk (W : World) (bd : Nat) (S : Nat → Prop) (D : Dk) (b1 b2 b3 root : Nat) (p : Pl) (hbox : WalkBox W b1 b2 b3 bd root p) (es : List En) (bs : List Nat) (hF : Forest (fun j => D.look (j : Nat)) root es bs) (hbl : bs.length ≤ 979) (hbs : ∀ j ∈ bs, 21 ≤ j) (hbd : bd < W.heap.size) (r0 : Int) (hr0 : 0 ≤ r0) (hr1 : r0 ≤ 4611686018427370000) :
    SeqW Tryz.prog 190 #[.pointer (some ⟨b1, 0, none⟩), .pointer (some ⟨b2, 0, none⟩), .pointer (some ⟨b3, 0, none⟩)] (fun x : En => #[.agg (enV x).toArray]) (fun k => k = bd) (fun r _ A => Disk A bd S { D with reads := r })
      (fun r pre x _ => HereW (r0 + 13) (r0 + bs.length) (onE p es) r pre x) (fun r xs => xs = onE p es ∧ r ≤ r0 + bs.length ∧ (xs = [] → r ≤ r0 + 13)) (fun _ _ => True) r0 W := by
  intro l J Jx hJi hJs hJy hJ0
  have c1 : W.cell? ⟨b1, 0, none⟩ = some (.int .i64 (root : Int)) := by rw [cell_of_row W _ 0 _ _ _ hbox.root]; rfl
  have c2 : W.cell? ⟨b2, 0, none⟩ = some (.iface 29 (.pointer (some ⟨bd, 0, none⟩))) := by rw [cell_of_row W _ 0 _ _ _ hbox.rd]; rfl
  have c3 : W.cell? ⟨b3, 0, none⟩ = some (.string p.key) := by rw [cell_of_row W _ 0 _ _ _ hbox.pl]; rfl
  have c4 : W.cell? ⟨b3, 1, none⟩ = some (.int .i64 p.num) := by rw [cell_of_row W _ 1 _ _ _ hbox.pl]; rfl
  have HJ0 : PLift (J r0 [] (fun _ => False) W) := ⟨hJ0⟩
  rcases hF with ⟨rfl, rfl, rfl⟩ | ⟨h, t, hr, hl, rfl, rfl, rfl⟩
  · clear hJi hJs hJy hJ0 hbox
    go_enter Tryz.func190, Tryz.ntmps190
    go_wp2
    go_end0
    exact ⟨⟨_, rfl⟩, .inl ⟨r0, [], _, ⟨rfl, by simp, fun _ => by omega⟩, HJ0.down⟩⟩
  · have h6 := hr.low hbl
    have hfy := hr.good.fy_le p hr.one
    have hz : t.blk ≠ 0 := by have := hbs _ t.blk_mem; omega
    clear hbs
    have E : WalkEnv l J Jx W.heap.size bd S D (r0 + 13) (r0 + t.blocks.length) (onE p t.ents) := ⟨hJi, hJs, hJy, hbd⟩
    have K := walk_tree l J Jx W.heap.size bd S D (r0 + 13) (r0 + t.blocks.length) (onE p t.ents) E (by omega) p h t hr.good hr.one hr.hi hr.srt hl
    have HK : Hid (Calls Tryz.prog 191 #[.iface 29 (.pointer (some ⟨bd, 0, none⟩)), .int .i64 t.blk, .agg #[.string p.key, .int .i64 p.num], .func (.yield l) #[] #[]] W (WalkPost J Jx W.heap.size W r0 [] (fun _ => False) (onE p t.ents) t.blocks.length (t.fy p))) := K.go W r0 [] (fun _ => False) hJ0 (Nat.le_refl _) hr0 (Int.le_refl _) (fun _ => by show r0 + (t.fy p : Nat) ≤ _; omega) (List.prefix_refl _)
    clear K E hJi hJs hJy hJ0 hbox hl
    have hz' : ((t.blk : Int) != 0) = true := by simp; omega
    go_enter Tryz.func190, Tryz.ntmps190
    go_wp2_with fail
    refine HK.out.mono ?_
    rintro e W' (⟨rfl, r', Q', g1, g2, g3, hj, hk, hq⟩ | ⟨rfl, r', q, hx⟩)
    · have HJ : PLift (J r' ([] ++ onE p t.ents) Q' W') := ⟨hj⟩
      have G3 : Hid (onE p t.ents = [] → r' ≤ r0 + (t.fy p : Nat)) := g3
      clear hj g3 hk hq
      go_wp2
      go_end0
      exact ⟨⟨_, rfl⟩, .inl ⟨r', onE p t.ents, Q', ⟨rfl, by omega, fun h => by have := G3.out h; omega⟩, HJ.down⟩⟩
    · have HX : PLift (Jx r' q W') := ⟨hx⟩
      clear hx
      go_wp2
      go_end0
      exact ⟨⟨_, rfl⟩, .inr ⟨r', q, trivial, HX.down⟩⟩
end Go.Proofs.YtcoengihaobddaaGreatDoor.prog
namespace Go.Proofs.YtcoengihaobddaaGreatDoor.prog
open Go.ChangeShapes Go.WideShapes Go.ChangeAt Go.RowKit Go.Proofs.YtcoengihaobddaaGreatDoor.disk Go.Proofs.YtcoengihaobddaaGreatDoor.ref
open Go.Proofs.YtcoengihaobddaaGreatDoor.keys (ret_int ret_bool beq_no beq_yes)
set_option linter.unusedVariables false
set_option maxRecDepth 8000

/-- A store lies in memory at block bs: its lock's word is k; its disk lies at q (none: it is shut). -/
structure StoAt (w : World) (bs : Nat) (k : Int) (q : Option Nat) : Prop where
  at_ : w.heap[bs]? = some (.cells #[.int .i32 k, .int .u32 0, .pointer (q.map fun b => ⟨b, 0, none⟩)] 104 (0, 0))
theorem StoAt.lt {w : World} {bs : Nat} {k : Int} {q : Option Nat} (h : StoAt w bs k q) : bs < w.heap.size := (Array.getElem?_eq_some_iff.1 h.at_).1
theorem StoAt.kept {w w' : World} {bs : Nat} {k : Int} {q : Option Nat} {T : Nat → Prop} (h : StoAt w bs k q) (kp : Kept T w w') (hn : ¬ T bs) : StoAt w' bs k q := ⟨(kp.block bs h.lt hn).trans h.at_⟩
theorem StoAt.c0 {w : World} {bs : Nat} {k : Int} {q : Option Nat} (h : StoAt w bs k q) : w.cell? ⟨bs, 0, none⟩ = some (.int .i32 k) := by rw [cell_of_row w bs 0 _ _ _ h.at_]; rfl
theorem StoAt.c2 {w : World} {bs : Nat} {k : Int} {q : Option Nat} (h : StoAt w bs k q) : w.cell? ⟨bs, 2, none⟩ = some (.pointer (q.map fun b => ⟨b, 0, none⟩)) := by rw [cell_of_row w bs 2 _ _ _ h.at_]; rfl
theorem StoAt.fz {w : World} {bs : Nat} {k : Int} {q : Option Nat} (h : StoAt w bs k q) (i : Nat) : w.frozen? ⟨bs, i, none⟩ = false := frozen_of_row w bs i _ _ h.at_
theorem StoAt.set {w : World} {bs : Nat} {k : Int} {q : Option Nat} (h : StoAt w bs k q) (k' : Int) : StoAt (w.setCell ⟨bs, 0, none⟩ (.int .i32 k')) bs k' q := ⟨heap_setCell_same w bs 0 _ _ _ h.at_⟩

set_option maxHeartbeats 2000000 in
theorem versions_any (w : World) (bs bd : Nat) (S : Nat → Prop) (D : Dk) (k : Int) (hs : StoAt w bs k (some bd)) (hd : Disk w bd S D) (hn : ¬ S bs) (hr0 : 0 ≤ D.reads) (hr1 : D.reads ≤ 4611686018427387904) (tree n : Nat) (hb : IsRoot (D.look 1) tree n) (p : Pl) :
    Calls Tryz.prog 114 #[.pointer (some ⟨bs, 0, none⟩), .agg #[.string p.key, .int .i64 p.num]] w fun e w' => ∃ b1 b2 b3, e = .returned (.func (.func 190) #[] #[.pointer (some ⟨b1, 0, none⟩), .pointer (some ⟨b2, 0, none⟩), .pointer (some ⟨b3, 0, none⟩)]) ∧ WalkBox w' b1 b2 b3 bd tree p ∧ (w.heap.size ≤ b1 ∧ w.heap.size ≤ b2 ∧ w.heap.size ≤ b3) ∧ Disk w' bd S { D with reads := D.reads + 1 } ∧ Kept (fun i => i = bd) w w' := by
  have HS : Hid _ := hs
  have HD : Hid (Disk w bd S D) := hd
  have HB : Hid _ := hb
  have hc2 : w.cell? ⟨bs, 2, none⟩ = some (.pointer (some ⟨bd, 0, none⟩)) := hs.c2
  have hbs := hs.lt
  have hbd : bd < w.heap.size := hd.lt bd hd.bdS
  have hne : ¬ bs = bd := fun e => hn (by rw [e]; exact hd.bdS)
  clear hs hd hb
  go_enter Tryz.func114, Tryz.ntmps114
  go_wp2_with fail
  have HK0 : Hid (Kept (fun _ => False) w (w.alloc (.cells #[.string p.key, .int .i64 p.num] 107))) := Kept.alloc _ _ _
  have HB0 : Hid ((w.alloc (.cells #[.string p.key, .int .i64 p.num] 107)).heap[w.heap.size]? = some (.cells #[.string p.key, .int .i64 p.num] 107 (0, 0))) := heap_alloc_new w _
  have hs0 : (w.alloc (.cells #[.string p.key, .int .i64 p.num] 107)).heap.size = w.heap.size + 1 := by simp
  generalize (w.alloc (.cells #[.string p.key, .int .i64 p.num] 107)) = W at *
  have hcs : W.cell? ⟨bs, 2, none⟩ = some (.pointer (some ⟨bd, 0, none⟩)) := (HK0.out.cell (a := ⟨bs, 2, none⟩) hbs id).trans hc2
  have p0 : W.cell? ⟨w.heap.size, 0, none⟩ = some (.string p.key) := by rw [cell_of_row W _ 0 _ _ _ HB0.out]; rfl
  have p1 : W.cell? ⟨w.heap.size, 1, none⟩ = some (.int .i64 p.num) := by rw [cell_of_row W _ 1 _ _ _ HB0.out]; rfl
  have hbs' : bs < W.heap.size := by omega
  have hpl' : w.heap.size < W.heap.size := by omega
  have hne2 : ¬ w.heap.size = bd := by omega
  have HDW : Hid (Disk W.drew bd S D) := (HD.out.kept HK0.out (fun _ _ hf => hf)).kept (Kept.drew (fun _ => False) W) (fun _ _ hf => hf)
  clear hc2
  have hfd : ∀ w : World, (Instr.field 145 (.agg #[.int .i64 (tree : Int), .int .i64 (n : Int)]) 0).run Tryz.prog w = .ok (.int .i64 (tree : Int)) w := fun _ => by kernel_rfl
  go_region_held3 (fun w' => w'.cell? ⟨bs, 2, none⟩ = some (.pointer (some ⟨bd, 0, none⟩)) ∧ w'.cell? ⟨w.heap.size, 0, none⟩ = some (.string p.key) ∧ w'.cell? ⟨w.heap.size, 1, none⟩ = some (.int .i64 p.num)) (go_keep) (first
    | (go_at_call 74; refine (rootd_any _ bd S D HDW.out hr0 hr1 tree n HB.out).mono ?_; rintro e w1 ⟨rfl, hd1, hk1⟩; have HD1 : Hid (Disk w1 bd S { D with reads := D.reads + 1 }) := hd1; have HK1 : Hid (Kept (fun i => i = bd) W.drew w1) := hk1; have cs1 : w1.cell? ⟨bs, 2, none⟩ = some (.pointer (some ⟨bd, 0, none⟩)) := (hk1.cell (a := ⟨bs, 2, none⟩) hbs' hne).trans hcs; have p10 : w1.cell? ⟨w.heap.size, 0, none⟩ = some (.string p.key) := (hk1.cell (a := ⟨w.heap.size, 0, none⟩) hpl' hne2).trans p0; have p11 : w1.cell? ⟨w.heap.size, 1, none⟩ = some (.int .i64 p.num) := (hk1.cell (a := ⟨w.heap.size, 1, none⟩) hpl' hne2).trans p1; have hs1 : W.heap.size ≤ w1.heap.size := hk1.size; clear hd1 hk1)
    | (go_at_call 158; refine (walk_any _ bd tree p).mono ?_; rintro e w2 ⟨rfl, hb2, hk2, hs2⟩; have HB2 : Hid _ := hb2; have HK2 : Hid (Kept (fun _ => False) w1 w2) := hk2; have cs2 : w2.cell? ⟨bs, 2, none⟩ = some (.pointer (some ⟨bd, 0, none⟩)) := (hk2.cell (a := ⟨bs, 2, none⟩) (Nat.lt_of_lt_of_le hbs' hs1) id).trans cs1; have p20 : w2.cell? ⟨w.heap.size, 0, none⟩ = some (.string p.key) := (hk2.cell (a := ⟨w.heap.size, 0, none⟩) (Nat.lt_of_lt_of_le hpl' hs1) id).trans p10; have p21 : w2.cell? ⟨w.heap.size, 1, none⟩ = some (.int .i64 p.num) := (hk2.cell (a := ⟨w.heap.size, 1, none⟩) (Nat.lt_of_lt_of_le hpl' hs1) id).trans p11; clear hb2 hk2))
  go_wp2
  go_ret
  refine ⟨_, _, _, rfl, HB2.out, ?_, HD1.out.kept HK2.out (fun _ _ hf => hf), ?_⟩
  · omega
  · exact ((((HK0.out.mono (fun _ hf => hf.elim)).trans (Kept.drew (fun _ => False) W) (fun _ hf => hf.elim))).trans HK1.out (fun _ h => .inl h)).trans HK2.out (fun _ hf => hf.elim)
end Go.Proofs.YtcoengihaobddaaGreatDoor.prog
namespace Go.Proofs.YtcoengihaobddaaGreatDoor.prog
open Go.ChangeShapes Go.WideShapes Go.ChangeAt Go.RowKit Go.Proofs.YtcoengihaobddaaGreatDoor.disk Go.Proofs.YtcoengihaobddaaGreatDoor.ref
open Go.Proofs.YtcoengihaobddaaGreatDoor.keys (ret_int ret_bool beq_no beq_yes)
set_option linter.unusedVariables false
set_option maxRecDepth 8000
attribute [local go_sem] Oper.semAt_some

/-- An entry, or none. -/
def optE : Option En → List Value
  | some x => enV x
  | none => zeroE
structure FirstI (w1 : World) (bd : Nat) (S : Nat → Prop) (D : Dk) (r : Int) (pre : List En) (Q : Nat → Prop) (A : World) : Prop where
  pre : pre = []
  q : ∀ k, ¬ Q k
  disk : Disk A bd S { D with reads := r }
  kept : Kept (fun k => k = bd ∨ w1.heap.size ≤ k) w1 A
  rd : D.reads + 1 ≤ r
structure FirstX (w1 : World) (bd : Nat) (S : Nat → Prop) (D : Dk) (b4 b5 : Nat) (o : Option En) (c : Code) (r : Int) (A : World) : Prop where
  c : c = .ret
  is : ∃ x, o = some x ∧ A.heap[b4]? = some (.cells (enV x).toArray 109 (0, 0)) ∧ A.heap[b5]? = some (.cells #[.bool true] 4 (0, 0))
  disk : Disk A bd S { D with reads := r }
  kept : Kept (fun k => k = bd ∨ k = b4 ∨ k = b5 ∨ w1.heap.size ≤ k) w1 A
  rd : D.reads + 1 ≤ r ∧ r ≤ D.reads + 14
theorem FirstI.by {w1 : World} {bd : Nat} {S : Nat → Prop} {D : Dk} {r r' : Int} {pre : List En} {Q Z : Nat → Prop} {A B : World} (h : FirstI w1 bd S D r pre Q A) (hk : Kept Z A B) (hZ : ∀ k, Z k → k = bd ∨ w1.heap.size ≤ k) (hd : Disk B bd S { D with reads := r' }) (hr : r ≤ r') : FirstI w1 bd S D r' pre Q B :=
  ⟨h.pre, h.q, hd, h.kept.trans hk (fun i hi => .inl (hZ i hi)), Int.le_trans h.rd hr⟩
theorem results_row_cell {P : Program} {fn : Func} {p u : Tmp} {ty tb : TypeId} (h : fn.results = #[.cell p ty, .cell u tb]) (tmps : Array Value) (w : World) (g gb : Nat) (t t2 : TypeId) (cs : Array Value) (fr f2 : Nat × Nat) (d d2 : TypeDesc) (v : Value)
    (hp : tmps.getD p undef = .pointer (some ⟨g, 0, none⟩)) (hg : w.heap[g]? = some (.cells cs t fr))
    (hu : P.underlying ty = some d) (hd : (match d with | .struct _ | .array _ _ => true | _ => false) = true) (hi : (P.info? ty).map (·.size) = some cs.size)
    (hp2 : tmps.getD u undef = .pointer (some ⟨gb, 0, none⟩)) (hv : (loadVar tb ⟨gb, 0, none⟩).run P w = .ok v w) :
    (results fn tmps).run P w = .ok (.tuple #[.agg cs, v]) w := by
  have hp' : tmps[p]?.getD undef = .pointer (some ⟨g, 0, none⟩) := by simpa using hp
  have hp2' : tmps[u]?.getD undef = .pointer (some ⟨gb, 0, none⟩) := by simpa using hp2
  simp [results, h, hp', hp2', asAddr, run_loadVar_row w g t ty cs fr d hg hu hd hi, hv]
theorem run_loadVar_bool (w : World) (g : Nat) (b : Bool) (h : w.heap[g]? = some (.cells #[.bool b] 4 (0, 0))) : (loadVar 4 ⟨g, 0, none⟩).run Tryz.prog w = .ok (.bool b) w := by
  have hc : w.cell? ⟨g, 0, none⟩ = some (.bool b) := by rw [cell_of_row w g 0 _ _ _ h]; rfl
  simp [loadVar, isAgg, go_sem, hc]
/-- The end of first. -/
theorem first_end (w w1 A : World) (bs bd : Nat) (S : Nat → Prop) (D : Dk) (o : Option En) (r : Int) (a : Act) (hbd : bd < w.heap.size) (hsz : w.heap.size + 3 ≤ w1.heap.size) (HKW : Kept (fun i => i = bd) w w1)
    (h4 : A.heap[w.heap.size + 1]? = some (.cells (optE o).toArray 109 (0, 0))) (h5 : A.heap[w.heap.size + 2]? = some (.cells #[.bool o.isSome] 4 (0, 0))) (hd : Disk A bd S { D with reads := r }) (hS : ∀ j, S j → j < w.heap.size) (hk : Kept (fun k => k = bd ∨ k = w.heap.size + 1 ∨ k = w.heap.size + 2 ∨ w1.heap.size ≤ k) w1 A) (hr : D.reads ≤ r ∧ r ≤ D.reads + 14) (hK : A.heap[w1.heap.size]? = some (.deferred (some [])))
    (ha : a.defers = [{ target := .collected w1.heap.size, args := #[] }]) (t4 : a.tmps.getD 4 undef = .pointer (some ⟨w.heap.size + 1, 0, none⟩)) (t5 : a.tmps.getD 5 undef = .pointer (some ⟨w.heap.size + 2, 0, none⟩)) :
    postM Tryz.prog Tryz.f66 (fun e w' => e = .returned (.tuple #[.agg (optE o).toArray, .bool o.isSome]) ∧ (∃ r : Int, D.reads ≤ r ∧ r ≤ D.reads + 14 ∧ Disk w' bd S { D with reads := r }) ∧ Kept (fun i => i = bd) w w') .ret a A := by
  have kp : Kept (fun k => k = w1.heap.size) A (A.putObj w1.heap.size (.deferred none)) := Kept.putObj _ _ _ rfl
  have h4' := (kp.block _ (Array.getElem?_eq_some_iff.1 h4).1 (by omega)).trans h4
  have h5' := (kp.block _ (Array.getElem?_eq_some_iff.1 h5).1 (by omega)).trans h5
  have hlen : (optE o).toArray.size = 5 := by cases o <;> rfl
  refine postM_ret ha hK (results_row_cell Tryz.results66 _ _ (w.heap.size + 1) (w.heap.size + 2) 109 4 _ (0, 0) (0, 0) _ (.int .i64) _ t4 h4' Tryz.underlying109 rfl (by rw [hlen]; kernel_rfl) t5 (run_loadVar_bool _ _ _ h5')) ⟨rfl, ⟨r, hr.1, hr.2, hd.kept kp (fun j hj e => by have := hS j hj; omega)⟩, ?_⟩
  exact (HKW.trans hk (fun j hj => by rcases hj with h | h | h | h; exact .inl h; exact .inr (by omega); exact .inr (by omega); exact .inr (by omega))).trans kp (fun j hj => .inr (by omega))
set_option maxHeartbeats 4000000 in
theorem first_any (w : World) (bs bd : Nat) (S : Nat → Prop) (D : Dk) (k : Int) (hs : StoAt w bs k (some bd)) (hd : Disk w bd S D) (hn : ¬ S bs) (hr0 : 0 ≤ D.reads) (hr1 : D.reads ≤ 4611686018427360000) (tree n : Nat) (hb : IsRoot (D.look 1) tree n) (p : Pl) (es : List En) (bl : List Nat) (hF : Forest (fun j => D.look (j : Nat)) tree es bl) (hbl : bl.length ≤ 979) (hbs : ∀ j ∈ bl, 21 ≤ j) :
    Calls Tryz.prog 66 #[.pointer (some ⟨bs, 0, none⟩), .agg #[.string p.key, .int .i64 p.num]] w fun e w' => e = .returned (.tuple #[.agg (optE (onE p es).head?).toArray, .bool (onE p es).head?.isSome]) ∧ (∃ r : Int, D.reads ≤ r ∧ r ≤ D.reads + 14 ∧ Disk w' bd S { D with reads := r }) ∧ Kept (fun i => i = bd) w w' := by
  have HS : Hid _ := hs
  have HD : Hid (Disk w bd S D) := hd
  have HB : Hid _ := hb
  have HF : Hid (Forest (fun j => D.look (j : Nat)) tree es bl) := hF
  have HBS : Hid (∀ j ∈ bl, 21 ≤ j) := hbs
  have hbs := hs.lt
  have hbd : bd < w.heap.size := hd.lt bd hd.bdS
  have HSL : Hid (∀ j, S j → j < w.heap.size) := hd.lt
  clear hs hd hb hF hbs
  refine calls_of_marks Tryz.func66 rfl ?_
  simp only [Tryz.ntmps66, List.size_toArray, List.length_cons, List.length_nil, Nat.reduceAdd, Nat.reduceSub, Array.replicate_succ, Array.replicate_zero, List.push_toArray, List.append_toArray, List.nil_append, List.cons_append]
  go_wp2_with fail
  obtain ⟨n1, n2, n3, k3, s3⟩ := three_new w (.cells #[.string p.key, .int .i64 p.num] 107) (.cells #[.string ⟨#[]⟩, .int .i64 0, .bool false, .int .i64 0, .int .i64 0] 109) (.cells #[.bool false] 4)
  have HN2 : Hid _ := n2
  have HN3 : Hid _ := n3
  have HK3 : Hid _ := k3
  clear n1 n2 n3 k3
  generalize (((w.alloc (.cells #[.string p.key, .int .i64 p.num] 107)).alloc (.cells #[.string ⟨#[]⟩, .int .i64 0, .bool false, .int .i64 0, .int .i64 0] 109)).alloc (.cells #[.bool false] 4)) = W at *
  refine (versions_any W bs bd S D k (HS.out.kept HK3.out id) (HD.out.kept HK3.out (fun _ _ hf => hf)) hn hr0 (by omega) tree n HB.out p).mono ?_
  rintro e w1 ⟨b1, b2, b3, rfl, hbox, hbb, hd1, hk1⟩
  have HBX : Hid _ := hbox
  have HD1 : Hid (Disk w1 bd S { D with reads := D.reads + 1 }) := hd1
  have HK1 : Hid (Kept (fun i => i = bd) W w1) := hk1
  have hsz1 := hk1.size
  have HE4 : Hid (w1.heap[w.heap.size + 1]? = _) := (hk1.block _ (by omega) (by omega)).trans HN2.out
  have HE5 : Hid (w1.heap[w.heap.size + 2]? = _) := (hk1.block _ (by omega) (by omega)).trans HN3.out
  clear hbox hd1 hk1
  go_wp2_with fail
  have HS1 : Hid (∀ j, S j → j < w1.heap.size) := HD1.out.lt
  have HKW1 : Hid (Kept (fun i => i = bd) w w1) := (HK3.out.mono (fun _ hf => hf.elim)).trans HK1.out (fun _ h => .inl h)
  refine wp_range (α := En) (gf := 190) (lb := #[.pointer (some ⟨b1, 0, none⟩), .pointer (some ⟨b2, 0, none⟩), .pointer (some ⟨b3, 0, none⟩)]) rfl (enters_of Tryz.func190 (by kernel_rfl) rfl)
    (fun W1 hk hsz => seq_walk W1 bd S D b1 b2 b3 tree p (HBX.out.kept hk id id id) es bl HF.out hbl HBS.out (by omega) (D.reads + 1) (by omega) (by omega))
    (fun k hk => by rw [hk]; omega) (fun _ => rfl)
    (FirstI w1 bd S D) (fun c r pre A => FirstX w1 bd S D (w.heap.size + 1) (w.heap.size + 2) (onE p es).head? c r A)
    (fun r pre Q A h => ⟨h.disk, fun k hk => (h.q k hk).elim⟩)
    (fun r r' pre Q A B h hr hk hi => h.by hk (fun k hk => .inl hk) hi hr)
    (fun r pre Q A B h hk => h.by hk (fun k hk => .inr (by omega)) (h.disk.kept hk (fun j hj hc => by have := HS1.out j hj; omega)) (Int.le_refl _))
    (fun c r pre A B h hk => ⟨h.c, by
        obtain ⟨x, h1, h2, h3⟩ := h.is
        exact ⟨x, h1, (hk.block _ (Array.getElem?_eq_some_iff.1 h2).1 (by omega)).trans h2, (hk.block _ (Array.getElem?_eq_some_iff.1 h3).1 (by omega)).trans h3⟩, h.disk.kept hk (fun j hj hc => by have := HS1.out j hj; omega), h.kept.trans hk (fun i hi => .inl (.inr (.inr (.inr (by omega))))), h.rd⟩)
    ⟨rfl, fun _ h => h, HD1.out, Kept.refl _ _, Int.le_refl _⟩
    (fun x a' A => ∃ b6, w1.heap.size + 1 < b6 ∧ A.heap[b6]? = some (.cells (enV x).toArray 109 (0, 0)) ∧ a' = { tmps := #[.pointer (some ⟨bs, 0, none⟩), .agg #[.string p.key, .int .i64 p.num], undef, .pointer (some ⟨w.heap.size, 0, none⟩), .pointer (some ⟨w.heap.size + 1, 0, none⟩), .pointer (some ⟨w.heap.size + 1 + 1, 0, none⟩), .pointer (some ⟨b6, 0, none⟩), .pointer (some ⟨bs, 0, none⟩), .agg #[.string p.key, .int .i64 p.num], .func (.func 190) #[] #[.pointer (some ⟨b1, 0, none⟩), .pointer (some ⟨b2, 0, none⟩), .pointer (some ⟨b3, 0, none⟩)], .agg (enV x).toArray, undef, undef], defers := [] })
    (fun x a A B h hk => by
      obtain ⟨b6, h1, h2, h3⟩ := h
      exact ⟨b6, h1, (hk.block _ (Array.getElem?_eq_some_iff.1 h2).1 (by omega)).trans h2, h3⟩)
    (fun r pre x A B h _ => h) ?assign ?body ?done ?stop
  case assign =>
    intro l r pre x Q A K hi hh hlt hK
    dsimp only [enV]
    gi_wp2
    exact hK _ _ (Kept.alloc _ _ _) (hi.by (Kept.alloc (fun _ => False) _ _) (fun _ h => h.elim) (hi.disk.kept (Kept.alloc (fun _ => False) _ _) (fun _ _ hf => hf)) (Int.le_refl _)) hh ⟨A.heap.size, by omega, heap_alloc_new A _, rfl⟩
  case body =>
    rintro l r pre x Q a' A hi hh ⟨b6, hb6, hbx, rfl⟩ hlt
    have HI : Hid _ := hi
    have HH : Hid _ := hh
    have HX : Hid _ := hbx
    have HA4 : Hid (A.heap[w.heap.size + 1]? = _) := (hi.kept.block _ (by omega) (by omega)).trans HE4.out
    have HA5 : Hid (A.heap[w.heap.size + 2]? = _) := (hi.kept.block _ (by omega) (by omega)).trans HE5.out
    have HPX : Hid ((onE p es).head? = some x) := by
      have h1 := hh.pre
      rw [hi.pre] at h1
      obtain ⟨z, hz⟩ := h1
      show (onE p es).head? = some x
      rw [← hz]; rfl
    clear hi hh hbx
    have x0 : A.cell? ⟨b6, 0, none⟩ = some (.string x.pl.key) := by rw [cell_of_row A _ 0 _ _ _ HX.out]; rfl
    have x1 : A.cell? ⟨b6, 1, none⟩ = some (.int .i64 x.pl.num) := by rw [cell_of_row A _ 1 _ _ _ HX.out]; rfl
    have x2 : A.cell? ⟨b6, 2, none⟩ = some (.bool x.mark) := by rw [cell_of_row A _ 2 _ _ _ HX.out]; rfl
    have x3 : A.cell? ⟨b6, 3, none⟩ = some (.int .i64 (x.size : Int)) := by rw [cell_of_row A _ 3 _ _ _ HX.out]; rfl
    have x4 : A.cell? ⟨b6, 4, none⟩ = some (.int .i64 (x.at_ : Int)) := by rw [cell_of_row A _ 4 _ _ _ HX.out]; rfl
    have q0 : A.cell? ⟨w.heap.size + 1, 0, none⟩ = some (.string ⟨#[]⟩) := by rw [cell_of_row A _ 0 _ _ _ HA4.out]; rfl
    have q1 : A.cell? ⟨w.heap.size + 1, 1, none⟩ = some (.int .i64 0) := by rw [cell_of_row A _ 1 _ _ _ HA4.out]; rfl
    have q2 : A.cell? ⟨w.heap.size + 1, 2, none⟩ = some (.bool false) := by rw [cell_of_row A _ 2 _ _ _ HA4.out]; rfl
    have q3 : A.cell? ⟨w.heap.size + 1, 3, none⟩ = some (.int .i64 0) := by rw [cell_of_row A _ 3 _ _ _ HA4.out]; rfl
    have q4 : A.cell? ⟨w.heap.size + 1, 4, none⟩ = some (.int .i64 0) := by rw [cell_of_row A _ 4 _ _ _ HA4.out]; rfl
    have f0 := frozen_of_row A (w.heap.size + 1) 0 _ _ HA4.out
    have f1 := frozen_of_row A (w.heap.size + 1) 1 _ _ HA4.out
    have f2 := frozen_of_row A (w.heap.size + 1) 2 _ _ HA4.out
    have f3 := frozen_of_row A (w.heap.size + 1) 3 _ _ HA4.out
    have f4 := frozen_of_row A (w.heap.size + 1) 4 _ _ HA4.out
    have q5 : A.cell? ⟨w.heap.size + 1 + 1, 0, none⟩ = some (.bool false) := by rw [cell_of_row A _ 0 _ _ _ HA5.out]; rfl
    have f5 : A.frozen? ⟨w.heap.size + 1 + 1, 0, none⟩ = false := frozen_of_row A (w.heap.size + 2) 0 _ _ HA5.out
    dsimp only [enV]
    gi_wp2
    obtain ⟨hh4, kS⟩ := set5 A (w.heap.size + 1) 109 _ _ _ _ _ (.string x.pl.key) (.int .i64 x.pl.num) (.bool x.mark) (.int .i64 (x.size : Int)) (.int .i64 (x.at_ : Int)) HA4.out
    have hb5 := (kS.block (w.heap.size + 2) (by omega) (by omega)).trans HA5.out
    have kS2 := Kept.setCell (S := fun j => j = w.heap.size + 2) (((((A.setCell ⟨w.heap.size + 1, 0, none⟩ (.string x.pl.key)).setCell ⟨w.heap.size + 1, 1, none⟩ (.int .i64 x.pl.num)).setCell ⟨w.heap.size + 1, 2, none⟩ (.bool x.mark)).setCell ⟨w.heap.size + 1, 3, none⟩ (.int .i64 (x.size : Int))).setCell ⟨w.heap.size + 1, 4, none⟩ (.int .i64 (x.at_ : Int))) ⟨w.heap.size + 2, 0, none⟩ (.bool true) rfl
    have kAll := (kS.mono (S' := fun j => j = w.heap.size + 1 ∨ j = w.heap.size + 2) (fun _ h => .inl h)).trans kS2 (fun _ h => .inl (.inr h))
    refine ⟨kAll.mono (fun j hj => .inl (by omega)), rfl, ⟨x, HPX.out, ?_, ?_⟩, HI.out.disk.kept kAll (fun j hj hc => by have := HSL.out j hj; omega), (HI.out.kept.mono (S' := fun k => k = bd ∨ k = w.heap.size + 1 ∨ k = w.heap.size + 2 ∨ w1.heap.size ≤ k) (fun j hj => by omega)).trans kAll (fun j hj => .inl (by omega)), HI.out.rd, ?_⟩
    · exact (kS2.block _ (by simp [World.setCell]; omega) (by omega)).trans hh4
    · exact heap_setCell_same _ (w.heap.size + 2) 0 _ _ _ hb5
    · have := HH.out.first HI.out.pre
      omega
  case done =>
    rintro DD r xs Q A hS hi rfl hK
    have hxs : onE p es = [] := by rw [← hS.1]; exact hi.pre
    have HX : Hid (onE p es = []) := hxs
    have HI : Hid _ := hi
    have hrr := hS.2.2 hi.pre
    have HK : Hid (A.heap[w1.heap.size]? = some (.deferred (some []))) := hK
    have HA4 : Hid (A.heap[w.heap.size + 1]? = _) := (hi.kept.block _ (by omega) (by omega)).trans HE4.out
    have HA5 : Hid (A.heap[w.heap.size + 2]? = _) := (hi.kept.block _ (by omega) (by omega)).trans HE5.out
    have hszA := hi.kept.size
    clear hxs hi hS hK
    have q0 : A.cell? ⟨w.heap.size + 1, 0, none⟩ = some (.string ⟨#[]⟩) := by rw [cell_of_row A _ 0 _ _ _ HA4.out]; rfl
    have q1 : A.cell? ⟨w.heap.size + 1, 1, none⟩ = some (.int .i64 0) := by rw [cell_of_row A _ 1 _ _ _ HA4.out]; rfl
    have q2 : A.cell? ⟨w.heap.size + 1, 2, none⟩ = some (.bool false) := by rw [cell_of_row A _ 2 _ _ _ HA4.out]; rfl
    have q3 : A.cell? ⟨w.heap.size + 1, 3, none⟩ = some (.int .i64 0) := by rw [cell_of_row A _ 3 _ _ _ HA4.out]; rfl
    have q4 : A.cell? ⟨w.heap.size + 1, 4, none⟩ = some (.int .i64 0) := by rw [cell_of_row A _ 4 _ _ _ HA4.out]; rfl
    have f0 := frozen_of_row A (w.heap.size + 1) 0 _ _ HA4.out
    have f1 := frozen_of_row A (w.heap.size + 1) 1 _ _ HA4.out
    have f2 := frozen_of_row A (w.heap.size + 1) 2 _ _ HA4.out
    have f3 := frozen_of_row A (w.heap.size + 1) 3 _ _ HA4.out
    have f4 := frozen_of_row A (w.heap.size + 1) 4 _ _ HA4.out
    have q5 : A.cell? ⟨w.heap.size + 1 + 1, 0, none⟩ = some (.bool false) := by rw [cell_of_row A _ 0 _ _ _ HA5.out]; rfl
    have f5 : A.frozen? ⟨w.heap.size + 1 + 1, 0, none⟩ = false := frozen_of_row A (w.heap.size + 2) 0 _ _ HA5.out
    dsimp only
    go_wp2
    obtain ⟨hh4, kS⟩ := set5 A (w.heap.size + 1) 109 _ _ _ _ _ (.string ⟨#[]⟩) (.int .i64 0) (.bool false) (.int .i64 0) (.int .i64 0) HA4.out
    have hb5 := (kS.block (w.heap.size + 2) (by omega) (by omega)).trans HA5.out
    have kS2 := Kept.setCell (S := fun j => j = w.heap.size + 2) (((((A.setCell ⟨w.heap.size + 1, 0, none⟩ (.string ⟨#[]⟩)).setCell ⟨w.heap.size + 1, 1, none⟩ (.int .i64 0)).setCell ⟨w.heap.size + 1, 2, none⟩ (.bool false)).setCell ⟨w.heap.size + 1, 3, none⟩ (.int .i64 0)).setCell ⟨w.heap.size + 1, 4, none⟩ (.int .i64 0)) ⟨w.heap.size + 2, 0, none⟩ (.bool false) rfl
    have kAll := (kS.mono (S' := fun j => j = w.heap.size + 1 ∨ j = w.heap.size + 2) (fun _ h => .inl h)).trans kS2 (fun _ h => .inl (.inr h))
    rw [HX.out]
    refine first_end w w1 _ bs bd S D none r _ hbd (by omega) HKW1.out ?_ ?_ (HI.out.disk.kept kAll (fun j hj hc => by have := HSL.out j hj; omega)) HSL.out ((HI.out.kept.mono (S' := fun k => k = bd ∨ k = w.heap.size + 1 ∨ k = w.heap.size + 2 ∨ w1.heap.size ≤ k) (fun j hj => by omega)).trans kAll (fun j hj => .inl (by omega))) ⟨by have := HI.out.rd; omega, by omega⟩ ((kAll.block _ (Array.getElem?_eq_some_iff.1 HK.out).1 (by omega)).trans HK.out) rfl rfl rfl
    · exact (kS2.block _ (by simp [World.setCell]; omega) (by omega)).trans hh4
    · exact heap_setCell_same _ (w.heap.size + 2) 0 _ _ _ hb5
  case stop =>
    rintro DD c r pre A hS hi rfl hK
    obtain ⟨rfl, ⟨x, hx, h4, h5⟩, hd, hk, hr⟩ := hi
    have HX : Hid ((onE p es).head? = some x) := hx
    have H4 : Hid (A.heap[w.heap.size + 1]? = some (.cells (enV x).toArray 109 (0, 0))) := h4
    have H5 : Hid (A.heap[w.heap.size + 2]? = some (.cells #[.bool true] 4 (0, 0))) := h5
    have HDA : Hid (Disk A bd S { D with reads := r }) := hd
    have HKA : Hid (Kept (fun k => k = bd ∨ k = w.heap.size + 1 ∨ k = w.heap.size + 2 ∨ w1.heap.size ≤ k) w1 A) := hk
    have HK : Hid (A.heap[w1.heap.size]? = some (.deferred (some []))) := hK
    clear hx h4 h5 hd hk hK hS
    dsimp only
    go_wp2
    rw [HX.out]
    exact first_end w w1 A bs bd S D (some x) r _ hbd (by omega) HKW1.out H4.out H5.out HDA.out HSL.out HKA.out ⟨by omega, by omega⟩ HK.out rfl rfl rfl
end Go.Proofs.YtcoengihaobddaaGreatDoor.prog
namespace Go.Proofs.YtcoengihaobddaaGreatDoor.prog
open Go.ChangeShapes Go.WideShapes Go.ChangeAt Go.RowKit Go.Proofs.YtcoengihaobddaaGreatDoor.disk Go.Proofs.YtcoengihaobddaaGreatDoor.ref
open Go.Proofs.YtcoengihaobddaaGreatDoor.keys (ret_int ret_bool beq_no beq_yes)
set_option linter.unusedVariables false
set_option maxRecDepth 8000

/-- Is this the newest version of a key, and no marker? -/
def newB (key : ByteArray) : Option En → Bool
  | some x => decide (x.pl.key = key) && !x.mark
  | none => false
set_option maxHeartbeats 12000000 in
theorem newest_any (w : World) (bs bd : Nat) (S : Nat → Prop) (D : Dk) (k : Int) (hs : StoAt w bs k (some bd)) (hd : Disk w bd S D) (hn : ¬ S bs) (hr0 : 0 ≤ D.reads) (hr1 : D.reads ≤ 4611686018427360000) (tree n : Nat) (hb : IsRoot (D.look 1) tree n) (key : ByteArray) (es : List En) (bl : List Nat) (hF : Forest (fun j => D.look (j : Nat)) tree es bl) (hbl : bl.length ≤ 979) (hbs : ∀ j ∈ bl, 21 ≤ j) (o : Option En) (ho : (onE ⟨key, 9223372036854775807⟩ es).head? = o) :
    Calls Tryz.prog 50 #[.pointer (some ⟨bs, 0, none⟩), .string key] w fun e w' => e = .returned (.tuple #[.agg (optE o).toArray, .bool (newB key o)]) ∧ (∃ r : Int, D.reads ≤ r ∧ r ≤ D.reads + 14 ∧ Disk w' bd S { D with reads := r }) ∧ Kept (fun i => i = bd) w w' := by
  have hbd : bd < w.heap.size := hd.lt bd hd.bdS
  have HSL : Hid (∀ j, S j → j < w.heap.size) := hd.lt
  have HK0 : Hid (Kept (fun _ => False) w (w.alloc (.cells #[.string ⟨#[]⟩, .int .i64 0, .bool false, .int .i64 0, .int .i64 0] 109))) := Kept.alloc _ _ _
  have HB0 : Hid ((w.alloc (.cells #[.string ⟨#[]⟩, .int .i64 0, .bool false, .int .i64 0, .int .i64 0] 109)).heap[w.heap.size]? = some (.cells #[.string ⟨#[]⟩, .int .i64 0, .bool false, .int .i64 0, .int .i64 0] 109 (0, 0))) := heap_alloc_new w _
  have hs0 : (w.alloc (.cells #[.string ⟨#[]⟩, .int .i64 0, .bool false, .int .i64 0, .int .i64 0] 109)).heap.size = w.heap.size + 1 := by simp
  have HC : Hid (Calls Tryz.prog 66 #[.pointer (some ⟨bs, 0, none⟩), .agg #[.string key, .int .i64 9223372036854775807]] (w.alloc (.cells #[.string ⟨#[]⟩, .int .i64 0, .bool false, .int .i64 0, .int .i64 0] 109)) fun e w' => e = .returned (.tuple #[.agg (optE o).toArray, .bool o.isSome]) ∧ (∃ r : Int, D.reads ≤ r ∧ r ≤ D.reads + 14 ∧ Disk w' bd S { D with reads := r }) ∧ Kept (fun i => i = bd) (w.alloc (.cells #[.string ⟨#[]⟩, .int .i64 0, .bool false, .int .i64 0, .int .i64 0] 109)) w') := by
    have := first_any (w.alloc (.cells #[.string ⟨#[]⟩, .int .i64 0, .bool false, .int .i64 0, .int .i64 0] 109)) bs bd S D k (hs.kept HK0.out id) (hd.kept HK0.out (fun _ _ hf => hf)) hn hr0 hr1 tree n hb ⟨key, 9223372036854775807⟩ es bl hF hbl hbs
    rw [ho] at this
    exact this
  clear hs hd hb hF hbs ho
  generalize hW0 : (w.alloc (.cells #[.string ⟨#[]⟩, .int .i64 0, .bool false, .int .i64 0, .int .i64 0] 109)) = W0 at *
  go_enter Tryz.func50, Tryz.ntmps50
  go_wp2_with fail
  clear hW0
  refine HC.out.mono ?_
  rintro e w1 ⟨rfl, ⟨r1, hra, hrb, hd1⟩, hk1⟩
  have HD1 : Hid (Disk w1 bd S { D with reads := r1 }) := hd1
  have HK1 : Hid (Kept (fun i => i = bd) W0 w1) := hk1
  have hsz1 := hk1.size
  have HB1 : Hid (w1.heap[w.heap.size]? = _) := (hk1.block _ (by omega) (by omega)).trans HB0.out
  clear hd1 hk1 HC
  obtain ⟨v0, v1, v2, v3, v4, hv, hvn⟩ : ∃ (v0 : ByteArray) (v1 : Int) (v2 : Bool) (v3 v4 : Int), optE o = [.string v0, .int .i64 v1, .bool v2, .int .i64 v3, .int .i64 v4] ∧ newB key o = (o.isSome && (decide (v0 = key) && !v2)) := by
    cases o with
    | none => exact ⟨_, _, _, _, _, rfl, rfl⟩
    | some x => exact ⟨_, _, _, _, _, rfl, rfl⟩
  have HV : Hid (optE o = [.string v0, .int .i64 v1, .bool v2, .int .i64 v3, .int .i64 v4]) := hv
  have HVN : Hid (newB key o = (o.isSome && (decide (v0 = key) && !v2))) := hvn
  rw [hv]
  clear hv hvn
  generalize hf : o.isSome = f at *
  have HB2 : Hid ((w1.alloc (.cells #[.string v0, .int .i64 v1, .bool v2, .int .i64 v3, .int .i64 v4] 109)).heap[w1.heap.size]? = some (.cells #[.string v0, .int .i64 v1, .bool v2, .int .i64 v3, .int .i64 v4] 109 (0, 0))) := heap_alloc_new w1 _
  have HK2 : Hid (Kept (fun _ => False) w1 (w1.alloc (.cells #[.string v0, .int .i64 v1, .bool v2, .int .i64 v3, .int .i64 v4] 109))) := Kept.alloc _ _ _
  have hs2 : (w1.alloc (.cells #[.string v0, .int .i64 v1, .bool v2, .int .i64 v3, .int .i64 v4] 109)).heap.size = w1.heap.size + 1 := by simp
  go_wp2_with fail
  generalize (w1.alloc (.cells #[.string v0, .int .i64 v1, .bool v2, .int .i64 v3, .int .i64 v4] 109)) = W2 at *
  have HB3 : Hid (W2.heap[w.heap.size]? = _) := (HK2.out.block _ (by omega) id).trans HB1.out
  have x0 : W2.cell? ⟨w1.heap.size, 0, none⟩ = some (.string v0) := by rw [cell_of_row W2 _ 0 _ _ _ HB2.out]; rfl
  have x1 : W2.cell? ⟨w1.heap.size, 1, none⟩ = some (.int .i64 v1) := by rw [cell_of_row W2 _ 1 _ _ _ HB2.out]; rfl
  have x2 : W2.cell? ⟨w1.heap.size, 2, none⟩ = some (.bool v2) := by rw [cell_of_row W2 _ 2 _ _ _ HB2.out]; rfl
  have x3 : W2.cell? ⟨w1.heap.size, 3, none⟩ = some (.int .i64 v3) := by rw [cell_of_row W2 _ 3 _ _ _ HB2.out]; rfl
  have x4 : W2.cell? ⟨w1.heap.size, 4, none⟩ = some (.int .i64 v4) := by rw [cell_of_row W2 _ 4 _ _ _ HB2.out]; rfl
  have q0 : W2.cell? ⟨w.heap.size, 0, none⟩ = some (.string ⟨#[]⟩) := by rw [cell_of_row W2 _ 0 _ _ _ HB3.out]; rfl
  have q1 : W2.cell? ⟨w.heap.size, 1, none⟩ = some (.int .i64 0) := by rw [cell_of_row W2 _ 1 _ _ _ HB3.out]; rfl
  have q2 : W2.cell? ⟨w.heap.size, 2, none⟩ = some (.bool false) := by rw [cell_of_row W2 _ 2 _ _ _ HB3.out]; rfl
  have q3 : W2.cell? ⟨w.heap.size, 3, none⟩ = some (.int .i64 0) := by rw [cell_of_row W2 _ 3 _ _ _ HB3.out]; rfl
  have q4 : W2.cell? ⟨w.heap.size, 4, none⟩ = some (.int .i64 0) := by rw [cell_of_row W2 _ 4 _ _ _ HB3.out]; rfl
  have f0 := frozen_of_row W2 w.heap.size 0 _ _ HB3.out
  have f1 := frozen_of_row W2 w.heap.size 1 _ _ HB3.out
  have f2 := frozen_of_row W2 w.heap.size 2 _ _ HB3.out
  have f3 := frozen_of_row W2 w.heap.size 3 _ _ HB3.out
  have f4 := frozen_of_row W2 w.heap.size 4 _ _ HB3.out
  have hne : ¬ w.heap.size = w1.heap.size := by omega
  have hne' : ¬ w1.heap.size = w.heap.size := by omega
  have fin : ∀ (W3 : World), W3 = (((((W2.drew.setCell ⟨w.heap.size, 0, none⟩ (.string v0)).setCell ⟨w.heap.size, 1, none⟩ (.int .i64 v1)).setCell ⟨w.heap.size, 2, none⟩ (.bool v2)).setCell ⟨w.heap.size, 3, none⟩ (.int .i64 v3)).setCell ⟨w.heap.size, 4, none⟩ (.int .i64 v4)) → ∀ (a : Act) (b : Bool), a.defers = [] → a.tmps.getD 4 undef = .pointer (some ⟨w.heap.size, 0, none⟩) → a.tmps.getD 5 undef = .bool b → newB key o = b →
      bodyPost Tryz.prog Tryz.f50 (fun e w' => e = .returned (.tuple #[.agg (optE o).toArray, .bool (newB key o)]) ∧ (∃ r : Int, D.reads ≤ r ∧ r ≤ D.reads + 14 ∧ Disk w' bd S { D with reads := r }) ∧ Kept (fun i => i = bd) w w') .ret a W3 := by
    rintro W3 rfl a b hd h4 h5 hb
    obtain ⟨hh, kS⟩ := set5 W2.drew w.heap.size 109 _ _ _ _ _ (.string v0) (.int .i64 v1) (.bool v2) (.int .i64 v3) (.int .i64 v4) (((Kept.drew (fun _ => False) W2).block _ (by omega) id).trans HB3.out)
    refine bodyPost_ret (v := .tuple #[.agg (optE o).toArray, .bool (newB key o)]) ?_ hd ⟨rfl, ⟨r1, hra, hrb, ?_⟩, ?_⟩
    · have := results_row_tmp Tryz.results50 a.tmps _ w.heap.size 109 _ (0, 0) _ h4 hh Tryz.underlying109 rfl (by kernel_rfl)
      rw [h5] at this
      rw [HV.out, hb]
      exact this
    · exact ((HD1.out.kept HK2.out (fun _ _ hf => hf)).kept (Kept.drew (fun _ => False) W2) (fun _ _ hf => hf)).kept kS (fun j hj e => by have := HSL.out j hj; omega)
    · exact (((((HK0.out.mono (fun _ hf => hf.elim)).trans HK1.out (fun _ h => .inl h)).trans HK2.out (fun _ hf => hf.elim)).trans (Kept.drew (fun _ => False) W2) (fun _ hf => hf.elim))).trans kS (fun j hj => .inr (by omega))
  have FIN : Hid _ := fin
  clear fin
  cases f with
  | false =>
    go_region
    all_goals
      go_wp2
      exact FIN.out _ rfl _ false rfl rfl rfl (by rw [HVN.out]; rfl)
  | true =>
    by_cases hk : v0.toList = key.toList
    · have HK : Hid (v0 = key) := key_inj.1 hk
      have hkb : (v0.toList == key.toList) = true := by simp [hk]
      clear hk
      go_region_held3 (fun w' => w'.cell? ⟨w1.heap.size, 0, none⟩ = some (.string v0) ∧ w'.cell? ⟨w1.heap.size, 1, none⟩ = some (.int .i64 v1) ∧ w'.cell? ⟨w1.heap.size, 2, none⟩ = some (.bool v2) ∧ w'.cell? ⟨w1.heap.size, 3, none⟩ = some (.int .i64 v3) ∧ w'.cell? ⟨w1.heap.size, 4, none⟩ = some (.int .i64 v4)) (go_keep) (fail)
      all_goals
        go_wp2
        exact FIN.out _ rfl _ (!v2) rfl rfl rfl (by rw [HVN.out, HK.out]; simp)
    · have HK : Hid (¬ v0 = key) := mt key_inj.2 hk
      have hkb : (v0.toList == key.toList) = false := by simpa using hk
      clear hk
      go_region
      all_goals
        go_wp2
        exact FIN.out _ rfl _ false rfl rfl rfl (by rw [HVN.out]; simp [HK.out])
end Go.Proofs.YtcoengihaobddaaGreatDoor.prog

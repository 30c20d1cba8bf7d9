/- Part 28 of 39 of a proof: Ins11, Rng1, Rng2, Rng3 -/
import Derived.Test.YtcoengihaobddaaGreatDoorJp27
import Derived.Test.YtcoengihaobddaaGreatDoorJp01
import Derived.RangeFuncRecord
import Derived.RangeFuncSeq
import Derived.RangeFuncBound
import Derived.Test.YtcoengihaobddaaGreatDoorJp02
import Derived.RangeFuncCalls
import Derived.OwnWalkIn
import Derived.TacticsInMore
namespace Go.Proofs.YtcoengihaobddaaGreatDoor.prog
open Go.RowKit Go.Proofs.YtcoengihaobddaaGreatDoor.disk Go.Proofs.YtcoengihaobddaaGreatDoor.ref
set_option linter.unusedVariables false
set_option maxRecDepth 8000

/-- The tree of a root, in the blocks rd: its versions, its blocks. -/
def Forest (rd : Nat → List Value) (root : Nat) (es : List En) (bs : List Nat) : Prop :=
  (root = 0 ∧ es = [] ∧ bs = []) ∨ ∃ (h : Nat) (t : Tr h), t.Root ∧ t.LayV pgV rd ∧ t.blk = root ∧ t.ents = es ∧ t.blocks = bs
theorem Took1.root {h : Nat} {t t' : Tr h} {e : En} (k : Took1 t e t') (r : t.Root) (hn : ∀ x ∈ t.ents, x.pl ≠ e.pl) : t'.Root where
  good := k.good
  hi := k.hi
  one := Nat.le_trans r.one k.lo
  two := fun h => Nat.le_trans (r.two h) k.lo
  first := k.first _ r.first
  srt := by rw [k.ents]; exact r.srt.ins hn
theorem noPl_ok : noPl.Ok := ⟨by simp [noPl], by simp [noPl], by simp [noPl], by simp [noPl]⟩
theorem Took2.root {h : Nat} {t t' u : Tr h} {e : En} {q : Pl} (k : Took2 t e t' u q) (r : t.Root) (hn : ∀ x ∈ t.ents, x.pl ≠ e.pl) (hlow : ∀ x ∈ insE e t.ents, ¬ x.pl.lt noPl = true) {ta : Nat} (hta : ta < 65536) :
    Tr.Root (h := h + 1) (ta, [(noPl, t'), (q, u)]) := by
  have e0 : flatE [(noPl, t'), (q, u)] = insE e t.ents := by rw [← k.ents]; simp [flatE]
  have hl : ∀ x ∈ t'.ents, ¬ x.pl.lt noPl = true := fun x hx => hlow x (by rw [← k.ents]; exact List.mem_append_left _ hx)
  obtain ⟨x, hx⟩ := k.good.some_ent (by have := k.lo; omega)
  have hpq : noPl.lt q = true := Pl.lt_of_not (hl x hx) (k.left x hx)
  have ku : Kids [(q, u)] := Kids.nil.cons k.goodu k.hiu k.qok k.firstu k.right (fun _ h => nomatch h) (fun _ h => nomatch h)
  have kk : Kids [(noPl, t'), (q, u)] := ku.cons k.good k.hi noPl_ok (k.first _ r.first) hl (fun b hb => by rw [List.mem_singleton.1 hb]; exact hpq) (fun b hb => by rw [List.mem_singleton.1 hb]; exact k.left)
  refine ⟨kk.node (fun c hc => ?_) hta, ?_, ?_, fun _ => ?_, ⟨t', [(q, u)], rfl⟩, ?_⟩
  · rcases List.mem_cons.1 hc with rfl | hc
    · exact k.lo
    · rw [List.mem_singleton.1 hc]; exact k.lou
  · exact Nat.le_trans (Nat.le_of_eq (items_pair _ _)) (by simp)
  · exact Nat.le_trans (by simp) (Nat.le_of_eq (items_pair _ _).symm)
  · exact Nat.le_trans (by simp) (Nat.le_of_eq (items_pair _ _).symm)
  · show Srt (flatE [(noPl, t'), (q, u)])
    rw [e0]; exact r.srt.ins hn
theorem leaf_root {e : En} (he : e.Ok) {ta : Nat} (hta : ta < 65536) : Tr.Root (h := 0) (ta, [e]) where
  good := ⟨hta, fun x hx => by rw [List.mem_singleton.1 hx]; exact he⟩
  hi := by show 1 ≤ 6; omega
  one := by show 1 ≤ 1; omega
  two := fun h => by omega
  first := trivial
  srt := List.pairwise_singleton _ _

structure InsertR (D : Dk) (C C' : Ck) (m m' : List UInt8) (root' : Nat) (e : En) (es : List En) (bs pb nb : List Nat) : Prop where
  chn : Chn D C' m'
  stp : Stp D C C' m m' pb nb
  sub : ∀ j ∈ pb, j ∈ bs
  nl : nb.length ≤ bs.length + 1
  few : C'.ws.length ≤ C.ws.length + 100
  tree : C'.full = false → ∃ bs', Forest (fun j => C'.look D (j : Nat)) root' (insE e es) bs' ∧ bs'.Perm (bs ++ nb) ∧ ∃ h, pb.length + nb.length ≤ 2 * h + 1 ∧ 3 ^ h ≤ bs'.length
  lt : root' < 65536
structure InsertCall (bc bd : Nat) (S T : Nat → Prop) (D : Dk) (C : Ck) (root : Nat) (e : En) (root' : Nat) (C' : Ck) : Prop where
  go : ∀ (w : World) (r : Int), 0 ≤ r → r ≤ 4611686018427360000 → Cw w bc bd S T { D with reads := r } C →
    Calls Tryz.prog 76 #[.pointer (some ⟨bc, 0, none⟩), .int .i64 root, .agg (enV e).toArray] w fun x w' => x = .returned (.int .i64 (root' : Int)) ∧ (∃ (n : Int) (T' : Nat → Prop), 0 ≤ n ∧ n ≤ 15 ∧ Cw w' bc bd S T' { D with reads := r + n } C' ∧ ∀ j, T' j → T j ∨ w.heap.size ≤ j) ∧ Kept (fun j => j = bd ∨ T j) w w'

theorem tree_insert (bc bd : Nat) (S T : Nat → Prop) (D : Dk) (hN : D.bs.length ≤ 1000) (e : En) (he : e.Ok) (helow : ¬ e.pl.lt noPl = true) (C : Ck) (m : List UInt8) (root : Nat) (es : List En) (bs : List Nat) (hF : Forest (fun j => C.look D (j : Nat)) root es bs) (hnd : bs.Nodup)
    (htk : ∀ j ∈ bs, 21 ≤ j ∧ takenB m (j - 21) = true) (hbl : bs.length ≤ 979) (hc : Chn D C m) (hlow : ∀ x ∈ es, ¬ x.pl.lt noPl = true) (hn : ∀ x ∈ es, x.pl ≠ e.pl) (hfew : C.ws.length < 500) :
    ∃ root' C' m' pb nb, InsertR D C C' m m' root' e es bs pb nb ∧ InsertCall bc bd S T D C root e root' C' := by
  rcases hF with ⟨rfl, rfl, rfl⟩ | ⟨h, t, hr, hl, rfl, rfl, rfl⟩
  · obtain ⟨ta, tC, tm, nb, htk, tkn⟩ := take_tkn hc hN
    have hlt := tkn.lt hN
    refine ⟨ta, tC.put ta (pgV (nodePg 5 [e])), tm, [], nb, ⟨tkn.chn.put hlt.2 _, tkn.stp.taken _ tkn.mem, fun _ h => (nomatch h), by have := tkn.len; simpa using this, ?_, fun hf => ?_, hlt.1⟩, ⟨fun w r h0 h1 hcw => ?_⟩⟩
    · have := ck_put_len tC ta (pgV (nodePg 5 [e]))
      have := tkn.few
      omega
    · rw [full_put] at hf
      rcases tkn.is with ⟨rfl, h1, h2, _⟩ | ⟨_, _, h1⟩
      · exact ⟨[ta], .inr ⟨0, (ta, [e]), leaf_root he hlt.1, look_put_eq _ _ _ _, rfl, rfl, rfl⟩, List.Perm.refl _, 0, by simp, by simp⟩
      · rw [h1] at hf; cases hf
    · refine (insert_new w bc bd S T { D with reads := r } C hcw m (by rw [look_reads]; exact hc.map) h0 (by show r ≤ _; omega) e he (by omega) ta tC tm htk).mono ?_
      rintro x w' ⟨h1, ⟨n, T', h2, h3, h4, h5⟩, h6⟩
      exact ⟨h1, ⟨n, T', h2, by omega, h4, h5⟩, h6⟩
  · have h6 := hr.low hbl
    obtain ⟨f, v, C1, m1, pb, nb, R, K⟩ := ins_tree bc bd S T D hN e he h t C m (by omega) hr.good hr.one hr.hi hr.srt hnd htk hl hc ⟨noPl, hr.first, helow⟩ hn (by omega)
    have hroot := (htk t.blk t.blk_mem).1
    have hpw := hr.many
    have hpl := pow_lin h
    cases f with
    | false =>
      obtain ⟨rfl, hone⟩ := R.one rfl
      refine ⟨t.blk, C1, m1, pb, nb, ⟨R.chn, R.stp, R.sub, ?_, by have := R.few; omega, fun hf => ?_, hr.good.blk⟩, ⟨fun w r h0 h1 hcw => ?_⟩⟩
      · have := R.nl; simp at this; omega
      · obtain ⟨t', tk, tl, tp⟩ := hone hf
        have hr' := tk.root hr hn
        exact ⟨t'.blocks, .inr ⟨h, t', hr', tl, tk.blk, tk.ents, rfl⟩, tp, h, by have := R.nl; have := R.pl; simp at *; omega, hr'.many⟩
      · refine (insert_root_no w bc bd S T D C r hcw h0 e h t.blk (by omega) (by omega) C1 K).mono ?_
        rintro x w' ⟨k1, ⟨n, T', k2, k3, k4, k5⟩, k6⟩
        exact ⟨k1, ⟨n, T', k2, by omega, k4, k5⟩, k6⟩
    | true =>
      obtain ⟨e1, rfl, he1, htwo⟩ := R.two rfl
      obtain ⟨ta, tC, tm, nb2, htk2, tkn⟩ := take_tkn R.chn hN
      have hlt := tkn.lt hN
      have st := R.stp.trans tkn.stp
      rw [List.append_nil] at st
      have hfew1 := R.few
      have htl := tkn.len
      refine ⟨ta, tC.put ta (pgV (nodePg 4 [⟨noPl, false, 0, t.blk⟩, e1])), tm, pb, nb ++ nb2, ⟨tkn.chn.put hlt.2 _, st.taken _ (tkn.mem.imp (List.mem_append_right _) id), R.sub, ?_, ?_, fun hf => ?_, hlt.1⟩, ⟨fun w r h0 h1 hcw => ?_⟩⟩
      · have := R.nl; simp at this ⊢; omega
      · have := ck_put_len tC ta (pgV (nodePg 4 [⟨noPl, false, 0, t.blk⟩, e1]))
        have := tkn.few
        omega
      · rw [full_put] at hf
        rcases tkn.is with ⟨rfl, h1, h2, _⟩ | ⟨_, _, h1⟩
        · obtain ⟨t', u, q, tk, rfl, tl, ul, tp⟩ := htwo (tkn.stp.unfull hf)
          have hlow' : ∀ x ∈ insE e t.ents, ¬ x.pl.lt noPl = true := fun x hx => by
            rcases insE_mem.1 hx with rfl | hx
            · exact helow
            · exact hlow x hx
          have hr' := tk.root hr hn hlow' hlt.1
          have hbM : ∀ j, j ∈ t.blocks ++ nb → 21 ≤ j ∧ takenB m1 (j - 21) = true := fun j hj => by
            rcases List.mem_append.1 hj with hj | hj
            · exact ⟨(htk j hj).1, R.stp.grew.keeps (htk j hj).2⟩
            · have := R.stp.grew.fresh j hj
              refine ⟨this.1, ?_⟩
              rw [R.stp.grew.taken, show j - 21 + 21 = j from by omega]; simp [hj]
          have hkid : ∀ (y : Tr h), (∀ j ∈ y.blocks, j ∈ t.blocks ++ nb) → y.LayV pgV (fun j => C1.look D (j : Nat)) → y.LayV pgV (fun j => (tC.put ta (pgV (nodePg 4 [⟨noPl, false, 0, t.blk⟩, ⟨q, false, 0, u.blk⟩]))).look D (j : Nat)) := fun y hu hlu => hlu.congr (fun j hj => by
            have h3 := hbM j (hu j hj)
            have h4 := tkn.stp.grew.apart h3.2
            have h5 : j ≠ ta := fun e0 => h4 (by rw [e0]; simp)
            rw [look_put_ne _ _ _ _ _ (by omega)]
            exact tkn.stp.look j (fun h => nomatch h) h4 (by omega) (by omega))
          have hp : (Tr.blocks (h := h + 1) (ta, [(noPl, t'), (q, u)])).Perm (t.blocks ++ (nb ++ [ta])) := by
            show (ta :: flatB [(noPl, t'), (q, u)]).Perm _
            have e2 : flatB [(noPl, t'), (q, u)] = t'.blocks ++ u.blocks := by simp [flatB]
            rw [e2, ← List.append_assoc]
            exact (tp.cons ta).trans (List.perm_append_comm (l₁ := [ta]))
          refine ⟨_, .inr ⟨h + 1, (ta, [(noPl, t'), (q, u)]), hr', ⟨?_, fun c hc => ?_⟩, rfl, ?_, rfl⟩, hp, h + 1, ?_, hr'.many⟩
          · show (tC.put ta _).look D ta = pgV (nodePg 4 ([(noPl, t'), (q, u)].map fun c => (⟨c.1, false, 0, c.2.blk⟩ : En)))
            rw [look_put_eq]
            simp [tk.blk]
          · have hc : c ∈ [(noPl, t'), (q, u)] := hc
            rcases List.mem_cons.1 hc with rfl | hc
            · exact hkid t' (fun j hj => tp.mem_iff.1 (List.mem_append_left _ hj)) tl
            · rw [List.mem_singleton.1 hc]
              exact hkid u (fun j hj => tp.mem_iff.1 (List.mem_append_right _ hj)) ul
          · show flatE [(noPl, t'), (q, u)] = _
            rw [← tk.ents]; simp [flatE]
          · have := R.nl; have := R.pl; simp at *; omega
        · rw [h1] at hf; cases hf
      · refine (insert_root_yes w bc bd S T D C r hcw h0 e h t.blk (by omega) hr.good.blk (by omega) (by omega) C1 e1 he1 K m1 R.chn.map (by omega) ta tC tm htk2).mono ?_
        rintro x w' ⟨k1, ⟨n, T', k2, k3, k4, k5⟩, k6⟩
        exact ⟨k1, ⟨n, T', k2, by omega, k4, k5⟩, k6⟩
end Go.Proofs.YtcoengihaobddaaGreatDoor.prog
namespace Go.Proofs.YtcoengihaobddaaGreatDoor.prog
open Go.RowKit Go.Proofs.YtcoengihaobddaaGreatDoor.disk
set_option linter.unusedVariables false

theorem Kept.putObj {S : Nat → Prop} (w : World) (l : Nat) (o : Obj) (h : S l) : Kept S w (w.putObj l o) :=
  ⟨rfl, rfl, rfl, by simp, fun k _ hn => World.putObj_heap_other (fun e => hn (e ▸ h))⟩

/-- What a function promises that is ranged over: it gives one thing behind the other ('Here': what is so when it does); in between it changes Z alone, and numbers rise. What whoever ranges over it promises: the rounds leave alone what is not old and not their own (Q). -/
def SeqR {α : Type} (F : Fence) (n : Nat) (P : Program) (g : Nat) (lb : Array Value) (encs : α → Array Value) (Z : Nat → Prop) (Inv : Int → List α → World → Prop) (Here : Int → List α → α → World → Prop) (S Sp : Int → List α → Prop) (r0 : Int) (W : World) : Prop :=
  ∀ (l : Nat) (J : Int → List α → (Nat → Prop) → World → Prop) (Jx : Int → List α → World → Prop),
    (∀ r pre Q A, J r pre Q A → Inv r pre A ∧ ∀ k, Q k → k < A.heap.size) →
    (∀ r r' pre Q A B, J r pre Q A → r ≤ r' → Kept Z A B → Inv r' pre B → J r' pre Q B) →
    (∀ r pre x Q A, J r pre Q A → Here r pre x A → YieldAt F (n - 1) P l (encs x) A fun e A' =>
      (e = .returned (.bool true) ∧ ∃ Q', J r (pre ++ [x]) Q' A' ∧ Kept (fun k => k < W.heap.size ∨ Q k) A A' ∧ ∀ k, Q' k → Q k ∨ A.heap.size ≤ k) ∨ (e = .returned (.bool false) ∧ Jx r (pre ++ [x]) A')) →
    J r0 [] (fun _ => False) W →
    CallsIn F n P g (#[.func (.yield l) #[] #[]] ++ lb) W fun e W' => (∃ v, e = .returned v) ∧ ((∃ r xs Q, S r xs ∧ J r xs Q W') ∨ (∃ r pre, Sp r pre ∧ Jx r pre W'))

/-- How the body of a round may be left. -/
def rngPost {α : Type} (B : Nat) (Q : Nat → Prop) (I : Int → List α → (Nat → Prop) → World → Prop) (Ix : Code → Int → List α → World → Prop) (r : Int) (xs : List α) (W : World) : Exit → Act → World → Prop
  | .normal, _, W' => Kept (fun k => k < B ∨ Q k) W W' ∧ ∃ Q', I r xs Q' W' ∧ ∀ k, Q' k → Q k ∨ W.heap.size ≤ k
  | .ret, _, W' => Kept (fun k => k < B ∨ Q k) W W' ∧ Ix .ret r xs W'
  | .exit id, _, W' => Kept (fun k => k < B ∨ Q k) W W' ∧ Ix (.exit id) r xs W'
  | .goto t, _, W' => Kept (fun k => k < B ∨ Q k) W W' ∧ Ix (.goto t) r xs W'
  | .panic _, _, _ => False
  | .outgrown, _, _ => False

variable {F : Fence} {n : Nat} {P : Program}
/-- THE LAW. -/
theorem wpIn_range {α : Type} {g : Operand} {ps : Array Tmp} {assign body : Code} {K : Exit → Act → World → Prop} {a : Act} {w : World}
    (hro : F.round = none) (h1 : 1 ≤ n) {gf : Nat} {lb : Array Value} (hg : a.eval g = .func (.func gf) #[] lb) (hFg : F.fn gf) (eg : ∀ args w, (callFunc gf args).run P w = .ok (.enter gf args) w)
    {encs : α → Array Value} {Z : Nat → Prop} {Inv : Int → List α → World → Prop} {Here : Int → List α → α → World → Prop} {S Sp : Int → List α → Prop} {r0 : Int}
    (hseq : ∀ W1, Kept (fun _ => False) w W1 → W1.heap.size = w.heap.size + 2 → SeqR F (n - 1) P gf lb encs Z Inv Here S Sp r0 W1)
    (hZ : ∀ k, Z k → k < w.heap.size) (hps : ∀ x, (encs x).size = ps.size)
    (I : Int → List α → (Nat → Prop) → World → Prop) (Ix : Code → Int → List α → World → Prop)
    (hIi : ∀ r pre Q A, I r pre Q A → Inv r pre A ∧ ∀ k, Q k → k < A.heap.size ∧ k ≠ w.heap.size ∧ k ≠ w.heap.size + 1)
    (hIs : ∀ r r' pre Q A B, I r pre Q A → r ≤ r' → Kept Z A B → Inv r' pre B → I r' pre Q B)
    (hIk : ∀ r pre Q A B, I r pre Q A → Kept (fun k => k = w.heap.size ∨ k = w.heap.size + 1) A B → I r pre Q B)
    (hIx : ∀ c r pre A B, Ix c r pre A → Kept (fun k => k = w.heap.size ∨ k = w.heap.size + 1) A B → Ix c r pre B)
    (h0 : I r0 [] (fun _ => False) w) (Ax : α → Act → World → Prop)
    (hAx : ∀ x a A B, Ax x a A → Kept (fun k => k = w.heap.size ∨ k = w.heap.size + 1) A B → Ax x a B)
    (hHere : ∀ r pre x A B, Here r pre x A → Kept (fun k => k = w.heap.size ∨ k = w.heap.size + 1) A B → Here r pre x B)
    (hassign : ∀ (l : Nat) (r : Int) (pre : List α) (x : α) (Q : Nat → Prop) (W : World) (K : Act → World → Prop), I r pre Q W → Here r pre x W → w.heap.size + 1 < W.heap.size →
      (∀ a' W', Kept (fun _ => False) W W' → I r pre Q W' → Here r pre x W' → Ax x a' W' → K a' W') →
      assign.wpIn (F.inRound l) (n - 1 - 1) P (Exit.then K (fun _ _ _ => False)) { tmps := (ps.zip (encs x)).foldl (fun t (p, v) => t.setIfInBounds p v) a.tmps, defers := [] } W)
    (hbody : ∀ (l : Nat) (r : Int) (pre : List α) (x : α) (Q : Nat → Prop) (a' : Act) (W : World), I r pre Q W → Here r pre x W → Ax x a' W → w.heap.size + 1 < W.heap.size → body.wpIn (F.inRound l) (n - 1 - 1) P (rngPost w.heap.size Q I Ix r (pre ++ [x]) W) a' W)
    (hdone : ∀ (D : Nat) (r : Int) (xs : List α) (Q : Nat → Prop) (W : World), S r xs → I r xs Q W → D = w.heap.size → W.heap[D]? = some (.deferred (some [])) → K .normal { a with defers := { target := .collected D, args := #[] } :: a.defers } W)
    (hstop : ∀ (D : Nat) (c : Code) (r : Int) (pre : List α) (W : World), Sp r pre → Ix c r pre W → D = w.heap.size → W.heap[D]? = some (.deferred (some [])) → c.wpIn F n P K { a with defers := { target := .collected D, args := #[] } :: a.defers } W) :
    (Code.rangeFunc g ps assign body).wpIn F n P K a w := by
  refine wpIn_rangeFunc ?_
  intro fn hfn
  rw [hro]
  obtain ⟨rec, hrec⟩ : ∃ rec : LoopState → Option Code → Loop, rec = fun st pe => { state := st, pending := pe, fn, tmps := a.tmps, params := ps, assign, body, defers := w.heap.size } := ⟨_, rfl⟩
  obtain ⟨W1, hW1⟩ : ∃ W1, (w.alloc (.deferred (some []))).alloc (.loop (rec .ready none)) = W1 := ⟨_, rfl⟩
  have hL1 : W1.heap[w.heap.size + 1]? = some (.loop (rec .ready none)) := by
    rw [← hW1]; have := World.alloc_heap_new (w.alloc (.deferred (some []))) (.loop (rec .ready none)); rwa [World.size_alloc] at this
  have hK1 : W1.heap[w.heap.size]? = some (.deferred (some [])) := by
    rw [← hW1]; exact (Below.heap_alloc _ _ _ (by simp)).trans (World.alloc_heap_new w _)
  have hk01 : Kept (fun _ => False) w W1 := by rw [← hW1]; exact (Kept.alloc _ _ _).trans (Kept.alloc _ _ _) (fun _ h => .inl h)
  have hs1 : W1.heap.size = w.heap.size + 2 := by rw [← hW1]; simp
  have hI1 : I r0 [] (fun _ => False) W1 := hIk _ _ _ _ _ h0 (hk01.mono (fun _ h => h.elim))
  refine ⟨w.heap.size + 1, [{ target := .collected w.heap.size, args := #[] }], W1, { target := .fn (.func gf) lb, args := #[.func (.yield (w.heap.size + 1)) #[] #[]] }, W1, gf,
    #[.func (.yield (w.heap.size + 1)) #[] #[]] ++ lb, W1, ?_, ?_, ?_, ?_, fun _ => h1, ?_⟩
  · rw [← hW1, hrec]; exact run_enterLoop_outer _ _ _ _ _
  · simp only [resolve, hg]
    simp [go_sem]
  · intro f' hf'; simp [Target.leads] at hf'; subst hf'; exact hFg
  · simp [invoke, go_sem, eg]
  · refine (hseq W1 hk01 hs1 (w.heap.size + 1)
      (fun r pre Q W => I r pre Q W ∧ W.heap[w.heap.size + 1]? = some (.loop (rec .ready none)) ∧ W.heap[w.heap.size]? = some (.deferred (some [])))
      (fun r pre W => ∃ c, Ix c r pre W ∧ W.heap[w.heap.size + 1]? = some (.loop (rec .done (some c))) ∧ W.heap[w.heap.size]? = some (.deferred (some [])))
      (fun r pre Q A h => ⟨(hIi _ _ _ _ h.1).1, fun k hk => ((hIi _ _ _ _ h.1).2 k hk).1⟩)
      (fun r r' pre Q A B h hr hk hi => by
        have l1 := (Array.getElem?_eq_some_iff.1 h.2.1).1
        exact ⟨hIs _ _ _ _ _ _ h.1 hr hk hi, (hk.block _ l1 (fun hz => by have := hZ _ hz; omega)).trans h.2.1, (hk.block _ (by omega) (fun hz => by have := hZ _ hz; omega)).trans h.2.2⟩)
      ?_ ⟨hI1, hL1, hK1⟩).mono ?_
    · rintro r pre x Q W ⟨hi, hl, hk⟩ hh
      have hlt : w.heap.size + 1 < W.heap.size := (Array.getElem?_eq_some_iff.1 hl).1
      have hy := run_yield (P := P) (args := encs x) hl (by rw [hrec]; exact hps x)
      rw [hrec] at hy
      refine ⟨fn, _, assign, body, hy, roundIn_of_wpIn hfn (hassign _ r pre x Q W _ hi hh hlt ?_)⟩
      intro a' Wa hka hia hha hax
      have hlt' : w.heap.size + 1 < Wa.heap.size := Nat.lt_of_lt_of_le hlt hka.size
      have hla : Wa.heap[w.heap.size + 1]? = some (.loop (rec .ready none)) := (hka.block _ hlt (fun hf => hf)).trans hl
      have hda : Wa.heap[w.heap.size]? = some (.deferred (some [])) := (hka.block _ (by omega) (fun hf => hf)).trans hk
      refine ⟨_, run_beginRound hla (by rw [hrec]), ?_⟩
      have kb : Kept (fun k => k = w.heap.size ∨ k = w.heap.size + 1) Wa (Wa.putObj (w.heap.size + 1) (.loop { rec .ready none with state := .busy })) := Kept.putObj _ _ _ (.inr rfl)
      have hl2 : (Wa.putObj (w.heap.size + 1) (.loop { rec .ready none with state := .busy })).heap[w.heap.size + 1]? = some (.loop { rec .ready none with state := .busy }) := World.putObj_heap_same hlt'
      have hd2 : (Wa.putObj (w.heap.size + 1) (.loop { rec .ready none with state := .busy })).heap[w.heap.size]? = some (.deferred (some [])) := (World.putObj_heap_other (by omega)).trans hda
      have hs2 : (Wa.putObj (w.heap.size + 1) (.loop { rec .ready none with state := .busy })).heap.size = Wa.heap.size := by simp
      refine wpIn_mono (hbody _ r pre x Q a' _ (hIk _ _ _ _ _ hia kb) (hHere _ _ _ _ _ hha kb) (hAx _ _ _ _ hax kb) (by rw [hs2]; exact hlt')) ?_
      have hnQ : ∀ k, k = w.heap.size ∨ k = w.heap.size + 1 → ¬ (k < w.heap.size ∨ Q k) := fun k hk hc => by
        rcases hc with hc | hc
        · omega
        · have := (hIi _ _ _ _ hia).2 k hc; omega
      have fin : ∀ (jump : Option Code) (W3 : World), Kept (fun k => k < w.heap.size ∨ Q k) (Wa.putObj (w.heap.size + 1) (.loop { rec .ready none with state := .busy })) W3 →
          (Instr.endRound (w.heap.size + 1) jump).run P W3 = .ok (.bool jump.isNone) (W3.putObj (w.heap.size + 1) (.loop (rec (if jump.isNone then .ready else .done) jump))) ∧
          Kept (fun k => k = w.heap.size ∨ k = w.heap.size + 1) W3 (W3.putObj (w.heap.size + 1) (.loop (rec (if jump.isNone then .ready else .done) jump))) ∧
          (W3.putObj (w.heap.size + 1) (.loop (rec (if jump.isNone then .ready else .done) jump))).heap[w.heap.size + 1]? = some (.loop (rec (if jump.isNone then .ready else .done) jump)) ∧
          (W3.putObj (w.heap.size + 1) (.loop (rec (if jump.isNone then .ready else .done) jump))).heap[w.heap.size]? = some (.deferred (some [])) := fun jump W3 hk3 => by
        have hl3 := (hk3.block _ (by rw [hs2]; exact hlt') (hnQ _ (.inr rfl))).trans hl2
        have hd3 := (hk3.block _ (by rw [hs2]; omega) (hnQ _ (.inl rfl))).trans hd2
        have := run_endRound (P := P) jump hl3
        rw [hrec] at this ⊢
        exact ⟨this, Kept.putObj _ _ _ (.inr rfl), World.putObj_heap_same (Array.getElem?_eq_some_iff.1 hl3).1, (World.putObj_heap_other (by omega)).trans hd3⟩
      have whole : ∀ (jump : Option Code) (W3 : World), Kept (fun k => k < w.heap.size ∨ Q k) (Wa.putObj (w.heap.size + 1) (.loop { rec .ready none with state := .busy })) W3 →
          Kept (fun k => k < W1.heap.size ∨ Q k) W (W3.putObj (w.heap.size + 1) (.loop (rec (if jump.isNone then .ready else .done) jump))) := fun jump W3 hk3 => by
        have k1 : Kept (fun k => k < W1.heap.size ∨ Q k) W Wa := hka.mono (fun _ h => h.elim)
        have k2 := k1.trans kb (fun i hi => .inl (.inl (by rw [hs1]; omega)))
        have k3 := k2.trans hk3 (fun i hi => .inl (by rcases hi with hi | hi; exact .inl (by rw [hs1]; omega); exact .inr hi))
        exact k3.trans (Kept.putObj (S := fun k => k = w.heap.size + 1) _ _ _ rfl) (fun i hi => .inl (.inl (by rw [hs1]; omega)))
      rintro e a3 W3 hp
      cases e with
      | normal =>
        obtain ⟨hk3, Q', hi3, hq3⟩ := hp
        obtain ⟨hr, hkr, hl4, hd4⟩ := fin none W3 hk3
        exact ⟨_, _, hr, .inl ⟨rfl, Q', ⟨hIk _ _ _ _ _ hi3 hkr, hl4, hd4⟩, whole none W3 hk3, fun k hk => (hq3 k hk).imp id (fun h => by rw [hs2] at h; exact Nat.le_trans hka.size h)⟩⟩
      | ret =>
        obtain ⟨hk3, hi3⟩ := hp
        obtain ⟨hr, hkr, hl4, hd4⟩ := fin (some .ret) W3 hk3
        exact ⟨_, _, hr, .inr ⟨rfl, .ret, hIx _ _ _ _ _ hi3 hkr, hl4, hd4⟩⟩
      | exit id =>
        obtain ⟨hk3, hi3⟩ := hp
        obtain ⟨hr, hkr, hl4, hd4⟩ := fin (some (.exit id)) W3 hk3
        exact ⟨_, _, hr, .inr ⟨rfl, .exit id, hIx _ _ _ _ _ hi3 hkr, hl4, hd4⟩⟩
      | goto t =>
        obtain ⟨hk3, hi3⟩ := hp
        obtain ⟨hr, hkr, hl4, hd4⟩ := fin (some (.goto t)) W3 hk3
        exact ⟨_, _, hr, .inr ⟨rfl, .goto t, hIx _ _ _ _ _ hi3 hkr, hl4, hd4⟩⟩
      | panic ch => exact hp.elim
      | outgrown => exact hp.elim
    · rintro e W2 ⟨⟨v, rfl⟩, (⟨r, xs, Q, hS, hi, hl, hk⟩ | ⟨r, pre, hSp, c, hi, hl, hk⟩)⟩
      · exact ⟨none, _, by have := run_endLoop (P := P) hl (by rw [hrec]; simp); rw [hrec] at this; exact this, hdone _ r xs Q _ hS (hIk _ _ _ _ _ hi (Kept.putObj _ _ _ (.inr rfl))) rfl ((World.putObj_heap_other (by omega)).trans hk)⟩
      · exact ⟨some c, _, by have := run_endLoop (P := P) hl (by rw [hrec]; simp); rw [hrec] at this; exact this, hstop _ c r pre _ hSp (hIx c _ _ _ _ hi (Kept.putObj _ _ _ (.inr rfl))) rfl ((World.putObj_heap_other (by omega)).trans hk)⟩
end Go.Proofs.YtcoengihaobddaaGreatDoor.prog
namespace Go.Proofs.YtcoengihaobddaaGreatDoor.prog
open Go.RowKit Go.Proofs.YtcoengihaobddaaGreatDoor.disk
set_option linter.unusedVariables false

theorem room_any_depth {F : Fence} (hd : F.depth = none) (k : Nat) : F.room k := fun d h => by rw [hd] at h; cases h
theorem round_any_depth {F : Fence} (hd : F.depth = none) {m m' : Nat} {P : Program} {l : Nat} {f : FuncId} {tmps : Array Value} {assign body : Code} {w : World} {R : Ending → World → Prop}
    (h : RoundIn F m P l f tmps assign body w R) : RoundIn F m' P l f tmps assign body w R := ⟨h.1, fun c cs _ => h.2 c cs (room_any_depth hd _)⟩
theorem yield_any_depth {F : Fence} (hd : F.depth = none) {m : Nat} (m' : Nat) {P : Program} {l : Nat} {args : Array Value} {W : World} {R : Ending → World → Prop} (h : YieldAt F m P l args W R) : YieldAt F m' P l args W R := by
  obtain ⟨fn, tmps, assign, body, hy, hR⟩ := h
  exact ⟨fn, tmps, assign, body, hy, round_any_depth hd hR⟩

/-- How a round ends, for the function that is ranged over. -/
def Rounds {α : Type} (J : Int → List α → (Nat → Prop) → World → Prop) (Jx : Int → List α → World → Prop) (B : Nat) (r : Int) (xs : List α) (Q : Nat → Prop) (A : World) (e : Ending) (A' : World) : Prop :=
  (e = .returned (.bool true) ∧ ∃ Q', J r xs Q' A' ∧ Kept (fun k => k < B ∨ Q k) A A' ∧ ∀ k, Q' k → Q k ∨ A.heap.size ≤ k) ∨ (e = .returned (.bool false) ∧ Jx r xs A')
/-- What a function promises that is ranged over. -/
def SeqW {α : Type} (P : Program) (g : Nat) (lb : Array Value) (encs : α → Array Value) (Z : Nat → Prop) (Inv : Int → List α → World → Prop) (Here : Int → List α → α → World → Prop) (S Sp : Int → List α → Prop) (r0 : Int) (W : World) : Prop :=
  ∀ (l : Nat) (J : Int → List α → (Nat → Prop) → World → Prop) (Jx : Int → List α → World → Prop),
    (∀ r pre Q A, J r pre Q A → Inv r pre A ∧ ∀ k, Q k → k < A.heap.size) →
    (∀ r r' pre Q A B, J r pre Q A → r ≤ r' → Kept Z A B → Inv r' pre B → J r' pre Q B) →
    (∀ m r pre x Q A, J r pre Q A → Here r pre x A → YieldAt Fence.wide m P l (encs x) A (Rounds J Jx W.heap.size r (pre ++ [x]) Q A)) →
    J r0 [] (fun _ => False) W →
    Calls P g (#[.func (.yield l) #[] #[]] ++ lb) W fun e W' => (∃ v, e = .returned v) ∧ ((∃ r xs Q, S r xs ∧ J r xs Q W') ∨ (∃ r pre, Sp r pre ∧ Jx r pre W'))
theorem SeqW.seqR {α : Type} {P : Program} {g : Nat} {lb : Array Value} {encs : α → Array Value} {Z : Nat → Prop} {Inv : Int → List α → World → Prop} {Here : Int → List α → α → World → Prop} {S Sp : Int → List α → Prop} {r0 : Int} {W : World}
    (h : SeqW P g lb encs Z Inv Here S Sp r0 W) (n : Nat) : SeqR Fence.wide n P g lb encs Z Inv Here S Sp r0 W := fun l J Jx h1 h2 h3 h4 =>
  callsIn_wide.2 (h l J Jx h1 h2 (fun m r pre x Q A hj hh => yield_any_depth rfl m (h3 r pre x Q A hj hh)) h4)
variable {P : Program}
/-- THE LAW. -/
theorem wp_range {α : Type} {g : Operand} {ps : Array Tmp} {assign body : Code} {K : Exit → Act → World → Prop} {a : Act} {w : World}
    {gf : Nat} {lb : Array Value} (hg : a.eval g = .func (.func gf) #[] lb) (eg : ∀ args w, (callFunc gf args).run P w = .ok (.enter gf args) w)
    {encs : α → Array Value} {Z : Nat → Prop} {Inv : Int → List α → World → Prop} {Here : Int → List α → α → World → Prop} {S Sp : Int → List α → Prop} {r0 : Int}
    (hseq : ∀ W1, Kept (fun _ => False) w W1 → W1.heap.size = w.heap.size + 2 → SeqW P gf lb encs Z Inv Here S Sp r0 W1)
    (hZ : ∀ k, Z k → k < w.heap.size) (hps : ∀ x, (encs x).size = ps.size)
    (I : Int → List α → (Nat → Prop) → World → Prop) (Ix : Code → Int → List α → World → Prop)
    (hIi : ∀ r pre Q A, I r pre Q A → Inv r pre A ∧ ∀ k, Q k → k < A.heap.size ∧ k ≠ w.heap.size ∧ k ≠ w.heap.size + 1)
    (hIs : ∀ r r' pre Q A B, I r pre Q A → r ≤ r' → Kept Z A B → Inv r' pre B → I r' pre Q B)
    (hIk : ∀ r pre Q A B, I r pre Q A → Kept (fun k => k = w.heap.size ∨ k = w.heap.size + 1) A B → I r pre Q B)
    (hIx : ∀ c r pre A B, Ix c r pre A → Kept (fun k => k = w.heap.size ∨ k = w.heap.size + 1) A B → Ix c r pre B)
    (h0 : I r0 [] (fun _ => False) w) (Ax : α → Act → World → Prop)
    (hAx : ∀ x a A B, Ax x a A → Kept (fun k => k = w.heap.size ∨ k = w.heap.size + 1) A B → Ax x a B)
    (hHere : ∀ r pre x A B, Here r pre x A → Kept (fun k => k = w.heap.size ∨ k = w.heap.size + 1) A B → Here r pre x B)
    (hassign : ∀ (l : Nat) (r : Int) (pre : List α) (x : α) (Q : Nat → Prop) (W : World) (K : Act → World → Prop), I r pre Q W → Here r pre x W → w.heap.size + 1 < W.heap.size →
      (∀ a' W', Kept (fun _ => False) W W' → I r pre Q W' → Here r pre x W' → Ax x a' W' → K a' W') →
      assign.wpIn (Fence.wide.inRound l) 0 P (Exit.then K (fun _ _ _ => False)) { tmps := (ps.zip (encs x)).foldl (fun t (p, v) => t.setIfInBounds p v) a.tmps, defers := [] } W)
    (hbody : ∀ (l : Nat) (r : Int) (pre : List α) (x : α) (Q : Nat → Prop) (a' : Act) (W : World), I r pre Q W → Here r pre x W → Ax x a' W → w.heap.size + 1 < W.heap.size → body.wpIn (Fence.wide.inRound l) 0 P (rngPost w.heap.size Q I Ix r (pre ++ [x]) W) a' W)
    (hdone : ∀ (D : Nat) (r : Int) (xs : List α) (Q : Nat → Prop) (W : World), S r xs → I r xs Q W → D = w.heap.size → W.heap[D]? = some (.deferred (some [])) → K .normal { a with defers := { target := .collected D, args := #[] } :: a.defers } W)
    (hstop : ∀ (D : Nat) (c : Code) (r : Int) (pre : List α) (W : World), Sp r pre → Ix c r pre W → D = w.heap.size → W.heap[D]? = some (.deferred (some [])) → c.wp P K { a with defers := { target := .collected D, args := #[] } :: a.defers } W) :
    (Code.rangeFunc g ps assign body).wp P K a w :=
  (wpIn_wide (n := 2)).1 (wpIn_range (F := Fence.wide) (n := 2) rfl (by omega) hg trivial eg (fun W1 h1 h2 => (hseq W1 h1 h2).seqR 1) hZ hps I Ix hIi hIs hIk hIx h0 Ax hAx hHere hassign hbody hdone
    (fun D c r pre W h1 h2 h3 h4 => wpIn_wide.2 (hstop D c r pre W h1 h2 h3 h4)))
/-- A function that holds such a range, out of its body. -/
def postM (P : Program) (fn : Func) (R : Ending → World → Prop) : Exit → Act → World → Prop := bodyPostM Fence.wide 2 P fn R
theorem calls_of_marks {f : FuncId} {fn : Func} {c : Code} {args : Array Value} {w : World} {R : Ending → World → Prop} (hf : P.funcs[f]? = some fn) (hb : fn.body = some c)
    (h : c.wp P (postM P fn R) { tmps := args ++ Array.replicate (fn.ntmps - args.size) undef, defers := [] } w) : Calls P f args w R :=
  (callsIn_wide (n := 2)).1 (callsIn_of_wp_marks hf hb trivial ((wpIn_wide (n := 2)).2 h) rfl)
/-- Its return, with one mark. -/
theorem postM_ret {fn : Func} {R : Ending → World → Prop} {a : Act} {w : World} {D : Nat} {v : Value} (hd : a.defers = [{ target := .collected D, args := #[] }]) (hK : w.heap[D]? = some (.deferred (some [])))
    (hr : (results fn a.tmps).run P (w.putObj D (.deferred none)) = .ok v (w.putObj D (.deferred none))) (hR : R (.returned v) (w.putObj D (.deferred none))) : postM P fn R .ret a w := by
  show LeavesInM _ _ _ _ _ _ _ _ _
  rw [hd]
  exact ⟨by simp, .inl ⟨D, _, rfl, run_takeDeferred hK, v, hr, hR⟩⟩
end Go.Proofs.YtcoengihaobddaaGreatDoor.prog
namespace Go.Proofs.YtcoengihaobddaaGreatDoor.prog
open Go.RowKit Go.Proofs.YtcoengihaobddaaGreatDoor.disk
set_option linter.unusedVariables false

/-- A fence that lets all in. -/
structure Open (F : Fence) : Prop where
  fn : ∀ f, F.fn f
  depth : F.depth = none
  calls : ∀ {n : Nat} {P : Program} {f : FuncId} {args : Array Value} {w : World} {R : Ending → World → Prop}, Calls P f args w R → CallsIn F n P f args w R
  rows : ∀ {n : Nat} {P : Program} {row : String} {args : Array Value} {w : World} {R : Value → World → Prop}, Rows P row args w R → RowsIn F n P row args w R
theorem rowsIn_wide {n : Nat} {P : Program} {row : String} {args : Array Value} {w : World} {R : Value → World → Prop} (h : Rows P row args w R) : RowsIn Fence.wide n P row args w R := fun c cs _ =>
  let ⟨v, w', r, s⟩ := h c cs; ⟨v, w', r, stepsIn_wide.2 s⟩
theorem open_wide : Open Fence.wide := ⟨fun _ => trivial, rfl, callsIn_wide.2, rowsIn_wide⟩
theorem open_round (l : Nat) : Open (Fence.wide.inRound l) := ⟨fun _ => trivial, rfl, fun h => CallsIn.inRound l (callsIn_wide.2 h), fun h => rowsIn_wide h⟩
theorem Open.upon {F : Fence} (hF : Open F) {n : Nat} {P : Program} {o : Oper} {a : Act} {next : Act → World → Prop} {Q : Exit → Act → World → Prop} {r : Result Next} (h : o.upon P a next Q r) : o.uponIn F n P a next Q r := by
  have hd : F.depth.isSome = true → 1 ≤ n := fun h => by rw [hF.depth] at h; cases h
  cases r with
  | ok x w' =>
    cases x with
    | value v => exact h
    | skip => exact h
    | defer d => exact h
    | enter f args => exact ⟨hd, hF.calls h⟩
    | row row args => exact ⟨hd, hF.rows h⟩
    | round l f tmps assign body => exact h.elim
    | _ => exact h.elim
  | halt x w' =>
    cases x with
    | panic v => exact h
    | _ => exact h.elim
theorem Open.op {F : Fence} (hF : Open F) {n : Nat} {P : Program} {ops : Array Oper} {Q : Exit → Act → World → Prop} {a : Act} {w : World} {rest : List Oper} {o : Oper} (hg : o.guard = none) (hd : ∀ c, o.op ≠ .defer c)
    (h : ∀ K : Act → World → Prop, (∀ a w, wpListIn F n P ops Q rest a w → K a w) → o.wp P a w K Q) : wpListIn F n P ops Q (o :: rest) a w := by
  refine wpListIn_plain hg fun K hK => ⟨fun f _ => hF.fn f, ?_⟩
  rw [Oper.semAt_plain F _ _ hd]
  exact hF.upon (h K hK)
/-- A whole value into the block that was made last. -/
theorem Open.store_new {F : Fence} (hF : Open F) {m : Nat} {P : Program} {ops : Array Oper} {rest : List Oper} {op : Oper} {a : Act} {W : World} {Q : Exit → Act → World → Prop} (hgd : op.guard = none) (ty : TypeId) (x y : Operand) (ho : op.op = .store ty x y)
    (n : Nat) (c : Array Value) (cs : List Value) (hn : n = W.heap.size) (hx : a.eval x = .pointer (some ⟨n, 0, none⟩)) (hy : a.eval y = .agg cs.toArray)
    (hi : (P.info? ty).map (·.size) = some cs.length) (hc : c.size = cs.length) (h1 : ∀ v ∈ cs, v.oneCell' = true)
    (h : wpListIn F m P ops Q rest (a.put op.dst undef) (W.alloc (.cells cs.toArray ty))) : wpListIn F m P ops Q (op :: rest) a (W.alloc (.cells c ty)) := by
  subst hn
  refine hF.op hgd (by rw [ho]; intro c hc; cases hc) fun _ hK => ?_
  unfold Oper.wp execOp
  simp only [ho, hx, hy, run_storeAt_new (P := P) W ty c cs.toArray (by simpa using hi) (by simpa using hc) (all_oneCell_toArray h1), Sem.run_bind, Result.andThen_ok, Sem.run_pure]
  exact hK _ _ h
end Go.Proofs.YtcoengihaobddaaGreatDoor.prog

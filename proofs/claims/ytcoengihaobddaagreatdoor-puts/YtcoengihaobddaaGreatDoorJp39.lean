/- Proved: for every script of puts, gets and openings the law Puts answers true, and the script reads as it did; no condition. The card ties the listed tables to the program's text (a pruned copy of the project: see the seat's page). -/
import Derived.Test.YtcoengihaobddaaGreatDoorJp38
import Derived.Test.YtcoengihaobddaaGreatDoorJp14
import Derived.Test.YtcoengihaobddaaGreatDoorCards
import Derived.Test.YtcoengihaobddaaGreatDoorTie
import Derived.WalkKit
import Derived.ProofKit
import Derived.OpenShut
import Derived.Deep.DeepHandedRow
import Derived.Deep.DeepWitnessRowRef
import Derived.Lib.LaidIn
import Derived.Lib.LaidU8
import Derived.WideKeyArgs
namespace Go.Proofs.YtcoengihaobddaaGreatDoor.prog
open Go.RowKit Go.Proofs.YtcoengihaobddaaGreatDoor.disk Go.Proofs.YtcoengihaobddaaGreatDoor.ref
open Go.Proofs.YtcoengihaobddaaGreatDoor.law (Con Meaning ApiOpen ApiPut ApiGet ApiAt Fore Aft Opd OutIs Out)
open Go.Proofs.YtcoengihaobddaaGreatDoor.keys (keyB)
set_option linter.unusedVariables false
set_option maxRecDepth 8000

/-- What an adding makes of a living disk. -/
def AddQ (D : Dk) (V : Con) (key : ByteArray) (mark : Bool) (l : List UInt8) (v c : Int) (D' : Dk) : Prop :=
  ∃ kk : Int, 0 ≤ kk ∧ kk ≤ 19 ∧ ((c = 6 ∧ v = 0 ∧ fitsB V.vs (weigh l.length) D.bs.length = false ∧ D' = { D with reads := D.reads + kk }) ∨
    (c = 0 ∧ v = V.n0 + 1 ∧ ∃ bs', bs'.length = D.bs.length ∧ RestB bs' (V.add key mark l) ∧ D' = { D with bs := bs', reads := D.reads + kk }))
theorem add_q (w : World) (bs bd : Nat) (S : Nat → Prop) (D : Dk) (hs : StoAt w bs 1 (some bd)) (hd : Disk w bd S D) (hn : ¬ S bs) (hr0 : 0 ≤ D.reads) (hr1 : D.reads ≤ 2305843009213693952) (hps : D.ps = []) (hfu : D.fuse = -1) (h64 : 64 ≤ D.bs.length) (V : Con) (hV : V.n0 ≤ 2305843009213693952) (hrest : RestB D.bs V)
    (key : ByteArray) (hkey : keyB key.data.toList = true) (mark : Bool) (P : Nat → Prop) (a : Option Addr) (cap : Nat) (l : List UInt8) (hmk : mark = true → l = []) (hby : Bytes w P a l) (hPS : ∀ j, P j → ¬ S j ∧ j ≠ bs) (hl : l.length ≤ 300) (hc1 : l.length ≤ cap) (hc2 : cap ≤ 9223372036854775807) :
    Calls Tryz.prog 52 #[.pointer (some ⟨bs, 0, none⟩), .string key, .slice a l.length cap, .bool mark] w fun e w' => ∃ v c D', e = .returned (.tuple #[.int .i64 v, .int .i64 c]) ∧ Onto w w' bd S D' ∧ AddQ D V key mark l v c D' := by
  obtain ⟨tree, n, m, es, bl, bo, R⟩ := hrest
  have hn9 : n < 4611686018427387904 := by rw [R.n0] at hV; omega
  have hroot : IsRoot (D.look 1) tree n := by have := R.root; rw [← look_rd hps] at this; exact this
  have hmap : IsMap (D.look 2) m := by have := R.map; rw [← look_rd hps] at this; exact this
  rcases hbody : ck0.body D.bs.length m (chunks l) with ⟨f, C1, m1⟩
  have hchn : Chn D ck0 m := ⟨by rw [ck0_look]; exact hmap, fun h => (nomatch h), List.nodup_nil⟩
  obtain ⟨nb1, hBR⟩ := body_r hchn R.few (chunks l) f C1 m1 (fun p hp => (chunks_pos p hp).2) hbody
  have hf6 := (body_map (C := ck0) (D := D) (m := m) (by rw [ck0_look]; exact hmap) R.few (chunks l) f C1 m1 hbody).2.2
  have hkl := key_len hkey
  have hold : ∀ j ∈ bl, 21 ≤ j ∧ takenB m1 (j - 21) = true ∧ j ∉ nb1 := fun j hj => by
    have hr := R.range j (List.mem_append_left _ hj)
    have h1 : takenB m (j - 21) = true := (R.taken (j - 21) (by omega)).2 (by rw [show j - 21 + 21 = j from by omega]; exact List.mem_append_left _ hj)
    exact ⟨hr.1, hBR.stp.grew.keeps h1, hBR.stp.grew.apart h1⟩
  have hfor : Forest (fun j => C1.look D (j : Nat)) tree es bl := R.forest.congr (fun j hj => by
    have h1 := hold j hj
    show C1.look D (j : Nat) = _
    rw [hBR.stp.look j (fun h => (nomatch h)) h1.2.2 (by omega) (by omega), ck0_look, look_rd hps])
  refine (add_any w bs bd S D 1 hs hd hn hr0 (by omega) hps hfu h64 R.few tree n hroot hn9 m hmap key mark P a cap l hby hPS hl hc1 hc2 es bl f C1 m1 hbody nb1 hBR ⟨hkl.2.1, hkl.2.2, by show 0 ≤ (n : Int) + 1; omega, by show (n : Int) + 1 < _; omega, hl, fun h => by show l.length = 0; rw [hmk h]; rfl, hf6⟩ (key_low hkey _) hfor (List.nodup_append.1 R.nodup).1 (fun j hj => ⟨(hold j hj).1, (hold j hj).2.1⟩) R.len (fun j hj => (R.range j (List.mem_append_left _ hj)).2) (fun x hx => (R.low x hx).1) (fun x hx e => ?_)).mono ?_
  · have h1 := (R.low x hx).2.2.1
    rw [e] at h1
    simp only at h1
    omega
  · rintro e w' ⟨root', C2, m2, pb, nb, hI, kk, hk0, hk1, h⟩
    have A : Adds D V tree n m es bl bo key mark l f C1 m1 nb1 root' C2 m2 pb nb := ⟨R, hps, h64, hBR, hI, hkey, hl, hmk, hn9⟩
    rcases h with ⟨hfull, rfl, hd', hk'⟩ | ⟨hnot, rfl, ho⟩
    · refine ⟨0, 6, _, rfl, ⟨⟨S, hd', fun _ h => .inl h⟩, hk'.mono (fun j hj => by rw [hj]; exact hd.bdS)⟩, kk, hk0, hk1, .inl ⟨rfl, rfl, ?_, rfl⟩⟩
      cases hfit : fitsB V.vs (weigh l.length) D.bs.length with
      | false => rfl
      | true => rw [A.fits hfit] at hfull; cases hfull
    · obtain ⟨bl', bo', hrep⟩ := A.rest hnot
      exact ⟨(n : Int) + 1, 0, _, rfl, ho, kk, hk0, hk1, .inr ⟨rfl, by rw [R.n0], _, cbs_len _ _, ⟨_, _, _, _, _, _, hrep⟩, rfl⟩⟩
theorem api_put : ApiPut mng where
  live := fun w bd bs S P D V key a cap l F hk hby hP hlen hc1 hc2 => by
    have hfu : D.fuse = -1 := F.fuse
    have hs : StoAt w bs 0 (some bd) := F.sto
    have hd := F.disk
    have hps := F.live.ps
    have hrest : RestB D.bs V := F.live.rest
    have hr0 := F.reads0
    have hr1 := F.reads1
    have hbig := F.live.big
    cases hkey : keyB key.data.toList with
    | false =>
      refine (put_key w bs (some bd) hs key hk hkey a l.length cap).mono ?_
      rintro e w' ⟨h1, h2, h3⟩
      exact ⟨D, S, 2, 0, some bd, h1, aft_same hd F.apart hfu h2 h3, ⟨.inl ⟨by show (2 : Int) ≠ 0; decide, rfl, rfl, F.live⟩⟩, rfl⟩
    | true =>
      by_cases hbig3 : 300 < l.length
      · have hput : putE true l.length = 3 := if_pos hbig3
        rw [hput]
        refine (put_big w bs (some bd) hs key hk hkey a l.length cap hbig3).mono ?_
        rintro e w' ⟨h1, h2, h3⟩
        exact ⟨D, S, 3, 0, some bd, h1, aft_same hd F.apart hfu h2 h3, ⟨.inl ⟨by decide, rfl, rfl, F.live⟩⟩, rfl⟩
      · have hput : putE true l.length = 0 := if_neg hbig3
        rw [hput]
        refine (put_live w bs bd S D hs hd F.apart key hk hkey P a cap l hby hP (by omega) (AddQ D V key false l) (fun w' h1 h2 h3 => add_q w' bs bd S D h1 h2 F.apart hr0 hr1 hps hfu hbig V F.few hrest key hkey false P a cap l (fun h => (nomatch h)) h3 hP (by omega) hc1 hc2)).mono ?_
        rintro e w' ⟨v, c, D', h1, ⟨kk, hk0, hk1, hq⟩, ⟨S', h2, h3⟩, h4, h5⟩
        rcases hq with ⟨rfl, rfl, hfit, rfl⟩ | ⟨rfl, rfl, bs', hbl, hrs, rfl⟩
        · exact ⟨_, S', 6, 0, some bd, h1, ⟨h2, h3, h4, h5, by show D.reads ≤ D.reads + kk; omega, by show D.reads + kk ≤ D.reads + 40; omega, rfl, hfu⟩, ⟨.inr (.inr (.inl ⟨rfl, rfl, rfl, ⟨hps, hrest, hbig⟩, hfit⟩))⟩, rfl⟩
        · exact ⟨_, S', 0, V.n0 + 1, some bd, h1, ⟨h2, h3, h4, h5, by show D.reads ≤ D.reads + kk; omega, by show D.reads + kk ≤ D.reads + 40; omega, hbl, hfu⟩, ⟨.inr (.inl ⟨rfl, rfl, rfl, ⟨hps, hrs, by show 64 ≤ bs'.length; omega⟩⟩)⟩, rfl⟩
  shut := fun w bs key a n cap hs hk hn => by
    have hs' : StoAt w bs 0 none := hs
    cases hkey : keyB key.data.toList with
    | false => exact (put_key w bs none hs' key hk hkey a n cap).mono (fun e w' ⟨h1, h2, h3⟩ => ⟨h1, h2, h3⟩)
    | true =>
      by_cases hbig3 : 300 < n
      · have hput : putE true n = 3 := if_pos hbig3
        rw [hput]
        exact (put_big w bs none hs' key hk hkey a n cap hbig3).mono (fun e w' ⟨h1, h2, h3⟩ => ⟨h1, h2, h3⟩)
      · have hput : putE true n = 0 := if_neg hbig3
        rw [hput]
        exact (put_shut w bs hs' key hk hkey a n cap (by omega)).mono (fun e w' ⟨h1, h2, h3⟩ => ⟨h1, h2, h3⟩)
end Go.Proofs.YtcoengihaobddaaGreatDoor.prog
namespace Go.Proofs.YtcoengihaobddaaGreatDoor.puts
open Go.ChangeShapes Go.WideShapes Go.ChangeAt Go.RowKit
open Go.Proofs.YtcoengihaobddaaGreatDoor.disk Go.Proofs.YtcoengihaobddaaGreatDoor.law
set_option linter.unusedVariables false

theorem own : ownKnob Tryz.prog.godebug = none := by kernel_rfl
theorem laidOut' : laidOutB Tryz.prog = true := by kernel_rfl

theorem walk (W : World) (a : Option Addr) (cap : Nat) (ods : List OpD) (h : Script W (fun k => k < W.heap.size) a ods) (hlen : ods.length ≤ 1256584717449) :
    Calls Tryz.prog 3 #[.slice a ods.length cap] W fun e w' => e = .returned (.bool true) ∧ Kept (fun _ => False) W w' :=
  puts_any prog.mng prog.api_open prog.api_put prog.api_get prog.api_at (fun f hf => by have h1 : f = -1 := hf; omega) W (fun k => k < W.heap.size) (fun _ h => h) a cap ods h hlen

set_option maxRecDepth 100000 in
theorem contract (H : Type) (enc : TypeId × Value → H) (W : World) (base : Nat) (args : Array Value) (ds gs : List (DataW H)) (before : List MemPlace)
    (hval : ∀ (j : Nat) t v, Tryz.f3.params[j]? = some t → args[j]? = some v → Value.okWide Tryz.prog W .any base t v)
    (hW : DataW.Whole enc Tryz.prog Tryz.f3.params.toList Rows.putsSpec.vars false W args.toList ds gs before)
    (hreach : (DataW.weightsEach Tryz.prog (Tryz.f3.params.toList ++ (OpenSpec.ofChange Rows.putsSpec).bare.plain.varTypes Tryz.prog) (ds ++ gs)).all (· ≤ reachBytes) = true) :
    Calls Tryz.prog 3 args W fun e W' => ∃ v, e = .returned v ∧ Rows.putsSpec.post enc Tryz.prog Tryz.f3 false true false false W args v W' := by
  have hW' := hW
  have hlt := fun p hp => hW.lt p hp
  obtain ⟨p, q, hA0, hV, rfl, hfz, hnd⟩ := hW
  have hA : DataW.TrodAll enc Tryz.prog W 0 (fun _ => true) true Tryz.f3.params.toList args.toList ds p := hA0
  rw [Tryz.params3] at hA hval hreach
  obtain ⟨v0, vs0, d0, ds0, p0, q0, hargs, rfl, rfl, h0, r0⟩ := trodAll_cons hA
  obtain ⟨rfl, rfl, rfl⟩ := trodAll_nil r0
  obtain rfl : args = #[v0] := by cases args; simp_all
  obtain ⟨rfl, rfl⟩ := trodVars_none hV
  obtain ⟨a0, len, cap, rfl⟩ := okWide_slice Tryz.underlying22 (hval 0 22 v0 rfl rfl)
  have h0' := h0
  obtain ⟨fuel, hf⟩ := h0
  have hw : (d0.weights Tryz.prog 22).all (· ≤ reachBytes) = true := List.all_eq_true.2 (fun n hn => List.all_eq_true.1 hreach n (DataW.weights_mem_each (j := 0) rfl rfl n hn))
  obtain ⟨ods, rfl, hscr, hl⟩ := open_script hf hw
  clear hA0
  simp only [List.append_nil] at hW' hlt
  refine (walk W a0 cap ods hscr hl).mono fun e W' ⟨he, hk⟩ => ?_
  subst he
  have bel : Below W.heap.size W W' := hk.below (fun _ hf => hf.elim) (Nat.le_refl _)
  have hsame : ∀ x ∈ p0, W.sameAt W' x := fun x hx => by
    have hb := hlt x hx
    cases x with
    | cell b o => exact World.cell?_of_block (w := W) (bel.block b hb)
    | map b => exact bel.block b hb
  refine ⟨_, rfl, [d0], [], p0, [], p0, [], hW', ?_, ?_, rfl, bel.frame _, fun h => by cases h⟩
  · exact trodAll_mk1 (shut_bool Tryz.underlying4 _)
  · exact trodAll_mk1 (WideElems.Trod_stays (P := Tryz.prog) laidOut' (by kernel_rfl) (of_decide_eq_true (by kernel_rfl)) h0' hsame (fun x hx => by simpa using hlt x hx))

/-- A world for the witness: the settled one, the two tables holding what their text lays. -/
noncomputable def laidWorld (os : Os) : World :=
  let w0 := World.holding Tryz.prog os ⟨#[], #[], []⟩
  let put (h : Array Obj) (g : Nat) (cs : Array Value) : Array Obj := h.modify g fun
    | .cells _ t frozen => .cells cs t frozen
    | o => o
  let h1 := put w0.heap 1 (Lib.firstTab.map fun z => Value.int .u8 z).toArray
  let h2 := put h1 2 ((List.range 16).flatMap fun i => [Value.int .u8 (Lib.accLo i), Value.int .u8 (Lib.accHi i)]).toArray
  { w0 with heap := h2 }
theorem laid_met (os : Os) (args : Array Value) : laidMet Tryz.prog Rows.putsRow.laid ((laidWorld os).forCall (fun _ _ => 0) ⟨#[], args, []⟩).memory :=
  (LaidIn.of_run (l := [("unicode/utf8.acceptRanges", Rows.laid_unicode_utf8_acceptRanges), ("unicode/utf8.first", Rows.laid_unicode_utf8_first)]) [2, 1] 8 (by kernel_rfl) (by kernel_rfl) (by kernel_rfl) (by kernel_rfl)).met
theorem witness_row (os : Os) {H : Type} (enc : TypeId × Value → H) :
    (OpenSpec.ofChange Rows.putsSpec).preRow enc Tryz.prog Tryz.f3 Rows.putsRow.domain false Rows.putsRow.laid ((laidWorld os).forCall (fun _ _ => 0) ⟨#[], #[.slice none 0 0], []⟩).memory #[.slice none 0 0] := by
  have hw : (DataW.whole enc Tryz.prog ((laidWorld os).forCall (fun _ _ => 0) ⟨#[], #[.slice none 0 0], []⟩).memory Tryz.f3.params.toList Rows.putsSpec.vars false #[Value.slice none 0 0].toList 8).map (fun x => (x.1, x.2.1)) =
      some ([.nil], []) := by kernel_rfl
  obtain ⟨⟨x1, x2, x3⟩, hx, hx1⟩ := Option.map_eq_some_iff.1 hw
  simp only [Prod.mk.injEq] at hx1
  obtain ⟨rfl, rfl⟩ := hx1
  exact OpenSpec.preRow_of_cond 8 hx (by kernel_rfl) (fun k hk => by cases hk) (by kernel_rfl) (laid_met os _)

set_option maxRecDepth 100000 in
set_option maxHeartbeats 2000000 in
theorem lifted (os : Os) (started : os.Started) (H : Type) (enc : TypeId × Value → H) (F : Stop.Interp) :
    ReturnsInHanded {} Tryz.checked os 3 .any ((OpenSpec.ofChange Rows.putsSpec).preRow enc Tryz.prog Tryz.f3 Rows.putsRow.domain false Rows.putsRow.laid) (((OpenSpec.ofChange Rows.putsSpec).at F).post enc Tryz.prog Tryz.f3 false true false false) := by
  refine returnsInHanded_of_row (C := Tryz.checked) (s := OpenSpec.ofChange Rows.putsSpec) own started (by kernel_rfl) Tryz.func3
    (witness_row_at (enc := enc) (C := Tryz.checked) false (laidWorld os) #[.slice none 0 0] rfl (by kernel_rfl) (by kernel_rfl) (by kernel_rfl) (witness_row os enc)) ?_
  intro W base args ds gs before hval hW _ _ hreach hL _ _
  exact contract H enc W base args ds gs before hval hW hreach

theorem said : Rows.PutsSaid :=
  OpenClaim.holds_of_cond 3 Tryz.f3 rfl rfl rfl rfl rfl rfl rfl ⟨rfl, rfl, rfl, rfl, rfl⟩ rfl rfl rfl rfl rfl (by kernel_rfl) Tryz.func3 (by kernel_rfl)
    (of_decide_eq_true (by kernel_rfl)) (by unfold Func.isWrapper; first | (rw [if_pos (by decide +kernel)]; kernel_rfl) | (rw [if_neg (by decide +kernel)]; exact ⟨rfl, rfl⟩))
    (fun os started H enc _ F => by rw [OpenClaim.pre_eq_preRow]; exact lifted os started H enc F)
theorem plain (f : FuncId) (fn : Func) (hf : Tryz.pinned.checked.prog.funcNamed "cairn/cairnlaw.Puts" = some f) (hfn : Tryz.pinned.checked.prog.funcs[f]? = some fn) :
    false = Tryz.pinned.checked.prog.looks [] ∧ ∀ (j : Nat) t, fn.params[j]? = some t → Tryz.pinned.checked.prog.wantsStandIn t = false := by
  obtain rfl : f = 3 := Option.some.inj ((show Tryz.prog.funcNamed "cairn/cairnlaw.Puts" = some 3 by kernel_rfl).symm.trans hf) |>.symm
  obtain rfl : fn = Tryz.f3 := (Option.some.inj (Tryz.func3.symm.trans hfn)).symm
  refine ⟨by kernel_rfl, fun j t ht => ?_⟩
  rw [Tryz.params3] at ht
  obtain rfl : t = 22 := by simpa using Array.mem_of_getElem? ht
  exact (show Tryz.prog.wantsStandIn 22 = false by kernel_rfl)
theorem card : Rows.PutsCardSaid :=
  Claim7.holds_tied_plain_at .later [] _ _ _ _ said (fun _ h => by cases h) (by kernel_rfl) (fun _ h => by cases h) puts_row_tie rfl ⟨rfl, rfl⟩ (by kernel_rfl) rfl plain (by kernel_rfl)
end Go.Proofs.YtcoengihaobddaaGreatDoor.puts
namespace Go.Proofs.YtcoengihaobddaaGreatDoor
/-- THE STATEMENT. -/
theorem puts_holds : Rows.PutsCardSaid := puts.card
end Go.Proofs.YtcoengihaobddaaGreatDoor

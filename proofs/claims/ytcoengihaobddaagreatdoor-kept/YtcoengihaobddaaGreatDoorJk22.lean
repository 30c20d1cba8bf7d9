/- Part 22 of 34 of a proof: Rng1, Rng2, Rng3, BWalk1, Chunk1, Coll1, Back1 -/
import Derived.Test.YtcoengihaobddaaGreatDoorJk18
import Derived.RangeFuncRecord
import Derived.RangeFuncSeq
import Derived.RangeFuncBound
import Derived.RangeFuncCalls
import Derived.OwnWalkIn
import Derived.TacticsInMore
import Derived.Shelf.RegionOpen
set_option maxHeartbeats 8000000
set_option linter.unusedVariables false
set_option linter.unusedSimpArgs false
set_option maxRecDepth 8000
namespace Go.Proofs.YtcoengihaobddaaGreatDoor
namespace prog
open Go.RowKit disk
theorem Kept.putObj{S:Nat→Prop}(w:World)(l:Nat)(o:Obj)(h:S l):Kept S w (w.putObj l o):=
 ⟨rfl,rfl,rfl,by simp,fun k _ hn=>World.putObj_heap_other (fun e=>hn (e▸h))⟩
def Vw{α:Type}(F:Fence)(n:Nat)(P:Program)(g:Nat)(lb:Array Value)(encs:α→Array Value)(Z:Nat→Prop)(Inv:Int→List α→World→Prop)(xf:Int→List α→α→World→Prop)(S Sp:Int→List α→Prop)(r0:Int)(W:World):Prop:=
 ∀(l:Nat) (J:Int→List α→(Nat→Prop)→World→Prop) (Jx:Int→List α→World→Prop),
  (∀r pre Q A,J r pre Q A→Inv r pre A∧∀k,Q k→k<A.heap.size)→
  (∀r r' pre Q A B,J r pre Q A→r≤r'→Kept Z A B→Inv r' pre B→J r' pre Q B)→
  (∀r pre x Q A,J r pre Q A→xf r pre x A→YieldAt F (n-1) P l (encs x) A fun e A'=>
   (e=.returned (.bool true)∧∃Q',J r (pre++[x]) Q' A'∧Kept (fun k=>k<W.heap.size∨Q k) A A'∧∀k,Q' k→Q k∨A.heap.size≤k)∨(e=.returned (.bool false)∧Jx r (pre++[x]) A'))→
  J r0 [] (fun _=>False) W→
  CallsIn F n P g (#[.func (.yield l) #[] #[]]++lb) W fun e W'=>(∃v,e=.returned v)∧((∃r xs Q,S r xs∧J r xs Q W')∨(∃r pre,Sp r pre∧Jx r pre W'))
def YH{α:Type}(B:Nat)(Q:Nat→Prop)(I:Int→List α→(Nat→Prop)→World→Prop)(Ix:Code→Int→List α→World→Prop)(r:Int)(xs:List α)(W:World):Exit→Act→World→Prop
 |.normal,_,W'=>Kept (fun k=>k<B∨Q k) W W'∧∃Q',I r xs Q' W'∧∀k,Q' k→Q k∨W.heap.size≤k
 |.ret,_,W'=>Kept (fun k=>k<B∨Q k) W W'∧Ix .ret r xs W'
 |.exit id,_,W'=>Kept (fun k=>k<B∨Q k) W W'∧Ix (.exit id) r xs W'
 |.goto t,_,W'=>Kept (fun k=>k<B∨Q k) W W'∧Ix (.goto t) r xs W'
 |.panic _,_,_=>False
 |.outgrown,_,_=>False
variable {F:Fence} {n:Nat} {P:Program}
theorem QW{α:Type}{g:Operand}{ps:Array Tmp}{assign body:Code}{K:Exit→Act→World→Prop}{a:Act}{w:World}
 (hro:F.round=none) (h1:1≤n) {gf:Nat} {lb:Array Value} (hg:a.eval g=.func (.func gf) #[] lb) (hFg:F.fn gf) (eg:∀args w,(callFunc gf args).run P w=.ok (.enter gf args) w)
 {encs:α→Array Value} {Z:Nat→Prop} {Inv:Int→List α→World→Prop} {xf:Int→List α→α→World→Prop} {S Sp:Int→List α→Prop} {r0:Int}
 (hseq:∀W1,Kept (fun _=>False) w W1→W1.heap.size=w.heap.size+2→Vw F (n-1) P gf lb encs Z Inv xf S Sp r0 W1)
 (hZ:∀k,Z k→k<w.heap.size) (hps:∀x,(encs x).size=ps.size)
 (I:Int→List α→(Nat→Prop)→World→Prop) (Ix:Code→Int→List α→World→Prop)
 (hIi:∀r pre Q A,I r pre Q A→Inv r pre A∧∀k,Q k→k<A.heap.size∧k≠w.heap.size∧k≠w.heap.size+1)
 (hIs:∀r r' pre Q A B,I r pre Q A→r≤r'→Kept Z A B→Inv r' pre B→I r' pre Q B)
 (hIk:∀r pre Q A B,I r pre Q A→Kept (fun k=>k=w.heap.size∨k=w.heap.size+1) A B→I r pre Q B)
 (hIx:∀c r pre A B,Ix c r pre A→Kept (fun k=>k=w.heap.size∨k=w.heap.size+1) A B→Ix c r pre B)
 (h0:I r0 [] (fun _=>False) w) (Ax:α→Act→World→Prop)
 (hAx:∀x a A B,Ax x a A→Kept (fun k=>k=w.heap.size∨k=w.heap.size+1) A B→Ax x a B)
 (hHere:∀r pre x A B,xf r pre x A→Kept (fun k=>k=w.heap.size∨k=w.heap.size+1) A B→xf r pre x B)
 (hassign:∀(l:Nat) (r:Int) (pre:List α) (x:α) (Q:Nat→Prop) (W:World) (K:Act→World→Prop),I r pre Q W→xf r pre x W→w.heap.size+1<W.heap.size→
  (∀a' W',Kept (fun _=>False) W W'→I r pre Q W'→xf r pre x W'→Ax x a' W'→K a' W')→
  assign.wpIn (F.inRound l) (n-1-1) P (Exit.then K (fun _ _ _=>False)) {tmps:=(ps.zip (encs x)).foldl (fun t (p,v)=>t.setIfInBounds p v) a.tmps,defers:=[]} W)
 (hbody:∀(l:Nat) (r:Int) (pre:List α) (x:α) (Q:Nat→Prop) (a':Act) (W:World),I r pre Q W→xf r pre x W→Ax x a' W→w.heap.size+1<W.heap.size→body.wpIn (F.inRound l) (n-1-1) P (YH w.heap.size Q I Ix r (pre++[x]) W) a' W)
 (hdone:∀(D:Nat) (r:Int) (xs:List α) (Q:Nat→Prop) (W:World),S r xs→I r xs Q W→D=w.heap.size→W.heap[D]? =some (.deferred (some []))→K .normal {a with defers:={target:=.collected D,args:=#[]}::a.defers} W)
 (hstop:∀(D:Nat) (c:Code) (r:Int) (pre:List α) (W:World),Sp r pre→Ix c r pre W→D=w.heap.size→W.heap[D]? =some (.deferred (some []))→c.wpIn F n P K {a with defers:={target:=.collected D,args:=#[]}::a.defers} W):
 (Code.rangeFunc g ps assign body).wpIn F n P K a w:=by
 refine wpIn_rangeFunc ?_
 intro fn hfn
 rw [hro]
 obtain⟨rec,hrec⟩:∃rec:LoopState→Option Code→Loop,rec=fun st pe=>{state:=st,pending:=pe,fn,tmps:=a.tmps,params:=ps,assign,body,defers:=w.heap.size}:=⟨_,rfl⟩
 obtain⟨W1,hW1⟩:∃W1,(w.alloc (.deferred (some []))).alloc (.loop (rec .ready none))=W1:=⟨_,rfl⟩
 have hL1:W1.heap[w.heap.size+1]? =some (.loop (rec .ready none)):=by
  rw [←hW1];have:=World.alloc_heap_new (w.alloc (.deferred (some []))) (.loop (rec .ready none));rwa [World.size_alloc] at this
 have hK1:W1.heap[w.heap.size]? =some (.deferred (some [])):=by
  rw [←hW1];exact(Below.heap_alloc _ _ _ (by simp)).trans (World.alloc_heap_new w _)
 have hk01:Kept (fun _=>False) w W1:=by rw [←hW1];exact(Kept.alloc _ _ _).trans (Kept.alloc _ _ _) iL
 have hs1:W1.heap.size=w.heap.size+2:=by rw [←hW1];simp
 have hI1:I r0 [] (fun _=>False) W1:=hIk _ _ _ _ _ h0 (hk01.mono (fun _ h=>h.elim))
 refine⟨w.heap.size+1,[{target:=.collected w.heap.size,args:=#[] }],W1,{target:=.fn (.func gf) lb,args:=#[.func (.yield (w.heap.size+1)) #[] #[]]},W1,gf,
  #[.func (.yield (w.heap.size+1)) #[] #[]]++lb,W1,?_,?_,?_,?_,fun _=>h1,?_⟩
 ·rw [←hW1,hrec];exact run_enterLoop_outer _ _ _ _ _
 ·simp only [resolve,hg]
  simp [go_sem]
 ·intro f' hf';simp [Target.leads] at hf';subst hf';exact hFg
 ·simp [invoke,go_sem,eg]
 ·refine(hseq W1 hk01 hs1 (w.heap.size+1)
   (fun r pre Q W=>I r pre Q W∧W.heap[w.heap.size+1]? =some (.loop (rec .ready none))∧W.heap[w.heap.size]? =some (.deferred (some [])))
   (fun r pre W=>∃c,Ix c r pre W∧W.heap[w.heap.size+1]? =some (.loop (rec .done (some c)))∧W.heap[w.heap.size]? =some (.deferred (some [])))
   (fun r pre Q A h=>⟨(hIi _ _ _ _ h.1).1,fun k hk=>((hIi _ _ _ _ h.1).2 k hk).1⟩)
   (fun r r' pre Q A B h hr hk hi=>by
    have l1:=(lT h.2.1)
    exact⟨hIs _ _ _ _ _ _ h.1 hr hk hi,(hk.block _ l1 (fun hz=>by have:=hZ _ hz;omega)).trans h.2.1,(hk.block _ (by omega) (fun hz=>by have:=hZ _ hz;omega)).trans h.2.2⟩)
   ?_ ⟨hI1,hL1,hK1⟩).mono ?_
  ·rintro r pre x Q W ⟨hi,hl,hk⟩ hh
   have hlt:w.heap.size+1<W.heap.size:=(lT hl)
   have hy:=run_yield (P:=P) (args:=encs x) hl (by rw [hrec];exact hps x)
   rw [hrec] at hy
   refine⟨fn,_,assign,body,hy,roundIn_of_wpIn hfn (hassign _ r pre x Q W _ hi hh hlt ?_)⟩
   intro a' Wa hka hia hha hax
   have hlt':w.heap.size+1<Wa.heap.size:=Nat.lt_of_lt_of_le hlt hka.size
   have hla:Wa.heap[w.heap.size+1]? =some (.loop (rec .ready none)):=(hka.block _ hlt (fun hf=>hf)).trans hl
   have hda:Wa.heap[w.heap.size]? =some (.deferred (some [])):=(hka.block _ (by omega) (fun hf=>hf)).trans hk
   refine⟨_,run_beginRound hla (by rw [hrec]),?_⟩
   have kb:Kept (fun k=>k=w.heap.size∨k=w.heap.size+1) Wa (Wa.putObj (w.heap.size+1) (.loop {rec .ready none with state:=.busy })):=Kept.putObj _ _ _ (.inr rfl)
   have hl2:(Wa.putObj (w.heap.size+1) (.loop {rec .ready none with state:=.busy })).heap[w.heap.size+1]? =some (.loop {rec .ready none with state:=.busy }):=World.putObj_heap_same hlt'
   have hd2:(Wa.putObj (w.heap.size+1) (.loop {rec .ready none with state:=.busy })).heap[w.heap.size]? =some (.deferred (some [])):=(World.putObj_heap_other (by omega)).trans hda
   have hs2:(Wa.putObj (w.heap.size+1) (.loop {rec .ready none with state:=.busy })).heap.size=Wa.heap.size:=by simp
   refine wpIn_mono (hbody _ r pre x Q a' _ (hIk _ _ _ _ _ hia kb) (hHere _ _ _ _ _ hha kb) (hAx _ _ _ _ hax kb) (by rw [hs2];exact hlt')) ?_
   have hnQ:∀k,k=w.heap.size∨k=w.heap.size+1→¬(k<w.heap.size∨Q k):=fun k hk hc=>by
    rcases hc with hc|hc
    ·omega
    ·have:=(hIi _ _ _ _ hia).2 k hc;omega
   have fin:∀(jump:Option Code) (W3:World),Kept (fun k=>k<w.heap.size∨Q k) (Wa.putObj (w.heap.size+1) (.loop {rec .ready none with state:=.busy })) W3→
    (Instr.endRound (w.heap.size+1) jump).run P W3=.ok (.bool jump.isNone) (W3.putObj (w.heap.size+1) (.loop (rec (if jump.isNone then .ready else .done) jump)))∧
    Kept (fun k=>k=w.heap.size∨k=w.heap.size+1) W3 (W3.putObj (w.heap.size+1) (.loop (rec (if jump.isNone then .ready else .done) jump)))∧
    (W3.putObj (w.heap.size+1) (.loop (rec (if jump.isNone then .ready else .done) jump))).heap[w.heap.size+1]? =some (.loop (rec (if jump.isNone then .ready else .done) jump))∧
    (W3.putObj (w.heap.size+1) (.loop (rec (if jump.isNone then .ready else .done) jump))).heap[w.heap.size]? =some (.deferred (some [])):=fun jump W3 hk3=>by
    have hl3:=(hk3.block _ (by rw [hs2];exact hlt') (hnQ _ (.inr rfl))).trans hl2
    have hd3:=(hk3.block _ (by rw [hs2];omega) (hnQ _ (.inl rfl))).trans hd2
    have:=run_endRound (P:=P) jump hl3
    rw [hrec] at this ⊢
    exact⟨this,Kept.putObj _ _ _ (.inr rfl),World.putObj_heap_same (lT hl3),(World.putObj_heap_other (by omega)).trans hd3⟩
   have whole:∀(jump:Option Code) (W3:World),Kept (fun k=>k<w.heap.size∨Q k) (Wa.putObj (w.heap.size+1) (.loop {rec .ready none with state:=.busy })) W3→
    Kept (fun k=>k<W1.heap.size∨Q k) W (W3.putObj (w.heap.size+1) (.loop (rec (if jump.isNone then .ready else .done) jump))):=fun jump W3 hk3=>by
    have k1:Kept (fun k=>k<W1.heap.size∨Q k) W Wa:=hka.mono (fun _ h=>h.elim)
    have k2:=k1.trans kb (fun i hi=>.inl (.inl (by rw [hs1];omega)))
    have k3:=k2.trans hk3 (fun i hi=>.inl (by rcases hi with hi|hi;exact .inl (by rw [hs1];omega);exact .inr hi))
    exact k3.trans (Kept.putObj (S:=fun k=>k=w.heap.size+1) _ _ _ rfl) (fun i hi=>.inl (.inl (by rw [hs1];omega)))
   rintro e a3 W3 hp
   cases e with
   |normal=>
    obtain⟨hk3,Q',hi3,hq3⟩:=hp
    obtain⟨hr,hkr,hl4,hd4⟩:=fin none W3 hk3
    exact⟨_,_,hr,.inl ⟨rfl,Q',⟨hIk _ _ _ _ _ hi3 hkr,hl4,hd4⟩,whole none W3 hk3,fun k hk=>(hq3 k hk).imp id (fun h=>by rw [hs2] at h;exact Nat.le_trans hka.size h)⟩⟩
   |ret=>
    obtain⟨hk3,hi3⟩:=hp
    obtain⟨hr,hkr,hl4,hd4⟩:=fin (some .ret) W3 hk3
    exact⟨_,_,hr,.inr ⟨rfl,.ret,hIx _ _ _ _ _ hi3 hkr,hl4,hd4⟩⟩
   |exit id=>
    obtain⟨hk3,hi3⟩:=hp
    obtain⟨hr,hkr,hl4,hd4⟩:=fin (some (.exit id)) W3 hk3
    exact⟨_,_,hr,.inr ⟨rfl,.exit id,hIx _ _ _ _ _ hi3 hkr,hl4,hd4⟩⟩
   |goto t=>
    obtain⟨hk3,hi3⟩:=hp
    obtain⟨hr,hkr,hl4,hd4⟩:=fin (some (.goto t)) W3 hk3
    exact⟨_,_,hr,.inr ⟨rfl,.goto t,hIx _ _ _ _ _ hi3 hkr,hl4,hd4⟩⟩
   |panic ch=>exact hp.elim
   |outgrown=>exact hp.elim
  ·rintro e W2 ⟨⟨v,rfl⟩,(⟨r,xs,Q,hS,hi,hl,hk⟩|⟨r,pre,hSp,c,hi,hl,hk⟩)⟩
   ·exact⟨none,_,by have:=run_endLoop (P:=P) hl (by rw [hrec];simp);rw [hrec] at this;exact this,hdone _ r xs Q _ hS (hIk _ _ _ _ _ hi (Kept.putObj _ _ _ (.inr rfl))) rfl ((World.putObj_heap_other (by omega)).trans hk)⟩
   ·exact⟨some c,_,by have:=run_endLoop (P:=P) hl (by rw [hrec];simp);rw [hrec] at this;exact this,hstop _ c r pre _ hSp (hIx c _ _ _ _ hi (Kept.putObj _ _ _ (.inr rfl))) rfl ((World.putObj_heap_other (by omega)).trans hk)⟩
theorem fl{F:Fence}(hd:F.depth=none)(k:Nat):F.room k:=fun d h=>by rw [hd] at h;cases h
theorem uY{F:Fence}(hd:F.depth=none){m m':Nat}{P:Program}{l:Nat}{f:FuncId}{tmps:Array Value}{assign body:Code}{w:World}{R:Ending→World→Prop}
 (h:RoundIn F m P l f tmps assign body w R):RoundIn F m' P l f tmps assign body w R:=⟨h.1,fun c cs _=>h.2 c cs (fl hd _)⟩
theorem uZ{F:Fence}(hd:F.depth=none){m:Nat}(m':Nat){P:Program}{l:Nat}{args:Array Value}{W:World}{R:Ending→World→Prop}(h:YieldAt F m P l args W R):YieldAt F m' P l args W R:=by
 obtain⟨fn,tmps,assign,body,hy,hR⟩:=h
 exact⟨fn,tmps,assign,body,hy,uY hd hR⟩
def fm{α:Type}(J:Int→List α→(Nat→Prop)→World→Prop)(Jx:Int→List α→World→Prop)(B:Nat)(r:Int)(xs:List α)(Q:Nat→Prop)(A:World)(e:Ending)(A':World):Prop:=
 (e=.returned (.bool true)∧∃Q',J r xs Q' A'∧Kept (fun k=>k<B∨Q k) A A'∧∀k,Q' k→Q k∨A.heap.size≤k)∨(e=.returned (.bool false)∧Jx r xs A')
def kF{α:Type}(P:Program)(g:Nat)(lb:Array Value)(encs:α→Array Value)(Z:Nat→Prop)(Inv:Int→List α→World→Prop)(xf:Int→List α→α→World→Prop)(S Sp:Int→List α→Prop)(r0:Int)(W:World):Prop:=
 ∀(l:Nat) (J:Int→List α→(Nat→Prop)→World→Prop) (Jx:Int→List α→World→Prop),
  (∀r pre Q A,J r pre Q A→Inv r pre A∧∀k,Q k→k<A.heap.size)→
  (∀r r' pre Q A B,J r pre Q A→r≤r'→Kept Z A B→Inv r' pre B→J r' pre Q B)→
  (∀m r pre x Q A,J r pre Q A→xf r pre x A→YieldAt Fence.wide m P l (encs x) A (fm J Jx W.heap.size r (pre++[x]) Q A))→
  J r0 [] (fun _=>False) W→
  Calls P g (#[.func (.yield l) #[] #[]]++lb) W fun e W'=>(∃v,e=.returned v)∧((∃r xs Q,S r xs∧J r xs Q W')∨(∃r pre,Sp r pre∧Jx r pre W'))
theorem kF.seqR{α:Type}{P:Program}{g:Nat}{lb:Array Value}{encs:α→Array Value}{Z:Nat→Prop}{Inv:Int→List α→World→Prop}{xf:Int→List α→α→World→Prop}{S Sp:Int→List α→Prop}{r0:Int}{W:World}
 (h:kF P g lb encs Z Inv xf S Sp r0 W) (n:Nat):Vw Fence.wide n P g lb encs Z Inv xf S Sp r0 W:=fun l J Jx h1 h2 h3 h4=>
 callsIn_wide.2 (h l J Jx h1 h2 (fun m r pre x Q A hj hh=>uZ rfl m (h3 r pre x Q A hj hh)) h4)
variable {P:Program}
theorem jS{α:Type}{g:Operand}{ps:Array Tmp}{assign body:Code}{K:Exit→Act→World→Prop}{a:Act}{w:World}
 {gf:Nat} {lb:Array Value} (hg:a.eval g=.func (.func gf) #[] lb) (eg:∀args w,(callFunc gf args).run P w=.ok (.enter gf args) w)
 {encs:α→Array Value} {Z:Nat→Prop} {Inv:Int→List α→World→Prop} {xf:Int→List α→α→World→Prop} {S Sp:Int→List α→Prop} {r0:Int}
 (hseq:∀W1,Kept (fun _=>False) w W1→W1.heap.size=w.heap.size+2→kF P gf lb encs Z Inv xf S Sp r0 W1)
 (hZ:∀k,Z k→k<w.heap.size) (hps:∀x,(encs x).size=ps.size)
 (I:Int→List α→(Nat→Prop)→World→Prop) (Ix:Code→Int→List α→World→Prop)
 (hIi:∀r pre Q A,I r pre Q A→Inv r pre A∧∀k,Q k→k<A.heap.size∧k≠w.heap.size∧k≠w.heap.size+1)
 (hIs:∀r r' pre Q A B,I r pre Q A→r≤r'→Kept Z A B→Inv r' pre B→I r' pre Q B)
 (hIk:∀r pre Q A B,I r pre Q A→Kept (fun k=>k=w.heap.size∨k=w.heap.size+1) A B→I r pre Q B)
 (hIx:∀c r pre A B,Ix c r pre A→Kept (fun k=>k=w.heap.size∨k=w.heap.size+1) A B→Ix c r pre B)
 (h0:I r0 [] (fun _=>False) w) (Ax:α→Act→World→Prop)
 (hAx:∀x a A B,Ax x a A→Kept (fun k=>k=w.heap.size∨k=w.heap.size+1) A B→Ax x a B)
 (hHere:∀r pre x A B,xf r pre x A→Kept (fun k=>k=w.heap.size∨k=w.heap.size+1) A B→xf r pre x B)
 (hassign:∀(l:Nat) (r:Int) (pre:List α) (x:α) (Q:Nat→Prop) (W:World) (K:Act→World→Prop),I r pre Q W→xf r pre x W→w.heap.size+1<W.heap.size→
  (∀a' W',Kept (fun _=>False) W W'→I r pre Q W'→xf r pre x W'→Ax x a' W'→K a' W')→
  assign.wpIn (Fence.wide.inRound l) 0 P (Exit.then K (fun _ _ _=>False)) {tmps:=(ps.zip (encs x)).foldl (fun t (p,v)=>t.setIfInBounds p v) a.tmps,defers:=[]} W)
 (hbody:∀(l:Nat) (r:Int) (pre:List α) (x:α) (Q:Nat→Prop) (a':Act) (W:World),I r pre Q W→xf r pre x W→Ax x a' W→w.heap.size+1<W.heap.size→body.wpIn (Fence.wide.inRound l) 0 P (YH w.heap.size Q I Ix r (pre++[x]) W) a' W)
 (hdone:∀(D:Nat) (r:Int) (xs:List α) (Q:Nat→Prop) (W:World),S r xs→I r xs Q W→D=w.heap.size→W.heap[D]? =some (.deferred (some []))→K .normal {a with defers:={target:=.collected D,args:=#[]}::a.defers} W)
 (hstop:∀(D:Nat) (c:Code) (r:Int) (pre:List α) (W:World),Sp r pre→Ix c r pre W→D=w.heap.size→W.heap[D]? =some (.deferred (some []))→c.wp P K {a with defers:={target:=.collected D,args:=#[]}::a.defers} W):
 (Code.rangeFunc g ps assign body).wp P K a w:=
 (wpIn_wide (n:=2)).1 (QW (F:=Fence.wide) (n:=2) rfl (by omega) hg trivial eg (fun W1 h1 h2=>(hseq W1 h1 h2).seqR 1) hZ hps I Ix hIi hIs hIk hIx h0 Ax hAx hHere hassign hbody hdone
  (fun D c r pre W h1 h2 h3 h4=>wpIn_wide.2 (hstop D c r pre W h1 h2 h3 h4)))
def YI(P:Program)(fn:Func)(R:Ending→World→Prop):Exit→Act→World→Prop:=bodyPostM Fence.wide 2 P fn R
theorem yy{f:FuncId}{fn:Func}{c:Code}{args:Array Value}{w:World}{R:Ending→World→Prop}(hf:P.funcs[f]? =some fn)(hb:fn.body=some c)
 (h:c.wp P (YI P fn R) {tmps:=args++Array.replicate (fn.ntmps-args.size) undef,defers:=[]} w):Calls P f args w R:=
 (callsIn_wide (n:=2)).1 (callsIn_of_wp_marks hf hb trivial ((wpIn_wide (n:=2)).2 h) rfl)
theorem jo{fn:Func}{R:Ending→World→Prop}{a:Act}{w:World}{D:Nat}{v:Value}(hd:a.defers=[{target:=.collected D,args:=#[] }])(hK:w.heap[D]? =some (.deferred (some [])))
 (hr:(results fn a.tmps).run P (w.putObj D (.deferred none))=.ok v (w.putObj D (.deferred none))) (hR:R (.returned v) (w.putObj D (.deferred none))):YI P fn R .ret a w:=by
 show LeavesInM _ _ _ _ _ _ _ _ _
 rw [hd]
 exact⟨by simp,.inl ⟨D,_,rfl,run_takeDeferred hK,v,hr,hR⟩⟩
structure Open (F:Fence):Prop where
 fn:∀f,F.fn f
 depth:F.depth=none
 calls:∀{n:Nat} {P:Program} {f:FuncId} {args:Array Value} {w:World} {R:Ending→World→Prop},Calls P f args w R→CallsIn F n P f args w R
 rows:∀{n:Nat} {P:Program} {row:String} {args:Array Value} {w:World} {R:Value→World→Prop},Rows P row args w R→RowsIn F n P row args w R
theorem uP{n:Nat}{P:Program}{row:String}{args:Array Value}{w:World}{R:Value→World→Prop}(h:Rows P row args w R):RowsIn Fence.wide n P row args w R:=fun c cs _=>
 let ⟨v,w',r,s⟩:=h c cs;⟨v,w',r,stepsIn_wide.2 s⟩
theorem kf:Open Fence.wide:=⟨fun _=>trivial,rfl,callsIn_wide.2,uP⟩
theorem yz(l:Nat):Open (Fence.wide.inRound l):=⟨fun _=>trivial,rfl,fun h=>CallsIn.inRound l (callsIn_wide.2 h),fun h=>uP h⟩
theorem Open.upon{F:Fence}(hF:Open F){n:Nat}{P:Program}{o:Oper}{a:Act}{next:Act→World→Prop}{Q:Exit→Act→World→Prop}{r:Result Next}(h:o.upon P a next Q r):o.uponIn F n P a next Q r:=by
 have hd:F.depth.isSome=true→1≤n:=fun h=>by rw [hF.depth] at h;cases h
 cases r with
 |ok x w'=>
  cases x with
  |value v=>exact h
  |skip=>exact h
  |defer d=>exact h
  |enter f args=>exact⟨hd,hF.calls h⟩
  |row row args=>exact⟨hd,hF.rows h⟩
  |round l f tmps assign body=>exact h.elim
  |_=>exact h.elim
 |halt x w'=>
  cases x with
  |panic v=>exact h
  |_=>exact h.elim
theorem Open.op{F:Fence}(hF:Open F){n:Nat}{P:Program}{ops:Array Oper}{Q:Exit→Act→World→Prop}{a:Act}{w:World}{rest:List Oper}{o:Oper}(hg:o.guard=none)(hd:∀c,o.op≠.defer c)
 (h:∀K:Act→World→Prop,(∀a w,wpListIn F n P ops Q rest a w→K a w)→o.wp P a w K Q):wpListIn F n P ops Q (o::rest) a w:=by
 refine wpListIn_plain hg fun K hK=>⟨fun f _=>hF.fn f,?_⟩
 rw [Oper.semAt_plain F _ _ hd]
 exact hF.upon (h K hK)
theorem Open.store_new{F:Fence}(hF:Open F){m:Nat}{P:Program}{ops:Array Oper}{rest:List Oper}{op:Oper}{a:Act}{W:World}{Q:Exit→Act→World→Prop}(hgd:op.guard=none)(ty:TypeId)(x y:Operand)(ho:op.op=.store ty x y)
 (n:Nat) (c:Array Value) (cs:List Value) (hn:n=W.heap.size) (hx:a.eval x=.pointer (some ⟨n,0,none⟩)) (hy:a.eval y=.agg cs.toArray)
 (hi:(P.info? ty).map (·.size)=some cs.length) (hc:c.size=cs.length) (h1:∀v∈cs,v.oneCell'=true)
 (h:wpListIn F m P ops Q rest (a.put op.dst undef) (W.alloc (.cells cs.toArray ty))):wpListIn F m P ops Q (op::rest) a (W.alloc (.cells c ty)):=by
 subst hn
 refine hF.op hgd (by rw [ho];intro c hc;cases hc) fun _ hK=>?_
 unfold Oper.wp execOp
 simp only [ho,hx,hy,run_storeAt_new (P:=P) W ty c cs.toArray (by simpa using hi) (by simpa using hc) (all_oneCell_toArray h1),Sem.run_bind,Result.andThen_ok,Sem.run_pure]
 exact hK _ _ h
end prog
namespace prog
open Go.ChangeShapes Go.WideShapes Go.ChangeAt Go.RowKit disk ref
open keys (ze zd zr zn)
attribute [local go_sem] Oper.semAt_some
def z9(next:Nat)(l:List UInt8):Pg:=⟨6,next,l.map fun b=>[b]⟩
theorem kg{next:Nat}{l:List UInt8}(h:next<65536)(hl:l.length≤124):(z9 next l).Ok where
 kind:=by simp [z9]
 link:=h
 wide:=fun i hi=>by obtain⟨b,_,rfl⟩:=List.mem_map.1 hi;rfl
 fits:=by simp [z9,zk];omega
 few:=by simp [z9];omega
structure zq where
 at_:Nat
 l:List UInt8
structure zq.Ok (p:zq):Prop where
 at_:p.at_<65536
 pos:p.at_≠0
 len:p.l.length≤124
def yA:List zq→Nat
 |[]=>0
 |p::_=>p.at_
def yp(rd:Nat→List Value):List zq→Prop
 |[]=>True
 |p::r=>p.Ok∧rd p.at_=zl (z9 (yA r) p.l)∧yp rd r
theorem yp.ok{rd:Nat→List Value}:∀{ps:List zq},yp rd ps→∀p∈ps,p.Ok
 |p::r,h,q,hq=>by
  rcases List.mem_cons.1 hq with rfl|hq
  ·exact h.1
  ·exact yp.ok h.2.2 q hq
theorem yp.congr{rd rd':Nat→List Value}:∀{ps:List zq},yp rd ps→(∀p∈ps,rd' p.at_=rd p.at_)→yp rd' ps
 |[],_,_=>trivial
 |p::r,h,e=>⟨h.1,(e p (List.mem_cons_self ..)).trans h.2.1,yp.congr h.2.2 (fun q hq=>e q (List.mem_cons_of_mem _ hq))⟩
theorem JM{rd:Nat→List Value}{ps:List zq}(h:yp rd ps):yA ps<65536:=by
 cases ps with
 |nil=>show 0<65536;omega
 |cons p r=>exact h.1.at_
structure BP where
 p:zq
 g:Nat
def QX(x:BP):Array Value:=#[.int .i64 (x.p.at_:Int),.slice (some ⟨x.g,4,none⟩) x.p.l.length 124]
structure Zt (B:Nat) (ps:List zq) (pre:List BP) (x:BP) (A:World):Prop where
 pre:(pre.map BP.p++[x.p])<+:ps
 pg:∃next,qu A x.g (z9 next x.p.l)
 ge:B≤x.g
theorem yp.drop{rd:Nat→List Value}:∀{ps:List zq},yp rd ps→∀k,yp rd (ps.drop k)
 |_,h,0=>h
 |[],_,_+1=>trivial
 |_::_,h,k+1=>yp.drop h.2.2 k
theorem ve{ps:List zq}{k:Nat}(h:k<ps.length):yA (ps.drop k)=ps[k].at_:=by rw [List.drop_eq_getElem_cons h];rfl
theorem YJ{ps:List zq}(hnd:(ps.map zq.at_).Nodup)(hok:∀p∈ps,p.Ok){k:Nat}(hk:k≤ps.length):(ps.map zq.at_).findIdx (fun n:Nat=>decide ((n:Int)=(yA (ps.drop k):Nat)))=k:=by
 by_cases hlt:k<ps.length
 ·rw [ve hlt]
  rw [List.findIdx_eq (by simpa using hlt)]
  refine⟨by simp,fun j hj=>?_⟩
  have hj':j<(ps.map zq.at_).length:=by simp;omega
  have hk':k<(ps.map zq.at_).length:=by simpa using hlt
  have:=List.pairwise_iff_getElem.1 hnd j k hj' hk' hj
  simp at this ⊢
  omega
 ·have:k=ps.length:=by omega
  subst this
  rw [List.drop_length]
  have:(ps.map zq.at_).findIdx (fun n:Nat=>decide ((n:Int)=(yA []:Nat)))=(ps.map zq.at_).length:=by
   rw [List.findIdx_eq_length]
   intro n hn
   obtain⟨p,hp,rfl⟩:=List.mem_map.1 hn
   have:=(hok p hp).pos
   show decide ((p.at_:Int)=((0:Nat):Int))=false
   simp;exact this
  rw [this];simp
theorem dE(W:World)(T:TypeId)(f:FuncId)(a:Addr)(hrd:Jw T f a)(b1 b2:Nat)(ps:List zq)(rd:Nat→List Value)(hch:yp rd ps)(hnd:(ps.map zq.at_).Nodup)(Z:Nat→Prop)(Inv:Int→List BP→World→Prop)(r0:Int)
 (hZ:∀k,Z k→k<W.heap.size) (h1:W.heap[b1]? =some (.cells #[.int .i64 (yA ps:Int)] 3 (0,0)))
 (hbox:∀r pre A,Inv r pre A→A.heap[b2]? =some (.cells #[.iface T (.pointer (some a))] 193 (0,0)))
 (hkp:∀r pre A B,Inv r pre A→Kept (fun _=>False) A B→Inv r pre B)
 (hread:∀k (hk:k<ps.length) r pre A,Inv r pre A→pre.map BP.p=ps.take k→r≤r0+k→Calls Tryz.prog f #[.pointer (some a),.int .i64 (ps[k].at_:Int)] A fun e A'=>e=.returned (.agg (rd ps[k].at_).toArray)∧Kept Z A A'∧∃r',r≤r'∧r'≤r+1∧Inv r' pre A'):
 kF Tryz.prog 124 #[.pointer (some ⟨b1,0,none⟩),.pointer (some ⟨b2,0,none⟩)] QX Z Inv (fun r pre x A=>Zt W.heap.size ps pre x A∧r≤r0+pre.length+1) (fun r xs=>xs.map BP.p=ps∧r≤r0+ps.length) (fun _ _=>True) r0 W:=by
 intro l J Jx hJi hJs hJy hJ0
 have c1:W.cell? ⟨b1,0,none⟩=some (.int .i64 (yA ps:Int)):=cR h1 rfl
 have HJ0:PLift (J r0 [] (fun _=>False) W):=⟨hJ0⟩
 have HJI:Hid (∀r pre Q A,J r pre Q A→Inv r pre A∧∀k,Q k→k<A.heap.size):=hJi
 have HJS:Hid (∀r r' pre Q A B,J r pre Q A→r≤r'→Kept Z A B→Inv r' pre B→J r' pre Q B):=hJs
 have HJY:Hid (∀m r pre x Q A,J r pre Q A→(Zt W.heap.size ps pre x A∧r≤r0+pre.length+1)→YieldAt Fence.wide m Tryz.prog l (QX x) A (fm J Jx W.heap.size r (pre++[x]) Q A)):=hJy
 have HBOX:Hid (∀r pre A,Inv r pre A→A.heap[b2]? =some (.cells #[.iface T (.pointer (some a))] 193 (0,0))):=hbox
 have HKP:Hid (∀r pre A B,Inv r pre A→Kept (fun _=>False) A B→Inv r pre B):=hkp
 have HRD:Hid (∀k (hk:k<ps.length) r pre A,Inv r pre A→pre.map BP.p=ps.take k→r≤r0+k→Calls Tryz.prog f #[.pointer (some a),.int .i64 (ps[k].at_:Int)] A fun e A'=>e=.returned (.agg (rd ps[k].at_).toArray)∧Kept Z A A'∧∃r',r≤r'∧r'≤r+1∧Inv r' pre A'):=hread
 have HCH:Hid (yp rd ps):=hch
 have HND:Hid ((ps.map zq.at_).Nodup):=hnd
 have HZ:Hid (∀k,Z k→k<W.heap.size):=hZ
 obtain⟨Zb,hZb,hz⟩:∃Zb:List Value,Zb=zT∧∀w,(zeroValue 154).run Tryz.prog w=.ok (.agg Zb.toArray) w:=⟨zT,rfl,zV Tryz.infoPage⟩
 have HZb:Hid (zy Zb):=by rw [hZb];exact zF
 clear hZb
 have HI:Hid ((Tryz.prog.info? 154).map (·.size)=some 128):=zS Tryz.infoPage
 have hmeth:=hrd.meth
 have hent:=hrd.ent
 clear hJi hJs hJy hJ0 hbox hkp hread hch hZ h1 hnd
 go_enter Tryz.func124,Tryz.ntmps124
 go_wp2_with fail
 go_loopw [4] (fun t wr=>∃(k:Nat) (r:Int) (pre:List BP) (Q:Nat→Prop),k≤ps.length∧t=.int .i64 (yA (ps.drop k):Nat)∧J r pre Q wr∧pre.map BP.p=ps.take k∧r≤r0+k∧W.heap.size≤wr.heap.size∧∀j,Q j→W.heap.size≤j) (fun t wr=>ps.length-(ps.map zq.at_).findIdx (fun n:Nat=>decide ((n:Int)=intOf t)))
 case atStart=>exact⟨0,r0,[],_,Nat.zero_le _,by simp,HJ0.down,rfl,by simp,Nat.le_refl _,fun _ h=>h.elim⟩
 case round=>
  obtain⟨k,r,pre,Q,hk,rfl,hj,hpre,hrk,hszr,hQ⟩:=hrel
  have HJ:PLift (J r pre Q wr):=⟨hj⟩
  have HIr:=(HJI.out r pre Q wr hj).1
  have HQl:=(HJI.out r pre Q wr hj).2
  have HINV:PLift (Inv r pre wr):=⟨HIr⟩
  have HPRE:Hid (pre.map BP.p=ps.take k):=hpre
  have HQ:Hid (∀j,Q j→W.heap.size≤j∧j<wr.heap.size):=fun j h=>⟨hQ j h,HQl j h⟩
  have hplen:pre.length=k:=by have:=congrArg List.length hpre;simp at this;omega
  have HB2:Hid (wr.heap[b2]? =some (.cells #[.iface T (.pointer (some a))] 193 (0,0))):=HBOX.out _ _ _ HIr
  have c2:wr.cell? ⟨b2,0,none⟩=some (.iface T (.pointer (some a))):=cR HB2.out rfl
  have HIX:Hid ((ps.map zq.at_).findIdx (fun n:Nat=>decide ((n:Int)=(yA (ps.drop k):Nat)))=k):=YJ HND.out HCH.out.ok hk
  clear hj HIr HQl hpre hQ
  by_cases hlt:k<ps.length
  ·have hpo:=HCH.out.ok _ (List.getElem_mem hlt)
   have HCD:Hid (yp rd (ps.drop k)):=HCH.out.drop k
   have hpg:rd ps[k].at_=zl (z9 (yA (ps.drop (k+1))) ps[k].l):=by
    have:=HCD.out
    rw [List.drop_eq_getElem_cons hlt] at this
    exact this.2.1
   have HRDk:=HRD.out k hlt r pre wr HINV.down HPRE.out hrk
   have HC:Hid (Calls Tryz.prog f #[.pointer (some a),.int .i64 (ps[k].at_:Int)] wr fun e A'=>e=.returned (.agg (zl (z9 (yA (ps.drop (k+1))) ps[k].l)).toArray)∧Kept Z wr A'∧∃r',r≤r'∧r'≤r+1∧Inv r' pre A'):=by rw [hpg] at HRDk;exact HRDk
   have HPX:Hid (ps.take (k+1)=ps.take k++[ps[k]]):=by show _=_;exact List.take_succ_eq_append_getElem hlt
   have hnx:=JM (HCH.out.drop (k+1))
   have HPO:Hid (z9 (yA (ps.drop (k+1))) ps[k].l).Ok:=kg hnx hpo.len
   have hne:=hpo.pos
   have hlen:=hpo.len
   clear HRDk hpg hpo
   rw [ve hlt]
   generalize hpk:ps[k]=pk at*
   generalize hnk:yA (ps.drop (k+1))=nk at*
   have hnz:((pk.at_:Int) !=0)=true:=by simp;omega
   refine(wpIn_wide (n:=6)).1 ?_
   have HGV:Hid (∀g,xj g (z9 nk pk.l).kind (z9 nk pk.l).items.length=.slice (some ⟨g,4,none⟩) pk.l.length 124):=fun g=>by simp [xj,z9,zk]
   gi_wp2_with (first
    |(refine⟨trivial,(kf.calls HC.out).mono ?_⟩;rintro e w1 ⟨rfl,hk1,r1,hr1a,hr1b,hi1⟩;have HK1:Hid (Kept Z wr w1):=hk1;have HI1:PLift (Inv r1 pre w1):=⟨hi1⟩;clear hk1 hi1)
    |(show wpListIn _ _ _ _ _ ({dst:=none,op:=.store _ (.tmp 5) (.tmp 11),type:=_,pos:=_,after:=_,guard:=_}::_) _ _;refine kf.store_new rfl 154 (.tmp 5) (.tmp 11) rfl _ _ (zl (z9 nk pk.l)) (by simp) rfl rfl (by rw [bC HPO.out];exact HI.out) (by rw [List.size_toArray,HZb.out.1,bC HPO.out]) (qP HPO.out).2 ?_))
   have HKA:Hid (Kept (fun _=>False) w1 (w1.alloc (.cells (zl (z9 nk pk.l)).toArray 154))):=Kept.alloc _ _ _
   have HP:Hid (qu (w1.alloc (.cells (zl (z9 nk pk.l)).toArray 154)) w1.heap.size (z9 nk pk.l)):=⟨⟨heap_alloc_new w1 _⟩,HPO.out⟩
   have hsA:(w1.alloc (.cells (zl (z9 nk pk.l)).toArray 154)).heap.size=w1.heap.size+1:=by simp
   have hs1:=HK1.out.size
   generalize (w1.alloc (.cells (zl (z9 nk pk.l)).toArray 154))=WA at*
   refine⟨trivial,(kf.calls (xu WA _ _ HP.out)).mono ?_⟩
   rintro e w2 ⟨rfl,n2,hw2⟩
   have HK2:Hid (Kept (fun _=>False) w1 w2):=HKA.out.trans (by rw [hw2];exact kD) iL
   have HP2:Hid (qu w2 w1.heap.size (z9 nk pk.l)):=HP.out.kept (T:=fun _=>False) (by rw [hw2];exact kD) id
   have hs2:w2.heap.size=w1.heap.size+1:=by rw [hw2];exact hsA
   clear hw2
   rw [HGV.out]
   have HI2:PLift (Inv r1 pre w2):=⟨HKP.out _ _ _ _ HI1.down HK2.out⟩
   have HJ2:PLift (J r1 pre Q w2):=⟨HJS.out r r1 pre Q wr w2 HJ.down hr1a ((HK1.out.trans HK2.out fE)) HI2.down⟩
   have HX:Hid (Zt W.heap.size ps pre ⟨pk,w1.heap.size⟩ w2):=⟨by rw [HPRE.out,←HPX.out];exact List.take_prefix _ _,⟨nk,HP2.out⟩,by show W.heap.size≤w1.heap.size;omega⟩
   obtain⟨fn,tmps,assign,body,hy,hR⟩:=HJY.out 5 r1 pre ⟨pk,w1.heap.size⟩ Q w2 HJ2.down ⟨HX.out,by omega⟩
   dsimp only [QX] at hy
   gi_wp2
   refine hR.mono ?_
   clear hR hy
   rintro e W3 (⟨rfl,Q3,hj3,hk3,hq3⟩|⟨rfl,hx3⟩)
   ·have HJ3:PLift (J r1 (pre++[⟨pk,w1.heap.size⟩]) Q3 W3):=⟨hj3⟩
    have HP3:Hid (qu W3 w1.heap.size (z9 nk pk.l)):=HP2.out.kept hk3 (fun hc=>by
     rcases hc with h|h
     ·omega
     ·have:=HQ.out _ h;omega)
    have hs3:=hk3.size
    have HQ3:Hid (∀j,Q3 j→W.heap.size≤j):=fun j hj=>by
     rcases hq3 j hj with h|h
     ·exact(HQ.out j h).1
     ·omega
    have hmap:(pre++[(⟨pk,w1.heap.size⟩:BP)]).map BP.p=ps.take (k+1):=by rw [HPX.out,←HPRE.out];simp
    have HMAP:Hid ((pre++[(⟨pk,w1.heap.size⟩:BP)]).map BP.p=ps.take (k+1)):=hmap
    clear hj3 hk3 hq3 hmap
    gi_wp2_with (refine⟨trivial,?_⟩;gi_at_call 126;refine(kf.calls (cP _ _ _ HP3.out)).mono ?_;rintro e w4 ⟨rfl,hw4⟩;rw [hw4];clear hw4 w4)
    go_roundw
    case rel=>exact⟨k+1,r1,_,Q3,by omega,by rw [hnk];rfl,HJ3.down,HMAP.out,by omega,by omega,HQ3.out⟩
    case measure=>
     have h1:=YJ HND.out HCH.out.ok (k:=k+1) (by omega)
     have h2:=HIX.out
     rw [ve hlt] at h2
     rw [hnk] at h1
     rw [hpk] at h2
     show ps.length-(ps.map zq.at_).findIdx (fun n:Nat=>decide ((n:Int)=((z9 nk pk.l).link:Nat)))<ps.length-(ps.map zq.at_).findIdx (fun n:Nat=>decide ((n:Int)=(pk.at_:Nat)))
     rw [h2]
     have h3:(ps.map zq.at_).findIdx (fun n:Nat=>decide ((n:Int)=((z9 nk pk.l).link:Nat)))=k+1:=h1
     rw [h3];omega
   ·obtain⟨HX3⟩:Nonempty (PLift (Jx r1 (pre++[⟨pk,w1.heap.size⟩]) W3)):=⟨⟨hx3⟩⟩
    clear hx3
    gi_wp2
    refine bodyPost_ret (results_none rfl _ _ _) rfl ?_
    exact⟨⟨_,rfl⟩,.inr ⟨_,_,trivial,HX3.down⟩⟩
  ·have hkk:k=ps.length:=by omega
   subst hkk
   have hmap:pre.map BP.p=ps:=by rw [HPRE.out,List.take_length]
   have HMAP:Hid (pre.map BP.p=ps):=hmap
   rw [List.drop_length]
   clear hmap
   have hh0:yA ([]:List zq)=0:=rfl
   rw [hh0]
   go_wp2
   go_end0
   exact⟨⟨_,rfl⟩,.inl ⟨r,pre,Q,⟨HMAP.out,hrk⟩,HJ.down⟩⟩
def qx(n:Nat):List Nat:=(List.range ((n+123)/124)).map (· *124)
theorem jp(n:Nat):(qx n).length=(n+123)/124:=by simp [qx]
def qA(g o n i:Nat):Value:=.slice (some ⟨g,o+i,none⟩) (min 124 (n-i)) (min 124 (n-i))
theorem Xs{n k:Nat}(h:k<(n+123)/124):(qx n).take (k+1)=(qx n).take k++[k*124]:=by
 rw [List.take_succ_eq_append_getElem (by rw [jp];exact h)]
 simp [qx]
theorem Xt(W:World)(b1 b2 g o n cap:Nat)(hn:n≤300)(hc1:n≤cap)(hc2:cap≤9223372036854775807)(hn0:0<n)(Inv:Int→List Nat→World→Prop)
 (hbox:∀r pre A,Inv r pre A→A.heap[b1]? =some (.cells #[.slice (some ⟨g,o,none⟩) n cap] 35 (0,0))∧A.heap[b2]? =some (.cells #[.int .i64 124] 3 (0,0)))
 (hkp:∀r pre A B,Inv r pre A→Kept (fun _=>False) A B→Inv r pre B):
 kF Tryz.prog 168 #[.pointer (some ⟨b1,0,none⟩),.pointer (some ⟨b2,0,none⟩)] (fun i:Nat=>#[qA g o n i]) (fun _=>False) Inv (fun r pre i A=>r=0∧(pre++[i])<+:qx n) (fun r xs=>r=0∧xs=qx n) (fun _ _=>True) 0 W:=by
 intro l J Jx hJi hJs hJy hJ0
 have HJ0:PLift (J 0 [] (fun _=>False) W):=⟨hJ0⟩
 have HJI:Hid (∀r pre Q A,J r pre Q A→Inv r pre A∧∀k,Q k→k<A.heap.size):=hJi
 have HJS:Hid (∀r r' pre Q A B,J r pre Q A→r≤r'→Kept (fun _=>False) A B→Inv r' pre B→J r' pre Q B):=hJs
 have HJY:Hid (∀m r pre x Q A,J r pre Q A→(r=0∧(pre++[x])<+:qx n)→YieldAt Fence.wide m Tryz.prog l #[qA g o n x] A (fm J Jx W.heap.size r (pre++[x]) Q A)):=hJy
 have HBOX:Hid (∀r pre A,Inv r pre A→A.heap[b1]? =some (.cells #[.slice (some ⟨g,o,none⟩) n cap] 35 (0,0))∧A.heap[b2]? =some (.cells #[.int .i64 124] 3 (0,0))):=hbox
 have HKP:Hid (∀r pre A B,Inv r pre A→Kept (fun _=>False) A B→Inv r pre B):=hkp
 clear hJi hJs hJy hJ0 hbox hkp
 go_enter Tryz.func168,Tryz.ntmps168
 go_wp2_with fail
 go_loopw [4] (fun t wr=>∃(k:Nat) (Q:Nat→Prop),k≤(n+123)/124∧t=.int .i64 (k*124:Nat)∧J 0 ((qx n).take k) Q wr) (fun t _=>500-(intOf t).toNat)
 case atStart=>exact⟨0,_,Nat.zero_le _,rfl,HJ0.down⟩
 case round=>
  obtain⟨k,Q,hk,rfl,hj⟩:=hrel
  have HJ:PLift (J 0 ((qx n).take k) Q wr):=⟨hj⟩
  have HI:=(HJI.out _ _ _ _ hj).1
  obtain⟨h1,h2⟩:=HBOX.out _ _ _ HI
  have c1:wr.cell? ⟨b1,0,none⟩=some (.slice (some ⟨g,o,none⟩) n cap):=cR h1 rfl
  have c2:wr.cell? ⟨b2,0,none⟩=some (.int .i64 124):=cR h2 rfl
  have HINV:PLift (Inv 0 ((qx n).take k) wr):=⟨HI⟩
  clear hj HI h1 h2
  by_cases hlt:k<(n+123)/124
  ·have hi:k*124<n:=by omega
   generalize hik:k*124=i at*
   have hiI:(i:Int)≤(n:Int):=by omega
   have hne:¬(cap:Int)=(i:Int):=by omega
   have hne2:¬cap=i:=by omega
   have hI2:(n:Int)≤(cap:Int):=by omega
   have HX:Hid ((qx n).take (k+1)=(qx n).take k++[i]):=by show _=_;rw [←hik];exact Xs hlt
   have HPX:Hid ((0:Int)=0∧((qx n).take k++[i])<+:qx n):=⟨rfl,by rw [←HX.out];exact List.take_prefix _ _⟩
   have HJd:PLift (J 0 ((qx n).take k) Q wr.drew):=⟨HJS.out _ _ _ _ _ _ HJ.down (Int.le_refl _) (Kept.drew _ _) (HKP.out _ _ _ _ HINV.down (Kept.drew _ _))⟩
   obtain⟨fn,tmps,assign,body,hy,hR⟩:=HJY.out 5 0 _ i Q wr.drew HJd.down HPX.out
   dsimp only [qA] at hy
   have hlt2:(i:Int)<(n:Int):=by omega
   by_cases h124:124≤n-i
   ·have hmin:min 124 (n-i)=124:=by omega
    rw [hmin] at hy
    have hA:(124:Int)≤((n-i:Nat):Int):=by omega
    have hT:((i:Int)+124).toNat-i=124:=by omega
    have hcI:(i:Int)+124≤(cap:Int):=by omega
    refine(wpIn_wide (n:=6)).1 ?_
    gi_wp2
    refine(wpIn_wide (n:=6)).2 ?_
    go_region_held3 (fun w'=>w'.cell? ⟨b1,0,none⟩=some (.slice (some ⟨g,o,none⟩) n cap)∧w'.cell? ⟨b2,0,none⟩=some (.int .i64 124)) (go_keep) (fail)
    rw [if_neg (by omega)]
    gi_wp2
    refine hR.mono ?_
    clear hR hy
    rintro e W3 (⟨rfl,Q3,hj3,hk3,hq3⟩|⟨rfl,hx3⟩)
    ·have HJ3:PLift (J 0 ((qx n).take (k+1)) Q3 W3):=⟨by rw [HX.out];exact hj3⟩
     obtain⟨b1',b2'⟩:=HBOX.out _ _ _ (HJI.out _ _ _ _ hj3).1
     have d1:W3.cell? ⟨b1,0,none⟩=some (.slice (some ⟨g,o,none⟩) n cap):=cR b1' rfl
     have d2:W3.cell? ⟨b2,0,none⟩=some (.int .i64 124):=cR b2' rfl
     clear hj3 hk3 hq3 b1' b2'
     gi_wp2
     go_roundw
     case rel=>exact⟨k+1,Q3,by omega,by rw [←hik];go_num,HJ3.down⟩
     case measure=>simp [intOf];omega
    ·obtain⟨HX3⟩:Nonempty (PLift (Jx 0 ((qx n).take k++[i]) W3)):=⟨⟨hx3⟩⟩
     clear hx3
     gi_wp2
     refine bodyPost_ret (results_none rfl _ _ _) rfl ?_
     exact⟨⟨_,rfl⟩,.inr ⟨_,_,trivial,HX3.down⟩⟩
   ·have hmin:min 124 (n-i)=n-i:=by omega
    rw [hmin] at hy
    have hA:((n-i:Nat):Int)<124:=by omega
    have hT:((i:Int)+((n-i:Nat):Int)).toNat-i=n-i:=by omega
    have hcI:(i:Int)+((n-i:Nat):Int)≤(cap:Int):=by omega
    refine(wpIn_wide (n:=6)).1 ?_
    gi_wp2
    refine(wpIn_wide (n:=6)).2 ?_
    go_region_held3 (fun w'=>w'.cell? ⟨b1,0,none⟩=some (.slice (some ⟨g,o,none⟩) n cap)∧w'.cell? ⟨b2,0,none⟩=some (.int .i64 124)) (go_keep) (fail)
    gi_wp2
    refine hR.mono ?_
    clear hR hy
    rintro e W3 (⟨rfl,Q3,hj3,hk3,hq3⟩|⟨rfl,hx3⟩)
    ·have HJ3:PLift (J 0 ((qx n).take (k+1)) Q3 W3):=⟨by rw [HX.out];exact hj3⟩
     obtain⟨b1',b2'⟩:=HBOX.out _ _ _ (HJI.out _ _ _ _ hj3).1
     have d1:W3.cell? ⟨b1,0,none⟩=some (.slice (some ⟨g,o,none⟩) n cap):=cR b1' rfl
     have d2:W3.cell? ⟨b2,0,none⟩=some (.int .i64 124):=cR b2' rfl
     clear hj3 hk3 hq3 b1' b2'
     gi_wp2
     go_roundw
     case rel=>exact⟨k+1,Q3,by omega,by rw [←hik];go_num,HJ3.down⟩
     case measure=>simp [intOf];omega
    ·obtain⟨HX3⟩:Nonempty (PLift (Jx 0 ((qx n).take k++[i]) W3)):=⟨⟨hx3⟩⟩
     clear hx3
     gi_wp2
     refine bodyPost_ret (results_none rfl _ _ _) rfl ?_
     exact⟨⟨_,rfl⟩,.inr ⟨_,_,trivial,HX3.down⟩⟩
  ·have hkk:¬k*124<n:=by omega
   generalize hik:k*124=i at*
   have hiI:¬(i:Int)<(n:Int):=by omega
   have hk2:(qx n).take k=qx n:=List.take_of_length_le (by rw [jp];omega)
   have HK2:Hid ((qx n).take k=qx n):=hk2
   clear hk2
   go_wp2
   go_end0
   exact⟨⟨_,rfl⟩,.inl ⟨0,qx n,⟨rfl,rfl⟩,Q,by rw [←HK2.out];exact HJ.down⟩⟩
theorem Open.append_lies{F:Fence}(hF:Open F){nn:Nat}{P:Program}(w:World){ops:Array Oper}{rest:List Oper}{o:Oper}{a:Act}{Q:Exit→Act→World→Prop}(hgd:o.guard=none)(s x:Operand)(t:TypeId)
 (ho:o.op=.call {callee:=.builtin .append,args:=#[s,x],argTypes:=#[t,t] })
 (base:Nat) (e:TypeId) (i:TypeInfo) (z:Value) (size bytes:Nat) (ht:P.underlying t=some (.slice e)) (hi:P.info? e=some i) (hz:i.zero=some z)
 (hsize:i.size=size) (hby:i.bytes=bytes) (hzs:z.cells.size=size) (hsz:0<size)
 (v:Value) (n:Nat) (xs:List Value) (hs:a.eval s=v) (hown:w.ownsRow base e size v n xs)
 (ad:Addr) (m c:Nat) (news:List Value) (hx:a.eval x=.slice (some ad) m c) (hl:news.length=m*size) (hnews:∀j u,news[j]? =some u→w.cell? (ad.add j)=some u) (h1:∀u∈news,u.oneCell'=true)
 (hm:0<m) (h63:n+m≤maxLen) (hbytes:(n+m)*bytes≤140737488355328) (hbase:base≤w.heap.size) (H:Nat) (hH:w.heap.size=H)
 (h:∀g cap w',w'.ownsRow base e size (.slice (some ⟨g,0,none⟩) (n+m) cap) (n+m) (xs++news)→w.grownBy w' v.ownBlock→(v.ownBlock=some g∨g=H)→g<w'.heap.size→wpListIn F nn P ops Q rest (a.put o.dst (.slice (some ⟨g,0,none⟩) (n+m) cap)) w'):wpListIn F nn P ops Q (o::rest) a w:=
 hF.op hgd (by rw [ho];intro c hc;cases hc) fun _ hK=>wp_append_lies w s x t ho base e i z size bytes ht hi hz hsize hby hzs hsz v n xs hs hown ad m c news hx hl hnews h1 hm h63 hbytes hbase H hH fun g cap w' h2 h3 h4 h5=>hK _ _ (h g cap w' h2 h3 h4 h5)
theorem Xu(w:World)(a:Option Addr)(n cap:Nat):Calls Tryz.prog 128 #[.slice a n cap,.int .i64 124] w fun e w'=>
 e=.returned (.func (.func 168) #[] #[.pointer (some ⟨w.heap.size,0,none⟩),.pointer (some ⟨w.heap.size+1,0,none⟩)])∧w'.heap[w.heap.size]? =some (.cells #[.slice a n cap] 35 (0,0))∧w'.heap[w.heap.size+1]? =some (.cells #[.int .i64 124] 3 (0,0))∧Kept (fun _=>False) w w'∧w'.heap.size=w.heap.size+2:=by
 go_enter Tryz.func128,Tryz.ntmps128
 go_wp2
 go_ret
 exact⟨rfl,((Kept.alloc (fun _=>False) _ _).block w.heap.size (by simp) id).trans (heap_alloc_new w _),heap_alloc2_new w _ _,(Kept.alloc _ _ _).trans (Kept.alloc _ _ _) iL,by simp⟩
theorem QY(W:World)(b1 b2:Nat)(a:Option Addr)(cap:Nat)(Inv:Int→List Nat→World→Prop)
 (hbox:∀r pre A,Inv r pre A→A.heap[b1]? =some (.cells #[.slice a 0 cap] 35 (0,0))∧A.heap[b2]? =some (.cells #[.int .i64 124] 3 (0,0))) (g o:Nat):
 kF Tryz.prog 168 #[.pointer (some ⟨b1,0,none⟩),.pointer (some ⟨b2,0,none⟩)] (fun i:Nat=>#[qA g o 0 i]) (fun _=>False) Inv (fun r pre i A=>r=0∧(pre++[i])<+:qx 0) (fun r xs=>r=0∧xs=qx 0) (fun _ _=>True) 0 W:=by
 intro l J Jx hJi hJs hJy hJ0
 have HJ0:PLift (J 0 [] (fun _=>False) W):=⟨hJ0⟩
 obtain⟨h1,h2⟩:=hbox _ _ _ (hJi _ _ _ _ hJ0).1
 have c1:W.cell? ⟨b1,0,none⟩=some (.slice a 0 cap):=cR h1 rfl
 clear hJi hJs hJy hJ0 hbox h1 h2
 go_enter Tryz.func168,Tryz.ntmps168
 go_wp2_with fail
 go_loopw [4] (fun t wr=>t=.int .i64 0∧wr=W) (fun t _=>0)
 case atStart=>exact⟨rfl,rfl⟩
 case round=>
  obtain⟨rfl,rfl⟩:=hrel
  go_wp2
  go_end0
  exact⟨⟨_,rfl⟩,.inl ⟨0,[],fun _=>False,⟨rfl,rfl⟩,HJ0.down⟩⟩
structure YK (w1:World) (b1 b2 bx:Nat) (s1:Value) (f:Nat→Value) (r:Int) (pre:List Nat) (Q:Nat→Prop) (A:World):Prop where
 box1:A.heap[b1]? =some (.cells #[s1] 35 (0,0))
 box2:A.heap[b2]? =some (.cells #[.int .i64 124] 3 (0,0))
 row:∃v,A.heap[bx]? =some (.cells #[v] 178 (0,0))∧A.ownsRow 0 35 1 v pre.length (pre.map f)∧(∀k,Q k↔v.ownBlock=some k)∧∃a c,v=.slice a pre.length c
 kept:Kept (fun k=>k=bx∨w1.heap.size≤k) w1 A
 q:∀k,Q k→k<A.heap.size∧w1.heap.size+1<k
 r:r=0
theorem YK.by{w1:World}{b1 b2 bx:Nat}{s1:Value}{f:Nat→Value}{r r':Int}{pre:List Nat}{Q Z:Nat→Prop}{A B:World}(h:YK w1 b1 b2 bx s1 f r pre Q A)(hk:Kept Z A B)(hZ:∀k,Z k→w1.heap.size≤k∧k≤w1.heap.size+1)(hr:r'=0)(hb1:b1<w1.heap.size)(hb2:b2<w1.heap.size)(hbx:bx<w1.heap.size):YK w1 b1 b2 bx s1 f r' pre Q B:=by
 obtain⟨v,h1,h2,h3,h4⟩:=h.row
 refine⟨(hk.block _ (lT h.box1) (fun hc=>by have:=hZ _ hc;omega)).trans h.box1,(hk.block _ (lT h.box2) (fun hc=>by have:=hZ _ hc;omega)).trans h.box2,⟨v,(hk.block _ (lT h1) (fun hc=>by have:=hZ _ hc;omega)).trans h1,hk.owns h2 (fun j hj hc=>by have:=hZ _ hc;have:=h.q j ((h3 j).2 hj);omega),h3,h4⟩,h.kept.trans hk (fun i hi=>.inl (.inr (hZ i hi).1)),fun k hk'=>⟨Nat.lt_of_lt_of_le (h.q k hk').1 hk.size,(h.q k hk').2⟩,hr⟩
theorem Tryz.infoSU8:(Tryz.prog.info? 35).map (fun i=>(i.zero,i.size,i.bytes))=some (some (.slice none 0 0),1,24):=by kernel_rfl
theorem de(w:World)(b1 b2 g o n:Nat)(s1:Value)(hn:n≤300)(h1:w.heap[b1]? =some (.cells #[s1] 35 (0,0)))(h2:w.heap[b2]? =some (.cells #[.int .i64 124] 3 (0,0)))
 (hseq:∀(W:World) (Inv:Int→List Nat→World→Prop),(∀r pre A,Inv r pre A→A.heap[b1]? =some (.cells #[s1] 35 (0,0))∧A.heap[b2]? =some (.cells #[.int .i64 124] 3 (0,0)))→(∀r pre A B,Inv r pre A→Kept (fun _=>False) A B→Inv r pre B)→
  kF Tryz.prog 168 #[.pointer (some ⟨b1,0,none⟩),.pointer (some ⟨b2,0,none⟩)] (fun i:Nat=>#[qA g o n i]) (fun _=>False) Inv (fun r pre i A=>r=0∧(pre++[i])<+:qx n) (fun r xs=>r=0∧xs=qx n) (fun _ _=>True) 0 W):
 Calls Tryz.prog 167 #[.slice none 0 0,.func (.func 168) #[] #[.pointer (some ⟨b1,0,none⟩),.pointer (some ⟨b2,0,none⟩)]] w fun e w'=>(∃a c,e=.returned (.slice a (qx n).length c)∧w'.ownsRow 0 35 1 (.slice a (qx n).length c) (qx n).length ((qx n).map (qA g o n))∧∀k,(Value.slice a (qx n).length c).ownBlock=some k→w.heap.size≤k)∧Kept (fun _=>False) w w':=by
 have HB1:Hid _:=h1
 have HB2:Hid _:=h2
 have hl1:=(lT h1)
 have hl2:=(lT h2)
 have HSEQ:Hid (∀(W:World) (Inv:Int→List Nat→World→Prop),(∀r pre A,Inv r pre A→A.heap[b1]? =some (.cells #[s1] 35 (0,0))∧A.heap[b2]? =some (.cells #[.int .i64 124] 3 (0,0)))→(∀r pre A B,Inv r pre A→Kept (fun _=>False) A B→Inv r pre B)→
  kF Tryz.prog 168 #[.pointer (some ⟨b1,0,none⟩),.pointer (some ⟨b2,0,none⟩)] (fun i:Nat=>#[qA g o n i]) (fun _=>False) Inv (fun r pre i A=>r=0∧(pre++[i])<+:qx n) (fun r xs=>r=0∧xs=qx n) (fun _ _=>True) 0 W):=hseq
 clear h1 h2 hseq
 obtain⟨j0,hi0,hz0,hz1,hz2⟩:=info_parts Tryz.infoSU8
 have HJ0:Hid (Tryz.prog.info? 35=some j0∧j0.zero=some (.slice none 0 0)∧j0.size=1∧j0.bytes=24):=⟨hi0,hz0,hz1,hz2⟩
 clear hi0 hz0 hz1 hz2
 refine yy Tryz.func167 rfl ?_
 simp only [Tryz.ntmps167,List.size_toArray,List.length_cons,List.length_nil,Nat.reduceAdd,Nat.reduceSub,Array.replicate_succ,Array.replicate_zero,List.push_toArray,List.append_toArray,List.nil_append,List.cons_append]
 go_wp2_with fail
 have HK0:Hid (Kept (fun _=>False) w (w.alloc (.cells #[.slice none 0 0] 178))):=Kept.alloc _ _ _
 have HBX:Hid ((w.alloc (.cells #[.slice none 0 0] 178)).heap[w.heap.size]? =some (.cells #[.slice none 0 0] 178 (0,0))):=heap_alloc_new w _
 have hs0:(w.alloc (.cells #[.slice none 0 0] 178)).heap.size=w.heap.size+1:=by simp
 generalize (w.alloc (.cells #[.slice none 0 0] 178))=w1 at*
 refine jS (α:=Nat) (gf:= 168) (lb:=#[.pointer (some ⟨b1,0,none⟩),.pointer (some ⟨b2,0,none⟩)]) rfl (enters_of Tryz.func168 (by kernel_rfl) rfl)
  (fun W1 hk hsz=>HSEQ.out W1 (fun r _ A=>A.heap[b1]? =some (.cells #[s1] 35 (0,0))∧A.heap[b2]? =some (.cells #[.int .i64 124] 3 (0,0))∧r=0) (fun r pre A h=>⟨h.1,h.2.1⟩) (fun r pre A B h hk=>⟨(hk.block _ (lT h.1) id).trans h.1,(hk.block _ (lT h.2.1) id).trans h.2.1,h.2.2⟩))
  (fun k hk=>hk.elim) (fun _=>rfl)
  (YK w1 b1 b2 w.heap.size s1 (qA g o n)) (fun c r pre A=>False)
  (fun r pre Q A h=>⟨⟨h.box1,h.box2,h.r⟩,fun k hk=>by have:=h.q k hk;omega⟩)
  (fun r r' pre Q A B h hr hk hi=>h.by hk (fun k hk=>hk.elim) hi.2.2 (by omega) (by omega) (by omega))
  (fun r pre Q A B h hk=>h.by hk (fun k hk=>by omega) h.r (by omega) (by omega) (by omega))
  (fun c r pre A B h hk=>h)
  ⟨(HK0.out.block _ hl1 id).trans HB1.out,(HK0.out.block _ hl2 id).trans HB2.out,⟨_,HBX.out,World.ownsRow_nil _ 0 35 1,fun k=>by simp [Value.ownBlock],_,_,rfl⟩,Kept.refl _ _,fun _ h=>h.elim,rfl⟩
  (fun x a' A=>a'={tmps:=#[.slice none 0 0,.func (.func 168) #[] #[.pointer (some ⟨b1,0,none⟩),.pointer (some ⟨b2,0,none⟩)],.pointer (some ⟨w.heap.size,0,none⟩),undef,.slice none 0 0,qA g o n x,.func (.func 168) #[] #[.pointer (some ⟨b1,0,none⟩),.pointer (some ⟨b2,0,none⟩)],qA g o n x,undef,undef,undef,undef,undef],defers:=[] })
  (fun x a A B h hk=>h) (fun r pre x A B h hk=>h) ?assign ?body ?done ?stop
 case assign=>
  intro ll r pre x Q A K hi hh hlt hK
  gi_wp2
  exact hK _ _ (Kept.refl _ _) hi hh rfl
 case body=>
  rintro ll r pre x Q a' A hi hh rfl hlt
  obtain⟨v,hv1,hv2,hv3,va,vc,rfl⟩:=hi.row
  have HI:Hid _:=hi
  have HV1:Hid _:=hv1
  have HV2:Hid (A.ownsRow 0 35 1 (.slice va pre.length vc) pre.length (pre.map (qA g o n))):=hv2
  have HV3:Hid _:=hv3
  have hpl:pre.length<10:=by
   obtain⟨z,hz⟩:=hh.2
   have:=congrArg List.length hz
   rw [jp] at this
   simp at this
   omega
  have cx:A.cell? ⟨w.heap.size,0,none⟩=some (.slice va pre.length vc):=cR hv1 rfl
  clear hi hh hv1 hv2 hv3
  have hszA:=HI.out.kept.size
  obtain⟨pa,pn,hpv⟩:∃pa pn,qA g o n x=.slice pa pn pn:=⟨_,_,rfl⟩
  have HPV:Hid (qA g o n x=.slice pa pn pn):=hpv
  rw [hpv]
  clear hpv
  have HKA:Hid (Kept (fun _=>False) A (A.alloc (.cells #[.slice pa pn pn] 35))):=Kept.alloc _ _ _
  have HCN:Hid (∀j u,[.slice pa pn pn][j]? =some u→(A.alloc (.cells #[.slice pa pn pn] 35)).cell? (Addr.add ⟨A.heap.size,0,none⟩ j)=some u):=fun j u hu=>by
   have hj:j=0:=by have:=(List.getElem?_eq_some_iff.1 hu).1;simp at this;exact this
   subst hj
   have ha:Addr.add ⟨A.heap.size,0,none⟩ 0=⟨A.heap.size,0,none⟩:=Addr.add_mid _ _ _
   rw [ha,cell_of_row _ _ 0 _ _ _ (heap_alloc_new A _)]
   simpa using hu
  gi_wp2_with (gi_at_builtin;refine(yz ll).append_lies _ rfl _ _ 178 rfl 0 35 j0 (.slice none 0 0) 1 24 Tryz.underlying178 HJ0.out.1 HJ0.out.2.1 HJ0.out.2.2.1 HJ0.out.2.2.2 rfl (by decide) (.slice va pre.length vc) pre.length (pre.map (qA g o n)) rfl (HKA.out.owns HV2.out nF) ⟨A.heap.size,0,none⟩ 1 1 [.slice pa pn pn] rfl rfl HCN.out (by simp [Value.oneCell']) (by decide) (by unfold maxLen;omega) (by omega) (Nat.zero_le _) (A.heap.size+1) (by simp) ?_;intro ga ca wA hown hgrow hor hglt;have HOW:Hid _:=hown;have HOR:Hid ((Value.slice va pre.length vc).ownBlock=some ga∨ga=A.heap.size+1):=hor;have HKG:Hid (Kept (fun k=>(Value.slice va pre.length vc).ownBlock=some k) (A.alloc (.cells #[.slice pa pn pn] 35)) wA):=Kept.grown hgrow (fun k hk=>hk);have HAX:Hid (wA.heap[w.heap.size]? =_):=(HKG.out.block _ (by have:=(lT HV1.out);simp;omega) (fun hc=>by have:=HI.out.q _ ((HV3.out _).2 hc);omega)).trans ((HKA.out.block _ (lT HV1.out) id).trans HV1.out);have cAx:wA.cell? ⟨w.heap.size,0,none⟩=some (.slice va pre.length vc):=(cR HAX.out rfl);have fAx:wA.frozen? ⟨w.heap.size,0,none⟩=false:=frozen_of_row wA w.heap.size 0 _ _ HAX.out;clear hown hgrow hor)
  have h5:=heap_setCell_same wA w.heap.size 0 _ _ (.slice (some ⟨ga,0,none⟩) (pre.length+1) ca) HAX.out
  have kS:=Kept.setCell (S:=fun j=>j=w.heap.size) wA ⟨w.heap.size,0,none⟩ (.slice (some ⟨ga,0,none⟩) (pre.length+1) ca) rfl
  have kP:Kept (fun k=>k=w.heap.size∨Q k) A (wA.setCell ⟨w.heap.size,0,none⟩ (.slice (some ⟨ga,0,none⟩) (pre.length+1) ca)):=(((HKA.out.mono fE).trans HKG.out (fun k hk=>.inl (.inr ((HV3.out k).2 hk)))).trans kS (fun k hk=>.inl (.inl hk)))
  have hgq:w1.heap.size+1<ga:=by
   rcases HOR.out with h|h
   ·exact(HI.out.q ga ((HV3.out ga).2 h)).2
   ·omega
  have hbq:∀b,b<w.heap.size→¬(b=w.heap.size∨Q b):=fun b hb hc=>by
   rcases hc with h|h
   ·omega
   ·have:=HI.out.q b h;omega
  have hlen:(pre++[x]).length=pre.length+1:=by simp
  have hszS:(wA.setCell ⟨w.heap.size,0,none⟩ (.slice (some ⟨ga,0,none⟩) (pre.length+1) ca)).heap.size=wA.heap.size:=by simp
  refine⟨kP.mono (fun k hk=>by rcases hk with h|h;exact .inl (by omega);exact .inr h),fun k=>k=ga,⟨(kP.block _ (lT HI.out.box1) (hbq _ hl1)).trans HI.out.box1,(kP.block _ (lT HI.out.box2) (hbq _ hl2)).trans HI.out.box2,⟨_,h5,?_,fun k=>?_,some ⟨ga,0,none⟩,ca,by rw [hlen]⟩,?_,fun k hk=>⟨?_,by omega⟩,HI.out.r⟩,fun k hk=>?_⟩
  ·rw [hlen,List.map_append,List.map_cons,List.map_nil,HPV.out]
   exact kS.owns HOW.out (fun j hj e0=>by simp [Value.ownBlock] at hj;omega)
  ·simp [Value.ownBlock];exact eq_comm
  ·exact HI.out.kept.trans kP (fun k hk=>by
    rcases hk with h|h
    ·exact .inl (.inl h)
    ·exact .inr (by have:=HI.out.q k h;omega))
  ·rw [hszS,hk];exact hglt
  ·rw [hk]
   rcases HOR.out with h|h
   ·exact .inl ((HV3.out ga).2 h)
   ·exact .inr (by omega)
 case done=>
  rintro DD r xs Q A hS hi rfl hK
  obtain⟨v,hv1,hv2,hv3,va,vc,rfl⟩:=hi.row
  have HI:Hid _:=hi
  have HXS:Hid (xs=qx n):=hS.2
  have HV2:Hid (A.ownsRow 0 35 1 (.slice va xs.length vc) xs.length (xs.map (qA g o n))):=hv2
  have HV3:Hid _:=hv3
  have HK:Hid (A.heap[w1.heap.size]? =some (.deferred (some []))):=hK
  have cx:A.cell? ⟨w.heap.size,0,none⟩=some (.slice va xs.length vc):=cR hv1 rfl
  clear hi hS hv1 hv2 hv3 hK
  dsimp only
  go_wp2
  have kp:Kept (fun k=>k=w1.heap.size) A (A.putObj w1.heap.size (.deferred none)):=Kept.putObj _ _ _ rfl
  refine jo rfl HK.out (results_tmp rfl _ _ _) ⟨⟨va,vc,?_,?_,fun k hk=>?_⟩,?_⟩
  ·rw [←HXS.out];rfl
  ·rw [←HXS.out]
   exact kp.owns HV2.out (fun j hj e0=>by have:=HI.out.q j ((HV3.out j).2 hj);omega)
  ·rw [←HXS.out] at hk
   have:=HI.out.q k ((HV3.out k).2 hk);omega
  ·exact(HK0.out.trans HI.out.kept (fun j hj=>.inr (by omega))).trans kp (fun j hj=>.inr (by omega))
 case stop=>
  rintro DD c r pre A hS hi rfl hK
  exact hi.elim
theorem Zu(w:World)(b1 b2:Nat)(a:Option Addr)(n cap:Nat)(hn:n≤300)(hc1:n≤cap)(hc2:cap≤9223372036854775807)(ha:0<n→∃g o,a=some ⟨g,o,none⟩)(h1:w.heap[b1]? =some (.cells #[.slice a n cap] 35 (0,0)))(h2:w.heap[b2]? =some (.cells #[.int .i64 124] 3 (0,0))):
 Calls Tryz.prog 127 #[.func (.func 168) #[] #[.pointer (some ⟨b1,0,none⟩),.pointer (some ⟨b2,0,none⟩)]] w fun e w'=>(∃g o ra c,(0<n→a=some ⟨g,o,none⟩)∧e=.returned (.slice ra (qx n).length c)∧w'.ownsRow 0 35 1 (.slice ra (qx n).length c) (qx n).length ((qx n).map (qA g o n))∧∀k,(Value.slice ra (qx n).length c).ownBlock=some k→w.heap.size≤k)∧Kept (fun _=>False) w w':=by
 obtain⟨g,o,HA,HSEQ⟩:∃g o,(0<n→a=some ⟨g,o,none⟩)∧∀(W:World) (Inv:Int→List Nat→World→Prop),(∀r pre A,Inv r pre A→A.heap[b1]? =some (.cells #[.slice a n cap] 35 (0,0))∧A.heap[b2]? =some (.cells #[.int .i64 124] 3 (0,0)))→(∀r pre A B,Inv r pre A→Kept (fun _=>False) A B→Inv r pre B)→
  kF Tryz.prog 168 #[.pointer (some ⟨b1,0,none⟩),.pointer (some ⟨b2,0,none⟩)] (fun i:Nat=>#[qA g o n i]) (fun _=>False) Inv (fun r pre i A=>r=0∧(pre++[i])<+:qx n) (fun r xs=>r=0∧xs=qx n) (fun _ _=>True) 0 W:=by
  by_cases hn0:0<n
  ·obtain⟨g,o,rfl⟩:=ha hn0
   exact⟨g,o,fun _=>rfl,fun W Inv hb hk=>Xt W b1 b2 g o n cap hn hc1 hc2 hn0 Inv hb hk⟩
  ·obtain rfl:n=0:=by omega
   exact⟨0,0,fun h=>by omega,fun W Inv hb hk=>QY W b1 b2 a cap Inv hb 0 0⟩
 have HC:=de w b1 b2 g o n (.slice a n cap) hn h1 h2 HSEQ
 have HCC:Hid (Calls Tryz.prog 167 #[.slice none 0 0,.func (.func 168) #[] #[.pointer (some ⟨b1,0,none⟩),.pointer (some ⟨b2,0,none⟩)]] w fun e w'=>(∃a c,e=.returned (.slice a (qx n).length c)∧w'.ownsRow 0 35 1 (.slice a (qx n).length c) (qx n).length ((qx n).map (qA g o n))∧∀k,(Value.slice a (qx n).length c).ownBlock=some k→w.heap.size≤k)∧Kept (fun _=>False) w w'):=HC
 have HAA:Hid (0<n→a=some ⟨g,o,none⟩):=HA
 clear HC HSEQ h1 h2 ha HA
 go_enter Tryz.func127,Tryz.ntmps127
 go_wp2_with fail
 refine HCC.out.mono ?_
 rintro e w1 ⟨⟨ra,rc,rfl,hown,hfr⟩,hk1⟩
 have HOW:Hid _:=hown
 have HFR:Hid _:=hfr
 have HK1:Hid _:=hk1
 clear hown hfr hk1
 go_wp2
 go_ret
 exact⟨⟨g,o,ra,rc,HAA.out,rfl,HOW.out,HFR.out⟩,HK1.out⟩
theorem bM(w:World)(v:Value)(hv:v.oneCell'=true)(a:Option Addr)(n c:Nat)(he:v=.slice a n c):Calls Tryz.prog 130 #[v] w fun e w'=>
 e=.returned (.func (.func 169) #[] #[.pointer (some ⟨w.heap.size,0,none⟩)])∧w'.heap[w.heap.size]? =some (.cells #[v] 178 (0,0))∧Kept (fun _=>False) w w'∧w'.heap.size=w.heap.size+1:=by
 subst he
 go_enter Tryz.func130,Tryz.ntmps130
 go_wp2
 go_ret
 exact⟨rfl,heap_alloc_new w _,Kept.alloc _ _ _,by simp⟩
def q8(m:Nat):List Nat:=(List.range m).reverse
theorem kh(m:Nat):(q8 m).length=m:=by simp [q8]
theorem QZ{m k:Nat}(h:k<m):(q8 m).take (k+1)=(q8 m).take k++[m-1-k]:=by
 rw [List.take_succ_eq_append_getElem (by rw [kh];exact h)]
 simp [q8]
theorem JN(W:World)(b1 g m c:Nat)(vs:List Value)(hvs:vs.length=m)(hm:m≤1000)(enc:Nat→Value)(henc:∀i (h:i<vs.length),vs[i]=enc i)(h1:∀i,∃a n c,enc i=.slice a n c)(Inv:Int→List Nat→World→Prop)
 (hbox:∀r pre A,Inv r pre A→A.heap[b1]? =some (.cells #[.slice (some ⟨g,0,none⟩) m c] 178 (0,0))∧A.ownsRow 0 35 1 (.slice (some ⟨g,0,none⟩) m c) m vs)
 (hkp:∀r pre A B,Inv r pre A→Kept (fun _=>False) A B→Inv r pre B):
 kF Tryz.prog 169 #[.pointer (some ⟨b1,0,none⟩)] (fun i:Nat=>#[.int .i64 (i:Int),enc i]) (fun _=>False) Inv (fun r pre i A=>r=0∧(pre++[i])<+:q8 m) (fun r xs=>r=0∧xs=q8 m) (fun _ _=>True) 0 W:=by
 intro l J Jx hJi hJs hJy hJ0
 have HJ0:PLift (J 0 [] (fun _=>False) W):=⟨hJ0⟩
 have HJI:Hid (∀r pre Q A,J r pre Q A→Inv r pre A∧∀k,Q k→k<A.heap.size):=hJi
 have HJY:Hid (∀m' r pre (x:Nat) Q A,J r pre Q A→(r=0∧(pre++[x])<+:q8 m)→YieldAt Fence.wide m' Tryz.prog l #[.int .i64 (x:Int),enc x] A (fm J Jx W.heap.size r (pre++[x]) Q A)):=hJy
 have HBOX:Hid (∀r pre A,Inv r pre A→A.heap[b1]? =some (.cells #[.slice (some ⟨g,0,none⟩) m c] 178 (0,0))∧A.ownsRow 0 35 1 (.slice (some ⟨g,0,none⟩) m c) m vs):=hbox
 have HENC:Hid (∀i (h:i<vs.length),vs[i]=enc i):=henc
 have HH1:Hid (∀i,∃a n c,enc i=.slice a n c):=h1
 obtain⟨hb, -⟩:=hbox _ _ _ (hJi _ _ _ _ hJ0).1
 have c1:W.cell? ⟨b1,0,none⟩=some (.slice (some ⟨g,0,none⟩) m c):=cR hb rfl
 clear hJi hJs hJy hJ0 hbox hkp henc h1 hb
 go_enter Tryz.func169,Tryz.ntmps169
 go_wp2_with fail
 go_loopw [3] (fun t wr=>∃(k:Nat) (Q:Nat→Prop),k≤m∧t=.int .i64 ((m:Int)-1-k)∧J 0 ((q8 m).take k) Q wr) (fun t _=>(intOf t+1).toNat)
 case atStart=>exact⟨0,_,Nat.zero_le _,by simp,HJ0.down⟩
 case round=>
  obtain⟨k,Q,hk,rfl,hj⟩:=hrel
  have HJ:PLift (J 0 ((q8 m).take k) Q wr):=⟨hj⟩
  obtain⟨hb,hrow⟩:=HBOX.out _ _ _ (HJI.out _ _ _ _ hj).1
  have d1:wr.cell? ⟨b1,0,none⟩=some (.slice (some ⟨g,0,none⟩) m c):=cR hb rfl
  by_cases hlt:k<m
  ·obtain⟨i,hi⟩:∃i,i=m-1-k:=⟨_,rfl⟩
   have hiI:(m:Int)-1-k=(i:Int):=by omega
   have him:i<m:=by omega
   have hcell:wr.cell? ⟨g,i,none⟩=some (enc i):=by
    have:=hrow.cells (g:=g) rfl i (enc i) (by rw [List.getElem?_eq_getElem (by omega),HENC.out i (by omega)])
    rw [Addr.add_mid] at this
    simpa using this
   have HX:Hid ((q8 m).take (k+1)=(q8 m).take k++[i]):=by show _=_;rw [hi];exact QZ hlt
   have HPX:Hid ((0:Int)=0∧((q8 m).take k++[i])<+:q8 m):=⟨rfl,by rw [←HX.out];exact List.take_prefix _ _⟩
   obtain⟨fn,tmps,assign,body,hy,hR⟩:=HJY.out 5 0 _ i Q wr HJ.down HPX.out
   have hge:(0:Int)≤(i:Int):=by omega
   have hltI:(i:Int)<(m:Int):=by omega
   rw [hiI]
   obtain⟨ea,en,ec,hee⟩:=HH1.out i
   rw [hee] at hcell hy
   have HII:Hid ((m:Int)-1-k=(i:Int)):=hiI
   clear hj hb hrow hi hiI
   refine(wpIn_wide (n:=6)).1 ?_
   gi_wp2
   refine hR.mono ?_
   clear hR hy
   rintro e W3 (⟨rfl,Q3,hj3,hk3,hq3⟩|⟨rfl,hx3⟩)
   ·have HJ3:PLift (J 0 ((q8 m).take (k+1)) Q3 W3):=⟨by rw [HX.out];exact hj3⟩
    clear hj3 hk3 hq3
    gi_wp2
    go_roundw
    case rel=>exact⟨k+1,Q3,by omega,by rw [←HII.out];go_num,HJ3.down⟩
    case measure=>have:=HII.out;simp [intOf]
   ·obtain⟨HX3⟩:Nonempty (PLift (Jx 0 ((q8 m).take k++[i]) W3)):=⟨⟨hx3⟩⟩
    clear hx3
    gi_wp2
    refine bodyPost_ret (results_none rfl _ _ _) rfl ?_
    exact⟨⟨_,rfl⟩,.inr ⟨_,_,trivial,HX3.down⟩⟩
  ·obtain rfl:k=m:=by omega
   have hm1:(k:Int)-1-k= -1:=by omega
   rw [hm1]
   have hk2:(q8 k).take k=q8 k:=List.take_of_length_le (by rw [kh];omega)
   have HK2:Hid ((q8 k).take k=q8 k):=hk2
   clear hk2 hj hb hrow
   go_wp2
   go_end0
   exact⟨⟨_,rfl⟩,.inl ⟨0,q8 k,Q,⟨rfl,rfl⟩,by rw [←HK2.out];exact HJ.down⟩⟩
end prog
end Go.Proofs.YtcoengihaobddaaGreatDoor

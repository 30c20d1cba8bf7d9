/- Part 9 of 50 of a proof: Rng1, Rng2, Rng3, BWalk1, Chunk1, Coll1, Back1 -/
import Derived.Test.YtcoengihaobddaaGreatDoorJe05
import Derived.RangeFuncRecord
import Derived.RangeFuncSeq
import Derived.RangeFuncBound
import Derived.RangeFuncCalls
import Derived.OwnWalkIn
import Derived.TacticsInMore
import Derived.Shelf.RegionOpen
set_option maxHeartbeats 8000000
set_option linter.unusedVariables false
set_option linter.unusedSimpArgs false
set_option maxRecDepth 8000
namespace Go.Proofs.YtcoengihaobddaaGreatDoor
namespace prog
open Go.RowKit disk
variable {α:Type}{assign body:Code}{a:Act}{w W:World}{lb args:Array Value}{Z:Nat->Prop}{r0:Int}{F:Fence}{m n:Nat}{P:Program}{R:Ending->World->Prop}{Q:Exit->Act->World->Prop}
theorem Kept.putObj{S:Nat->Prop}(w:World)(l:Nat)(b:Obj)(h:S l):Kept S w (w.putObj l b):=
 ⟨rfl,rfl,rfl,by simp,λk _ a=>World.putObj_heap_other (λe=>a (e▸h))⟩
def Wf{α:Type}(F:Fence)(n:Nat)(P:Program)(g:Nat)(lb:Array Value)(encs:α->Array Value)(Z:Nat->Prop)(Inv:Int->List α->World->Prop)(jL:Int->List α->α->World->Prop)(S Sp:Int->List α->Prop)(r0:Int)(W:World):Prop:=
 ∀(l:Nat) (J:Int->List α->(Nat->Prop)->World->Prop) (Jx:Int->List α->World->Prop),
  (∀r pre Q A,J r pre Q A->Inv r pre A/\∀k,Q k->k<A.heap.size)->
  (∀r r' pre Q A B,J r pre Q A->r<=r'->Kept Z A B->Inv r' pre B->J r' pre Q B)->
  (∀r pre x Q A,J r pre Q A->jL r pre x A->YieldAt F (n-1) P l (encs x) A λe A'=>
   (e=.returned (.bool true)/\∃Q',J r (pre++[x]) Q' A'/\Kept (λk=>k<W.heap.size\/Q k) A A'/\∀k,Q' k->Q k\/A.heap.size<=k)\/(e=.returned (.bool false)/\Jx r (pre++[x]) A'))->
  J r0 [] (λ_=>False) W->
  CallsIn F n P g (#[.func (.yield l) #[] #[]]++lb) W λe W'=>(∃v,e=.returned v)/\((∃r xs Q,S r xs/\J r xs Q W')\/(∃r pre,Sp r pre/\Jx r pre W'))
def K2{α:Type}(B:Nat)(Q:Nat->Prop)(I:Int->List α->(Nat->Prop)->World->Prop)(Ix:Code->Int->List α->World->Prop)(r:Int)(xs:List α)(W:World):Exit->Act->World->Prop
 |.normal,_,W'=>Kept (λk=>k<B\/Q k) W W'/\∃Q',I r xs Q' W'/\∀k,Q' k->Q k\/W.heap.size<=k
 |.ret,_,W'=>Kept (λk=>k<B\/Q k) W W'/\Ix .ret r xs W'
 |.exit id,_,W'=>Kept (λk=>k<B\/Q k) W W'/\Ix (.exit id) r xs W'
 |.goto t,_,W'=>Kept (λk=>k<B\/Q k) W W'/\Ix (.goto t) r xs W'
 |.panic _,_,_=>False
 |.outgrown,_,_=>False
variable {F:Fence} {n:Nat} {P:Program}
theorem J0{g:Operand}{ps:Array Tmp}{aA:Exit->Act->World->Prop}
 (aN:F.round=none) (a1:1<=n) {gf:Nat}  (a0:a.eval g=.func (.func gf) #[] lb) (aM:F.fn gf) (aX:∀args w,(callFunc gf args).run P w=.ok (.enter gf args) w)
 {G:α->Array Value}  {ad:Int->List α->World->Prop} {jL:Int->List α->α->World->Prop} {S aC:Int->List α->Prop} 
 (ay:∀o,Kept (λ_=>False) w o->o.heap.size=w.heap.size+2->Wf F (n-1) P gf lb G Z ad jL S aC r0 o)
 (aS:∀k,Z k->k<w.heap.size) (aV:∀E,(G E).size=ps.size)
 (V:Int->List α->(Nat->Prop)->World->Prop) (ae:Code->Int->List α->World->Prop)
 (aa:∀r pre Q A,V r pre Q A->ad r pre A/\∀k,Q k->k<A.heap.size/\k≠w.heap.size/\k≠w.heap.size+1)
 (aH:∀r al pre Q A B,V r pre Q A->r<=al->Kept Z A B->ad al pre B->V al pre Q B)
 (N:∀r pre Q A B,V r pre Q A->Kept (λk=>k=w.heap.size\/k=w.heap.size+1) A B->V r pre Q B)
 (T:∀c r pre A B,ae c r pre A->Kept (λk=>k=w.heap.size\/k=w.heap.size+1) A B->ae c r pre B)
 (aY:V r0 [] (λ_=>False) w) (ag:α->Act->World->Prop)
 (aQ:∀E a A B,ag E a A->Kept (λk=>k=w.heap.size\/k=w.heap.size+1) A B->ag E a B)
 (ap:∀r pre E A B,jL r pre E A->Kept (λk=>k=w.heap.size\/k=w.heap.size+1) A B->jL r pre E B)
 (Y:∀(l:Nat) (r:Int) (pre:List α) (E:α) (Q:Nat->Prop) (W:World) (aA:Act->World->Prop),V r pre Q W->jL r pre E W->w.heap.size+1<W.heap.size->
  (∀K ab,Kept (λ_=>False) W ab->V r pre Q ab->jL r pre E ab->ag E K ab->aA K ab)->
  assign.wpIn (F.inRound l) (n-1-1) P (Exit.then aA (λ_ _ _=>False)) {tmps:=(ps.zip (G E)).foldl (λt (p,v)=>t.setIfInBounds p v) a.tmps,defers:=[]} W)
 (ai:∀(l:Nat) (r:Int) (pre:List α) (E:α) (Q:Nat->Prop) (K:Act) (W:World),V r pre Q W->jL r pre E W->ag E K W->w.heap.size+1<W.heap.size->body.wpIn (F.inRound l) (n-1-1) P (K2 w.heap.size Q V ae r (pre++[E]) W) K W)
 (am:∀(D:Nat) (r:Int) (an:List α) (Q:Nat->Prop) (W:World),S r an->V r an Q W->D=w.heap.size->W.heap[D]? =some (.deferred (some []))->aA .normal {a with defers:={target:=.collected D,args:=#[]}::a.defers} W)
 (ao:∀(D:Nat) (c:Code) (r:Int) (pre:List α) (W:World),aC r pre->ae c r pre W->D=w.heap.size->W.heap[D]? =some (.deferred (some []))->c.wpIn F n P aA {a with defers:={target:=.collected D,args:=#[]}::a.defers} W):
 (Code.rangeFunc g ps assign body).wpIn F n P aA a w:=by
 refine wpIn_rangeFunc ?_;intro fn aJ;rw [aN];obtain⟨d,j⟩:∃d:LoopState->Option Code->Loop,d=λst aZ=>{state:=st,pending:=aZ,fn,tmps:=a.tmps,params:=ps,assign,body,defers:=w.heap.size}:=⟨_,rfl⟩;obtain⟨o,I⟩:∃o,(w.alloc (.deferred (some []))).alloc (.loop (d .ready none))=o:=⟨_,rfl⟩
 have aO:o.heap[w.heap.size+1]? =some (.loop (d .ready none)):=by rw [<-I];have:=World.alloc_heap_new (w.alloc (.deferred (some []))) (.loop (d .ready none));rwa [World.size_alloc] at this
 have aL:o.heap[w.heap.size]? =some (.deferred (some [])):=by rw [<-I];exact(mB _ _ _ (by simp)).trans (World.alloc_heap_new w _)
 have af:Kept (λ_=>False) w o:=by rw [<-I];exact(Kept.alloc _ _ _).trans (Kept.alloc _ _ _) iL
 have O:o.heap.size=w.heap.size+2:=by rw [<-I];simp
 have aG:V r0 [] (λ_=>False) o:=N _ _ _ _ _ aY (af.mono (λ_ h=>h.elim))
 refine⟨w.heap.size+1,[{target:=.collected w.heap.size,args:=#[] }],o,{target:=.fn (.func gf) lb,args:=#[.func (.yield (w.heap.size+1)) #[] #[]]},o,gf,
  #[.func (.yield (w.heap.size+1)) #[] #[]]++lb,o,?_,?_,?_,?_,λ_=>a1,?_⟩
 .rw [<-I,j];exact run_enterLoop_outer _ _ _ _ _
 .simp only [resolve,a0];simp [go_sem]
 .intro a7 ar;simp [Target.leads] at ar;subst ar;exact aM
 .simp [invoke,go_sem,aX]
 .refine(ay o af O (w.heap.size+1)
   (λr pre Q W=>V r pre Q W/\W.heap[w.heap.size+1]? =some (.loop (d .ready none))/\W.heap[w.heap.size]? =some (.deferred (some [])))
   (λr pre W=>∃c,ae c r pre W/\W.heap[w.heap.size+1]? =some (.loop (d .done (some c)))/\W.heap[w.heap.size]? =some (.deferred (some [])))
   (λr pre Q A h=>⟨(aa _ _ _ _ h.1).1,λk s=>((aa _ _ _ _ h.1).2 k s).1⟩)
   (λr al pre Q A B h H s q=>by
    have a4:=(lT h.2.1)
    exact⟨aH _ _ _ _ _ _ h.1 H s q,(s.block _ a4 (λax=>by have:=aS _ ax;omega)).trans h.2.1,(s.block _ (by omega) (λax=>by have:=aS _ ax;omega)).trans h.2.2⟩)
   ?_ ⟨aG,aO,aL⟩).mono ?_
  .rintro r pre E Q W ⟨q,L,s⟩ a2;have ac:w.heap.size+1<W.heap.size:=(lT L);have aR:=run_yield (P:=P) (args:=G E) L (by rw [j];exact aV E);rw [j] at aR;refine⟨fn,_,assign,body,aR,roundIn_of_wpIn aJ (Y _ r pre E Q W _ q a2 ac ?_)⟩;intro K z J av aT aW;have M:=au ac J.size;have aI:z.heap[w.heap.size+1]? =some (.loop (d .ready none)):=(J.block _ ac (λaz=>az)).trans L;have aU:z.heap[w.heap.size]? =some (.deferred (some [])):=(J.block _ (by omega) (λaz=>az)).trans s;refine⟨_,run_beginRound aI (by rw [j]),?_⟩;have ah:Kept (λk=>k=w.heap.size\/k=w.heap.size+1) z (z.putObj (w.heap.size+1) (.loop {d .ready none with state:=.busy })):=Kept.putObj _ _ _ (.inr rfl);have aD:(z.putObj (w.heap.size+1) (.loop {d .ready none with state:=.busy })).heap[w.heap.size+1]? =some (.loop {d .ready none with state:=.busy }):=World.putObj_heap_same M;have aB:(z.putObj (w.heap.size+1) (.loop {d .ready none with state:=.busy })).heap[w.heap.size]? =some (.deferred (some [])):=(World.putObj_heap_other (by omega)).trans aU;have R:(z.putObj (w.heap.size+1) (.loop {d .ready none with state:=.busy })).heap.size=z.heap.size:=by simp
   refine wpIn_mono (ai _ r pre E Q K _ (N _ _ _ _ _ av ah) (ap _ _ _ _ _ aT ah) (aQ _ _ _ _ aW ah) (by rw [R];exact M)) ?_
   have aq:∀k,k=w.heap.size\/k=w.heap.size+1->¬(k<w.heap.size\/Q k):=λk s aj=>by
    rcases aj with aj|aj;.omega
    .have:=(aa _ _ _ _ av).2 k aj;omega
   have U:∀(b:Option Code) (m:World),Kept (λk=>k<w.heap.size\/Q k) (z.putObj (w.heap.size+1) (.loop {d .ready none with state:=.busy })) m->
    (Instr.endRound (w.heap.size+1) b).run P m=.ok (.bool b.isNone) (m.putObj (w.heap.size+1) (.loop (d (if b.isNone then .ready else .done) b)))/\
    Kept (λk=>k=w.heap.size\/k=w.heap.size+1) m (m.putObj (w.heap.size+1) (.loop (d (if b.isNone then .ready else .done) b)))/\
    (m.putObj (w.heap.size+1) (.loop (d (if b.isNone then .ready else .done) b))).heap[w.heap.size+1]? =some (.loop (d (if b.isNone then .ready else .done) b))/\
    (m.putObj (w.heap.size+1) (.loop (d (if b.isNone then .ready else .done) b))).heap[w.heap.size]? =some (.deferred (some [])):=λb m f=>by
    have aw:=(f.block _ (by rw [R];exact M) (aq _ (.inr rfl))).trans aD;have aE:=(f.block _ (by rw [R];omega) (aq _ (.inl rfl))).trans aB;have:=run_endRound (P:=P) b aw;rw [j] at this ⊢;exact⟨this,Kept.putObj _ _ _ (.inr rfl),World.putObj_heap_same (lT aw),(World.putObj_heap_other (by omega)).trans aE⟩
   have ak:∀(b:Option Code) (m:World),Kept (λk=>k<w.heap.size\/Q k) (z.putObj (w.heap.size+1) (.loop {d .ready none with state:=.busy })) m->
    Kept (λk=>k<o.heap.size\/Q k) W (m.putObj (w.heap.size+1) (.loop (d (if b.isNone then .ready else .done) b))):=λb m f=>by
    have k1:Kept (λk=>k<o.heap.size\/Q k) W z:=J.mono (λ_ h=>h.elim);have k2:=k1.trans ah (λi q=>.inl (.inl (by rw [O];omega)));have k3:=k2.trans f (λi q=>.inl (by rcases q with q|q;exact .inl (by rw [O];omega);exact .inr q));exact k3.trans (Kept.putObj (S:=λk=>k=w.heap.size+1) _ _ _ rfl) (λi q=>.inl (.inl (by rw [O];omega)))
   rintro e a9 m X
   cases e with
   |normal=>
    obtain⟨f,a3,C,aK⟩:=X;obtain⟨H,u,x,y⟩:=U none m f;exact⟨_,_,H,.inl ⟨rfl,a3,⟨N _ _ _ _ _ C u,x,y⟩,ak none m f,λk s=>(aK k s).imp id (λh=>by rw [R] at h;exact aF J.size h)⟩⟩
   |ret=>
    obtain⟨f,C⟩:=X;obtain⟨H,u,x,y⟩:=U (some .ret) m f;exact⟨_,_,H,.inr ⟨rfl,.ret,T _ _ _ _ _ C u,x,y⟩⟩
   |exit id=>
    obtain⟨f,C⟩:=X;obtain⟨H,u,x,y⟩:=U (some (.exit id)) m f;exact⟨_,_,H,.inr ⟨rfl,.exit id,T _ _ _ _ _ C u,x,y⟩⟩
   |goto t=>
    obtain⟨f,C⟩:=X;obtain⟨H,u,x,y⟩:=U (some (.goto t)) m f;exact⟨_,_,H,.inr ⟨rfl,.goto t,T _ _ _ _ _ C u,x,y⟩⟩
   |panic a6=>exact X.elim
   |outgrown=>exact X.elim
  .rintro e a8 ⟨⟨v,rfl⟩,(⟨r,an,Q,a5,q,L,s⟩|⟨r,pre,aP,c,q,L,s⟩)⟩;.exact⟨none,_,by have:=run_endLoop (P:=P) L (by rw [j];simp);rw [j] at this;exact this,am _ r an Q _ a5 (N _ _ _ _ _ q (Kept.putObj _ _ _ (.inr rfl))) rfl ((World.putObj_heap_other (by omega)).trans s)⟩
   .exact⟨some c,_,by have:=run_endLoop (P:=P) L (by rw [j];simp);rw [j] at this;exact this,ao _ c r pre _ aP (T c _ _ _ _ q (Kept.putObj _ _ _ (.inr rfl))) rfl ((World.putObj_heap_other (by omega)).trans s)⟩
theorem cN(a:F.depth=none)(k:Nat):F.room k:=λb h=>by rw [a] at h;cases h
theorem bC(a:F.depth=none){b:Nat}{l:Nat}{f:FuncId}{tmps:Array Value}
 (h:RoundIn F m P l f tmps assign body w R):RoundIn F b P l f tmps assign body w R:=⟨h.1,λc d _=>h.2 c d (cN a _)⟩
theorem bD(a:F.depth=none)(d:Nat){l:Nat}(h:YieldAt F m P l args W R):YieldAt F d P l args W R:=by
 obtain⟨fn,tmps,assign,body,b,c⟩:=h;exact⟨fn,tmps,assign,body,b,bC a c⟩
def Gz{α:Type}(J:Int->List α->(Nat->Prop)->World->Prop)(Jx:Int->List α->World->Prop)(B:Nat)(r:Int)(xs:List α)(Q:Nat->Prop)(A:World)(e:Ending)(A':World):Prop:=
 (e=.returned (.bool true)/\∃Q',J r xs Q' A'/\Kept (λk=>k<B\/Q k) A A'/\∀k,Q' k->Q k\/A.heap.size<=k)\/(e=.returned (.bool false)/\Jx r xs A')
def gi{α:Type}(P:Program)(g:Nat)(lb:Array Value)(encs:α->Array Value)(Z:Nat->Prop)(Inv:Int->List α->World->Prop)(jL:Int->List α->α->World->Prop)(S Sp:Int->List α->Prop)(r0:Int)(W:World):Prop:=
 ∀(l:Nat) (J:Int->List α->(Nat->Prop)->World->Prop) (Jx:Int->List α->World->Prop),
  (∀r pre Q A,J r pre Q A->Inv r pre A/\∀k,Q k->k<A.heap.size)->
  (∀r r' pre Q A B,J r pre Q A->r<=r'->Kept Z A B->Inv r' pre B->J r' pre Q B)->
  (∀m r pre x Q A,J r pre Q A->jL r pre x A->YieldAt Fence.wide m P l (encs x) A (Gz J Jx W.heap.size r (pre++[x]) Q A))->
  J r0 [] (λ_=>False) W->
  Calls P g (#[.func (.yield l) #[] #[]]++lb) W λe W'=>(∃v,e=.returned v)/\((∃r xs Q,S r xs/\J r xs Q W')\/(∃r pre,Sp r pre/\Jx r pre W'))
theorem gi.seqR{g:Nat}{a:α->Array Value}{b:Int->List α->World->Prop}{jL:Int->List α->α->World->Prop}{S c:Int->List α->Prop}
 (h:gi P g lb a Z b jL S c r0 W) (n:Nat):Wf Fence.wide n P g lb a Z b jL S c r0 W:=λl p i o d f k=>
 callsIn_wide.2 (h l p i o d (λm r pre q Q A j e=>bD rfl m (f r pre q Q A j e)) k)
variable {P:Program}
theorem vx{g:Operand}{ps:Array Tmp}{H:Exit->Act->World->Prop}
 {gf:Nat}  (U:a.eval g=.func (.func gf) #[] lb) (X:∀args w,(callFunc gf args).run P w=.ok (.enter gf args) w)
 {d:α->Array Value}  {h:Int->List α->World->Prop} {jL:Int->List α->α->World->Prop} {S I:Int->List α->Prop} 
 (z:∀j,Kept (λ_=>False) w j->j.heap.size=w.heap.size+2->gi P gf lb d Z h jL S I r0 j)
 (aa:∀k,Z k->k<w.heap.size) (R:∀b,(d b).size=ps.size)
 (f:Int->List α->(Nat->Prop)->World->Prop) (m:Code->Int->List α->World->Prop)
 (K:∀r pre Q A,f r pre Q A->h r pre A/\∀k,Q k->k<A.heap.size/\k≠w.heap.size/\k≠w.heap.size+1)
 (M:∀r C pre Q A B,f r pre Q A->r<=C->Kept Z A B->h C pre B->f C pre Q B)
 (J:∀r pre Q A B,f r pre Q A->Kept (λk=>k=w.heap.size\/k=w.heap.size+1) A B->f r pre Q B)
 (O:∀c r pre A B,m c r pre A->Kept (λk=>k=w.heap.size\/k=w.heap.size+1) A B->m c r pre B)
 (T:f r0 [] (λ_=>False) w) (o:α->Act->World->Prop)
 (L:∀b a A B,o b a A->Kept (λk=>k=w.heap.size\/k=w.heap.size+1) A B->o b a B)
 (x:∀r pre b A B,jL r pre b A->Kept (λk=>k=w.heap.size\/k=w.heap.size+1) A B->jL r pre b B)
 (e:∀(l:Nat) (r:Int) (pre:List α) (b:α) (Q:Nat->Prop) (W:World) (H:Act->World->Prop),f r pre Q W->jL r pre b W->w.heap.size+1<W.heap.size->
  (∀i q,Kept (λ_=>False) W q->f r pre Q q->jL r pre b q->o b i q->H i q)->
  assign.wpIn (Fence.wide.inRound l) 0 P (Exit.then H (λ_ _ _=>False)) {tmps:=(ps.zip (d b)).foldl (λt (p,v)=>t.setIfInBounds p v) a.tmps,defers:=[]} W)
 (y:∀(l:Nat) (r:Int) (pre:List α) (b:α) (Q:Nat->Prop) (i:Act) (W:World),f r pre Q W->jL r pre b W->o b i W->w.heap.size+1<W.heap.size->body.wpIn (Fence.wide.inRound l) 0 P (K2 w.heap.size Q f m r (pre++[b]) W) i W)
 (s:∀(D:Nat) (r:Int) (N:List α) (Q:Nat->Prop) (W:World),S r N->f r N Q W->D=w.heap.size->W.heap[D]? =some (.deferred (some []))->H .normal {a with defers:={target:=.collected D,args:=#[]}::a.defers} W)
 (u:∀(D:Nat) (c:Code) (r:Int) (pre:List α) (W:World),I r pre->m c r pre W->D=w.heap.size->W.heap[D]? =some (.deferred (some []))->c.wp P H {a with defers:={target:=.collected D,args:=#[]}::a.defers} W):
 (Code.rangeFunc g ps assign body).wp P H a w:=
 (wpIn_wide (n:=2)).1 (J0 (F:=Fence.wide) (n:=2) rfl (by omega) U eR X (λj G E=>(z j G E).seqR 1) aa R f m K M J O T o L x e y s
  (λD c r pre W G E Y V=>wpIn_wide.2 (u D c r pre W G E Y V)))
def Xt(P:Program)(fn:Func)(R:Ending->World->Prop):Exit->Act->World->Prop:=bodyPostM Fence.wide 2 P fn R
theorem yT{f:FuncId}{fn:Func}{c:Code}(a:P.funcs[f]? =some fn)(b:fn.body=some c)
 (h:c.wp P (Xt P fn R) {tmps:=args++Array.replicate (fn.ntmps-args.size) undef,defers:=[]} w):Calls P f args w R:=
 (callsIn_wide (n:=2)).1 (callsIn_of_wp_marks a b eR ((wpIn_wide (n:=2)).2 h) rfl)
theorem j8{fn:Func}{D:Nat}{v:Value}(b:a.defers=[{target:=.collected D,args:=#[] }])(c:w.heap[D]? =some (.deferred (some [])))
 (e:(results fn a.tmps).run P (w.putObj D (.deferred none))=.ok v (w.putObj D (.deferred none))) (d:R (.returned v) (w.putObj D (.deferred none))):Xt P fn R .ret a w:=by
 show LeavesInM _ _ _ _ _ _ _ _ _;rw [b];exact⟨by simp,.inl ⟨D,_,rfl,run_takeDeferred c,v,e,d⟩⟩
structure Open (F:Fence):Prop where
 fn:∀f,F.fn f
 depth:F.depth=none
 calls:∀{n:Nat} {P:Program} {f:FuncId} {args:Array Value} {w:World} {R:Ending->World->Prop},Calls P f args w R->CallsIn F n P f args w R
 rows:∀{n:Nat} {P:Program} {row:String} {args:Array Value} {w:World} {R:Value->World->Prop},Rows P row args w R->RowsIn F n P row args w R
theorem dU{a:String}{R:Value->World->Prop}(h:Rows P a args w R):RowsIn Fence.wide n P a args w R:=λc b _=>
 let ⟨v,w',r,s⟩:=h c b;⟨v,w',r,stepsIn_wide.2 s⟩
theorem uN:Open Fence.wide:=⟨λ_=>eR,rfl,callsIn_wide.2,dU⟩
theorem yK(l:Nat):Open (Fence.wide.inRound l):=⟨λ_=>eR,rfl,λh=>CallsIn.inRound l (callsIn_wide.2 h),λh=>dU h⟩
theorem Open.upon(hF:Open F){d:Oper}{next:Act->World->Prop}{r:Result Next}(h:d.upon P a next Q r):d.uponIn F n P a next Q r:=by
 have b:F.depth.isSome=true->1<=n:=λh=>by rw [hF.depth] at h;cases h
 cases r with
 |ok c w'=>
  cases c with
  |value v=>exact h
  |skip=>exact h
  |defer e=>exact h
  |enter f args=>exact⟨b,hF.calls h⟩
  |row row args=>exact⟨b,hF.rows h⟩
  |round l f tmps assign body=>exact h.elim
  |_=>exact h.elim
 |halt c w'=>
  cases c with
  |panic v=>exact h
  |_=>exact h.elim
theorem Open.op(hF:Open F){b:Array Oper}{rest:List Oper}{e:Oper}(j:e.guard=none)(g:∀c,e.op≠.defer c)
 (h:∀d:Act->World->Prop,(∀a w,wpListIn F n P b Q rest a w->d a w)->e.wp P a w d Q):wpListIn F n P b Q (e::rest) a w:=by
 refine wpListIn_plain j λd i=>⟨λf _=>hF.fn f,?_⟩;rw [Oper.semAt_plain F _ _ g];exact hF.upon (h d i)
theorem Open.store_new(hF:Open F){e:Array Oper}{rest:List Oper}{op:Oper}(g:op.guard=none)(d:TypeId)(s r:Operand)(i:op.op=.store d s r)
 (n:Nat) (c:Array Value) (b:List Value) (o:n=W.heap.size) (l:a.eval s=.pointer (some ⟨n,0,none⟩)) (j:a.eval r=.agg b.toArray)
 (k:(P.info? d).map (·.size)=some b.length) (f:c.size=b.length) (q:∀v∈b,v.oneCell'=true)
 (h:wpListIn F m P e Q rest (a.put op.dst undef) (W.alloc (.cells b.toArray d))):wpListIn F m P e Q (op::rest) a (W.alloc (.cells c d)):=by
 subst o;refine hF.op g (by rw [i];intro c f;cases f) λ_ p=>?_;unfold Oper.wp execOp;simp only [i,l,j,run_storeAt_new (P:=P) W d c b.toArray (by simpa using k) (by simpa using f) (all_oneCell_toArray q),il,eM,iI];exact p _ _ h
end prog
namespace prog
open Go.ChangeShapes Go.WideShapes Go.ChangeAt Go.RowKit disk ref
open keys (zg zd zq zl)
attribute [local go_sem] Oper.semAt_some
variable {rd:Nat->List Value}{k:Nat}
def qC(next:Nat)(l:List UInt8):Pg:=⟨6,next,l.map λb=>[b]⟩
theorem uO{next:Nat}{l:List UInt8}(h:next<65536)(c:l.length<=124):(qC next l).Ok where
 kind:=by simp [qC]
 link:=h
 wide:=λi a=>by obtain⟨b,_,rfl⟩:=av.1 a;rfl
 fits:=by simp [qC,zm];omega
 few:=by simp [qC];omega
structure zv where
 at_:Nat
 l:List UInt8
structure zv.Ok (p:zv):Prop where
 at_:p.at_<65536
 pos:p.at_≠0
 len:p.l.length<=124
def jf:List zv->Nat
 |[]=>0
 |p::_=>p.at_
def xE(rd:Nat->List Value):List zv->Prop
 |[]=>True
 |p::r=>p.Ok/\rd p.at_=zo (qC (jf r) p.l)/\xE rd r
theorem xE.ok:∀{ps:List zv},xE rd ps->∀p∈ps,p.Ok
 |p::r,h,q,a=>by
  rcases aq.1 a with rfl|a;.exact h.1
  .exact xE.ok h.2.2 q a
theorem xE.congr{a:Nat->List Value}:∀{ps:List zv},xE rd ps->(∀p∈ps,a p.at_=rd p.at_)->xE a ps
 |[],_,_=>eR
 |p::r,h,e=>⟨h.1,(e p (am ..)).trans h.2.1,xE.congr h.2.2 (λq b=>e q (al _ b))⟩
theorem GA{ps:List zv}(h:xE rd ps):jf ps<65536:=by
 cases ps with
 |nil=>show 0<65536;omega
 |cons p r=>exact h.1.at_
structure BP where
 p:zv
 g:Nat
def VU(x:BP):Array Value:=#[.int .i64 (x.p.at_:Int),.slice (some ⟨x.g,4,none⟩) x.p.l.length 124]
structure K3 (B:Nat) (ps:List zv) (pre:List BP) (x:BP) (A:World):Prop where
 pre:(pre.map BP.p++[x.p])<+:ps
 pg:∃next,yd A x.g (qC next x.p.l)
 ge:B<=x.g
theorem xE.drop:∀{ps:List zv},xE rd ps->∀k,xE rd (ps.drop k)
 |_,h,0=>h
 |[],_,_+1=>eR
 |_::_,h,k+1=>xE.drop h.2.2 k
theorem gM{ps:List zv}(h:k<ps.length):jf (ps.drop k)=ps[k].at_:=by rw [aL h];rfl
theorem K4{ps:List zv}(e:(ps.map zv.at_).Nodup)(b:∀p∈ps,p.Ok)(i:k<=ps.length):(ps.map zv.at_).findIdx (λn:Nat=>decide ((n:Int)=(jf (ps.drop k):Nat)))=k:=by
 by_cases a:k<ps.length
 .rw [gM a];rw [List.findIdx_eq (by simpa using a)];refine⟨by simp,λj g=>?_⟩;have d:j<(ps.map zv.at_).length:=by simp;omega
  have c:k<(ps.map zv.at_).length:=by simpa using a
  have:=eB.1 e j k d c g;simp at this ⊢;omega
 .have:k=ps.length:=by omega
  subst this;rw [lA]
  have:(ps.map zv.at_).findIdx (λn:Nat=>decide ((n:Int)=(jf []:Nat)))=(ps.map zv.at_).length:=by rw [List.findIdx_eq_length];intro n h;obtain⟨p,f,rfl⟩:=av.1 h;have:=(b p f).pos;show decide ((p.at_:Int)=((0:Nat):Int))=false;simp;exact this
  rw [this];simp
theorem Qp(W:World)(T:TypeId)(f:FuncId)(a:Addr)(ae:Gi T f a)(av P:Nat)(ps:List zv)(rd:Nat->List Value)(p:xE rd ps)(N:(ps.map zv.at_).Nodup)(Z:Nat->Prop)(d:Int->List BP->World->Prop)(r0:Int)
 (bd:∀k,Z k->k<W.heap.size) (L:W.heap[av]? =some (.cells #[.int .i64 (jf ps:Int)] 3 (0,0)))
 (J:∀r pre A,d r pre A->A.heap[P]? =some (.cells #[.iface T (.pointer (some a))] 193 (0,0)))
 (af:∀r pre A B,d r pre A->Kept (λ_=>False) A B->d r pre B)
 (C:∀k (aO:k<ps.length) r pre A,d r pre A->pre.map BP.p=ps.take k->r<=r0+k->Calls Tryz.prog f #[.pointer (some a),.int .i64 (ps[k].at_:Int)] A λe M=>e=.returned (.agg (rd ps[k].at_).toArray)/\Kept Z A M/\∃y,r<=y/\y<=r+1/\d y pre M):
 gi Tryz.prog 124 #[.pointer (some ⟨av,0,none⟩),.pointer (some ⟨P,0,none⟩)] VU Z d (λr pre bo A=>K3 W.heap.size ps pre bo A/\r<=r0+pre.length+1) (λr bc=>bc.map BP.p=ps/\r<=r0+ps.length) (λ_ _=>True) r0 W:=by
 intro l aH a5 K ak ac X;have bp:W.cell? ⟨av,0,none⟩=some (.int .i64 (jf ps:Int)):=cR L rfl;have aF:PLift (aH r0 [] (λ_=>False) W):=⟨X⟩;obtain⟨O,aa,bm⟩:∃O:List Value,O=z9/\∀w,(zeroValue 154).run Tryz.prog w=.ok (.agg O.toArray) w:=⟨z9,rfl,qa Tryz.infoPage⟩;have aV:Hid (zW O):=by rw [aa];exact zI
 clear aa;have be:Hid _:=qc Tryz.infoPage;have a2:=ae.meth;have a4:=ae.ent;change Hid _ at K ak ac J af C p N bd;clear X L;go_enter Tryz.func124,Tryz.ntmps124;go_wp2_with fail;go_loopw [4] (λt wr=>∃(k:Nat) (r:Int) (pre:List BP) (Q:Nat->Prop),k<=ps.length/\t=.int .i64 (jf (ps.drop k):Nat)/\aH r pre Q wr/\pre.map BP.p=ps.take k/\r<=r0+k/\W.heap.size<=wr.heap.size/\∀j,Q j->W.heap.size<=j) (λt wr=>ps.length-(ps.map zv.at_).findIdx (λn:Nat=>decide ((n:Int)=intOf t)))
 case atStart=>exact⟨0,r0,[],_,ai _,by simp,aF.down,rfl,by simp,aC _,λ_ h=>h.elim⟩
 case round=>
  obtain⟨k,r,pre,Q,aO,rfl,F,i,S,bf,aM⟩:=hrel;have aK:PLift (aH r pre Q wr):=⟨F⟩;have G:=(K r pre Q wr F).1;have am:=(K r pre Q wr F).2;have au:PLift (d r pre wr):=⟨G⟩;have aB:Hid (∀j,Q j->W.heap.size<=j/\j<wr.heap.size):=λj h=>⟨aM j h,am j h⟩;have a1:pre.length=k:=by have:=et List.length i;simp at this;omega
  have aW:Hid (wr.heap[P]? =some (.cells #[.iface T (.pointer (some a))] 193 (0,0))):=J.out _ _ _ G;have bn:wr.cell? ⟨P,0,none⟩=some (.iface T (.pointer (some a))):=cR aW.out rfl;have aE:Hid _:=K4 N p.ok aO;change Hid _ at i;clear F G am aM;by_cases q:k<ps.length
  .have E:=p.ok _ (ag q);have a0:Hid _:=p.drop k
   have al:rd ps[k].at_=zo (qC (jf (ps.drop (k+1))) ps[k].l):=by have:=a0.out;rw [aL q] at this;exact this.2.1
   have v:=C.out k q r pre wr au.down i S;have ba:Hid (Calls Tryz.prog f #[.pointer (some a),.int .i64 (ps[k].at_:Int)] wr λe M=>e=.returned (.agg (zo (qC (jf (ps.drop (k+1))) ps[k].l)).toArray)/\Kept Z wr M/\∃y,r<=y/\y<=r+1/\d y pre M):=by rw [al] at v;exact v
   have U:Hid (ps.take (k+1)=ps.take k++[ps[k]]):=by show _=_;exact ar q
   have aS:=GA (p.drop (k+1));have D:Hid _:=uO aS E.len;have bh:=E.pos;have a6:=E.len;clear v al E;rw [gM q];generalize aU:ps[k]=b at*;generalize Y:jf (ps.drop (k+1))=m at*;have bl:((b.at_:Int) !=0)=true:=by simp;omega
   refine(wpIn_wide (n:=6)).1 ?_;have az:Hid (∀g,jM g (qC m b.l).kind (qC m b.l).items.length=.slice (some ⟨g,4,none⟩) b.l.length 124):=λg=>by simp [jM,qC,zm]
   gi_wp2_with (first
    |(refine⟨eR,(uN.calls ba).mono ?_⟩;rintro e c ⟨rfl,I,s,ao,a9,ah⟩;have aJ:PLift (d s pre c):=⟨ah⟩;change Hid _ at I;clear ah)
    |(show wpListIn _ _ _ _ _ ({dst:=none,op:=.store _ (.tmp 5) (.tmp 11),type:=_,pos:=_,after:=_,guard:=_}::_) _ _;refine uN.store_new rfl 154 (.tmp 5) (.tmp 11) rfl _ _ (zo (qC m b.l)) (by simp) rfl rfl (by rw [QO D.out];exact be) (by rw [aw,aV.1,QO D.out]) (yv D).2 ?_))
   have aI:Hid (Kept (λ_=>False) c (c.alloc (.cells (zo (qC m b.l)).toArray 154))):=Kept.alloc _ _ _;have aZ:Hid (yd (c.alloc (.cells (zo (qC m b.l)).toArray 154)) c.heap.size (qC m b.l)):=⟨⟨heap_alloc_new c _⟩,D⟩;have aY:(c.alloc (.cells (zo (qC m b.l)).toArray 154)).heap.size=c.heap.size+1:=by simp
   have bj:=I.size;generalize (c.alloc (.cells (zo (qC m b.l)).toArray 154))=bb at*;refine⟨eR,(uN.calls (jZ bb _ _ aZ)).mono ?_⟩;rintro e u ⟨rfl,bq,z⟩;have V:Hid (Kept (λ_=>False) c u):=aI.trans (by rw [z];exact kD) iL;have ab:Hid (yd u c.heap.size (qC m b.l)):=aZ.kept (T:=λ_=>False) (by rw [z];exact kD) id;have bk:u.heap.size=c.heap.size+1:=by rw [z];exact aY
   clear z;rw [az.out];have ax:PLift (d s pre u):=⟨af _ _ _ _ aJ.down V⟩;have aQ:PLift (aH s pre Q u):=⟨ak r s pre Q wr u aK.down ao ((I.trans V fE)) ax.down⟩;have bg:Hid (K3 W.heap.size ps pre ⟨b,c.heap.size⟩ u):=⟨by rw [i.out,<-U.out];exact mX _ _,⟨m,ab⟩,by show W.heap.size<=c.heap.size;omega⟩;obtain⟨fn,tmps,assign,body,aT,aX⟩:=ac.out 5 s pre ⟨b,c.heap.size⟩ Q u aQ.down ⟨bg,by omega⟩;dsimp only [VU] at aT;gi_wp2;refine aX.mono ?_;clear aX aT;rintro e aG (⟨rfl,aq,an,H,ad⟩|⟨rfl,aj⟩)
   .have aN:PLift (aH s (pre++[⟨b,c.heap.size⟩]) aq aG):=⟨an⟩
    have aP:Hid _:=ab.kept H (λa8=>by
     rcases a8 with h|h;.omega
     .have:=aB.out _ h;omega)
    have bi:=H.size
    have ay:Hid (∀j,aq j->W.heap.size<=j):=λj F=>by
     rcases ad j F with h|h;.exact(aB j h).1
     .omega
    have o:(pre++[(⟨b,c.heap.size⟩:BP)]).map BP.p=ps.take (k+1):=by rw [U.out,<-i.out];simp
    have x:Hid _:=o;clear an H ad o;gi_wp2_with (refine⟨eR,?_⟩;gi_at_call 126;refine(uN.calls (YX _ _ _ aP)).mono ?_;rintro e a3 ⟨rfl,R⟩;rw [R];clear R a3);go_roundw
    case rel=>exact⟨k+1,s,_,aq,by omega,by rw [Y];rfl,aN.down,x,by omega,by omega,ay⟩
    case measure=>
     have L:=K4 N p.ok (k:=k+1) (by omega);have ap:=aE.out;rw [gM q] at ap;rw [Y] at L;rw [aU] at ap;show ps.length-(ps.map zv.at_).findIdx (λn:Nat=>decide ((n:Int)=((qC m b.l).link:Nat)))<ps.length-(ps.map zv.at_).findIdx (λn:Nat=>decide ((n:Int)=(b.at_:Nat)));rw [ap];have a7:(ps.map zv.at_).findIdx (λn:Nat=>decide ((n:Int)=((qC m b.l).link:Nat)))=k+1:=L;rw [a7];omega
   .obtain⟨aA⟩:Nonempty (PLift (a5 s (pre++[⟨b,c.heap.size⟩]) aG)):=⟨⟨aj⟩⟩;clear aj;gi_wp2;refine bodyPost_ret (results_none rfl _ _ _) rfl ?_;exact⟨⟨_,rfl⟩,.inr ⟨_,_,eR,aA.down⟩⟩
  .have aD:k=ps.length:=by omega
   subst aD;have o:pre.map BP.p=ps:=by rw [i.out,eX]
   have x:Hid _:=o;rw [lA];clear o;have aR:jf ([]:List zv)=0:=rfl;rw [aR];go_wp2;go_end0;exact⟨⟨_,rfl⟩,.inl ⟨r,pre,Q,⟨x,S⟩,aK.down⟩⟩
def yh(n:Nat):List Nat:=(List.range ((n+123)/124)).map (· *124)
theorem vy(n:Nat):(yh n).length=(n+123)/124:=by simp [yh]
def yA(g o n i:Nat):Value:=.slice (some ⟨g,o+i,none⟩) (min 124 (n-i)) (min 124 (n-i))
theorem VV{n:Nat}(h:k<(n+123)/124):(yh n).take (k+1)=(yh n).take k++[k*124]:=by
 rw [ar (by rw [vy];exact h)];simp [yh]
theorem VW(W:World)(w m g P n cap:Nat)(ar:n<=300)(ak:n<=cap)(ah:cap<=9223372036854775807)(aj:0<n)(d:Int->List Nat->World->Prop)
 (b:∀r pre A,d r pre A->A.heap[w]? =some (.cells #[.slice (some ⟨g,P,none⟩) n cap] 35 (0,0))/\A.heap[m]? =some (.cells #[.int .i64 124] 3 (0,0)))
 (F:∀r pre A B,d r pre A->Kept (λ_=>False) A B->d r pre B):
 gi Tryz.prog 168 #[.pointer (some ⟨w,0,none⟩),.pointer (some ⟨m,0,none⟩)] (λi:Nat=>#[yA g P n i]) (λ_=>False) d (λr pre i A=>r=0/\(pre++[i])<+:yh n) (λr ac=>r=0/\ac=yh n) (λ_ _=>True) 0 W:=by
 intro l M S o H E D;have T:PLift (M 0 [] (λ_=>False) W):=⟨D⟩;change Hid _ at o H E b F;clear D;go_enter Tryz.func168,Tryz.ntmps168;go_wp2_with fail;go_loopw [4] (λt wr=>∃(k:Nat) (Q:Nat->Prop),k<=(n+123)/124/\t=.int .i64 (k*124:Nat)/\M 0 ((yh n).take k) Q wr) (λt _=>500-(intOf t).toNat)
 case atStart=>exact⟨0,_,ai _,rfl,T.down⟩
 case round=>
  obtain⟨k,Q,an,rfl,I⟩:=hrel;have U:PLift (M 0 ((yh n).take k) Q wr):=⟨I⟩;have K:=(o _ _ _ _ I).1;obtain⟨Y,N⟩:=b.out _ _ _ K;have aq:wr.cell? ⟨w,0,none⟩=some (.slice (some ⟨g,P,none⟩) n cap):=cR Y rfl;have al:wr.cell? ⟨m,0,none⟩=some (.int .i64 124):=cR N rfl;have J:PLift (d 0 ((yh n).take k) wr):=⟨K⟩;clear I K Y N;by_cases V:k<(n+123)/124
  .have am:k*124<n:=by omega
   generalize p:k*124=i at*;have X:(i:Int)<=(n:Int):=by omega
   have ad:¬cap=i:=by omega
   have L:Hid ((yh n).take (k+1)=(yh n).take k++[i]):=by show _=_;rw [<-p];exact VV V
   have R:Hid ((0:Int)=0/\((yh n).take k++[i])<+:yh n):=⟨rfl,by rw [<-L.out];exact mX _ _⟩;have Z:PLift (M 0 ((yh n).take k) Q wr.drew):=⟨H _ _ _ _ _ _ U.down (eD _) (Kept.drew _ _) (F _ _ _ _ J.down (Kept.drew _ _))⟩;obtain⟨fn,tmps,assign,body,y,C⟩:=E.out 5 0 _ i Q wr.drew Z.down R.out;dsimp only [yA] at y;have ae:(i:Int)<(n:Int):=by omega
   by_cases af:124<=n-i
   .have j:min 124 (n-i)=124:=by omega
    rw [j] at y;have ab:((i:Int)+124).toNat-i=124:=by omega
    have O:(i:Int)+124<=(cap:Int):=by omega
    refine(wpIn_wide (n:=6)).1 ?_;gi_wp2;refine(wpIn_wide (n:=6)).2 ?_;go_region_held3 (λw'=>w'.cell? ⟨w,0,none⟩=some (.slice (some ⟨g,P,none⟩) n cap)/\w'.cell? ⟨m,0,none⟩=some (.int .i64 124)) (go_keep) (fail);rw [az (by omega)];gi_wp2;refine C.mono ?_;clear C y;rintro e h (⟨rfl,s,a,u,v⟩|⟨rfl,c⟩)
    .have x:PLift (M 0 ((yh n).take (k+1)) s h):=⟨by rw [L.out];exact a⟩;obtain⟨z,f⟩:=b.out _ _ _ (o _ _ _ _ a).1;have aa:h.cell? ⟨m,0,none⟩=some (.int .i64 124):=cR f rfl;clear a u v z f;gi_wp2;go_roundw
     case rel=>exact⟨k+1,s,by omega,by rw [<-p];go_num,x.down⟩
     case measure=>simp [intOf];omega
    .obtain⟨q⟩:Nonempty (PLift (S 0 ((yh n).take k++[i]) h)):=⟨⟨c⟩⟩;clear c;gi_wp2;refine bodyPost_ret (results_none rfl _ _ _) rfl ?_;exact⟨⟨_,rfl⟩,.inr ⟨_,_,eR,q.down⟩⟩
   .have j:min 124 (n-i)=n-i:=by omega
    rw [j] at y;have ap:((n-i:Nat):Int)<124:=by omega
    have ab:((i:Int)+((n-i:Nat):Int)).toNat-i=n-i:=by omega
    have O:(i:Int)+((n-i:Nat):Int)<=(cap:Int):=by omega
    refine(wpIn_wide (n:=6)).1 ?_;gi_wp2;refine(wpIn_wide (n:=6)).2 ?_;go_region_held3 (λw'=>w'.cell? ⟨w,0,none⟩=some (.slice (some ⟨g,P,none⟩) n cap)/\w'.cell? ⟨m,0,none⟩=some (.int .i64 124)) (go_keep) (fail);gi_wp2;refine C.mono ?_;clear C y;rintro e h (⟨rfl,s,a,u,v⟩|⟨rfl,c⟩)
    .have x:PLift (M 0 ((yh n).take (k+1)) s h):=⟨by rw [L.out];exact a⟩;obtain⟨z,f⟩:=b.out _ _ _ (o _ _ _ _ a).1;have aa:h.cell? ⟨m,0,none⟩=some (.int .i64 124):=cR f rfl;clear a u v z f;gi_wp2;go_roundw
     case rel=>exact⟨k+1,s,by omega,by rw [<-p];go_num,x.down⟩
     case measure=>simp [intOf];omega
    .obtain⟨q⟩:Nonempty (PLift (S 0 ((yh n).take k++[i]) h)):=⟨⟨c⟩⟩;clear c;gi_wp2;refine bodyPost_ret (results_none rfl _ _ _) rfl ?_;exact⟨⟨_,rfl⟩,.inr ⟨_,_,eR,q.down⟩⟩
  .have ag:¬k*124<n:=by omega
   generalize p:k*124=i at*;have X:¬(i:Int)<(n:Int):=by omega
   have G:(yh n).take k=yh n:=ao (by rw [vy];omega);change Hid _ at G;go_wp2;go_end0;exact⟨⟨_,rfl⟩,.inl ⟨0,yh n,⟨rfl,rfl⟩,Q,by rw [<-G.out];exact U.down⟩⟩
theorem Open.append_lies{F:Fence}(hF:Open F){B:Nat}{P:Program}(w:World){q:Array Oper}{rest:List Oper}{I:Oper}{a:Act}{Q:Exit->Act->World->Prop}(A:I.guard=none)(s L:Operand)(t:TypeId)
 (E:I.op=.call {callee:=.builtin .append,args:=#[s,L],argTypes:=#[t,t] })
 (f:Nat) (e:TypeId) (i:TypeInfo) (z:Value) (b bytes:Nat) (K:P.underlying t=some (.slice e)) (Y:P.info? e=some i) (S:i.zero=some z)
 (l:i.size=b) (G:i.bytes=bytes) (H:z.cells.size=b) (D:0<b)
 (v:Value) (n:Nat) (y:List Value) (X:a.eval s=v) (r:w.ownsRow f e b v n y)
 (x:Addr) (m c:Nat) (d:List Value) (Z:a.eval L=.slice (some x) m c) (T:d.length=m*b) (p:∀j u,d[j]? =some u->w.cell? (x.add j)=some u) (R:∀u∈d,u.oneCell'=true)
 (aa:0<m) (C:n+m<=maxLen) (k:(n+m)*bytes<=140737488355328) (o:f<=w.heap.size) (U:Nat) (V:w.heap.size=U)
 (h:∀g cap w',w'.ownsRow f e b (.slice (some ⟨g,0,none⟩) (n+m) cap) (n+m) (y++d)->w.grownBy w' v.ownBlock->(v.ownBlock=some g\/g=U)->g<w'.heap.size->wpListIn F B P q Q rest (a.put I.dst (.slice (some ⟨g,0,none⟩) (n+m) cap)) w'):wpListIn F B P q Q (I::rest) a w:=
 hF.op A (by rw [E];intro c ab;cases ab) λ_ N=>wp_append_lies w s L t E f e i z b bytes K Y S l G H D v n y X r x m c d Z T p R aa C k o U V λg cap w' J W M O=>N _ _ (h g cap w' J W M O)
theorem VX(w:World)(a:Option Addr)(n cap:Nat):Calls Tryz.prog 128 #[.slice a n cap,.int .i64 124] w λe w'=>
 e=.returned (.func (.func 168) #[] #[.pointer (some ⟨w.heap.size,0,none⟩),.pointer (some ⟨w.heap.size+1,0,none⟩)])/\w'.heap[w.heap.size]? =some (.cells #[.slice a n cap] 35 (0,0))/\w'.heap[w.heap.size+1]? =some (.cells #[.int .i64 124] 3 (0,0))/\Kept (λ_=>False) w w'/\w'.heap.size=w.heap.size+2:=by
 go_enter Tryz.func128,Tryz.ntmps128;go_wp2;go_ret;exact⟨rfl,((Kept.alloc (λ_=>False) _ _).block w.heap.size (by simp) id).trans (heap_alloc_new w _),heap_alloc2_new w _ _,(Kept.alloc _ _ _).trans (Kept.alloc _ _ _) iL,by simp⟩
theorem J1(W:World)(f h:Nat)(a:Option Addr)(cap:Nat)(d:Int->List Nat->World->Prop)
 (c:∀r pre A,d r pre A->A.heap[f]? =some (.cells #[.slice a 0 cap] 35 (0,0))/\A.heap[h]? =some (.cells #[.int .i64 124] 3 (0,0))) (g s:Nat):
 gi Tryz.prog 168 #[.pointer (some ⟨f,0,none⟩),.pointer (some ⟨h,0,none⟩)] (λi:Nat=>#[yA g s 0 i]) (λ_=>False) d (λr pre i A=>r=0/\(pre++[i])<+:yh 0) (λr p=>r=0/\p=yh 0) (λ_ _=>True) 0 W:=by
 intro l q u e j k b;have n:PLift (q 0 [] (λ_=>False) W):=⟨b⟩;obtain⟨m,o⟩:=c _ _ _ (e _ _ _ _ b).1;have v:W.cell? ⟨f,0,none⟩=some (.slice a 0 cap):=cR m rfl;clear e j k b c m o;go_enter Tryz.func168,Tryz.ntmps168;go_wp2_with fail;go_loopw [4] (λt wr=>t=.int .i64 0/\wr=W) (λt _=>0)
 case atStart=>exact⟨rfl,rfl⟩
 case round=>
  obtain⟨rfl,rfl⟩:=hrel;go_wp2;go_end0;exact⟨⟨_,rfl⟩,.inl ⟨0,[],λ_=>False,⟨rfl,rfl⟩,n.down⟩⟩
structure K5 (w1:World) (b1 b2 bx:Nat) (s1:Value) (f:Nat->Value) (r:Int) (pre:List Nat) (Q:Nat->Prop) (A:World):Prop where
 box1:A.heap[b1]? =some (.cells #[s1] 35 (0,0))
 box2:A.heap[b2]? =some (.cells #[.int .i64 124] 3 (0,0))
 row:∃v,A.heap[bx]? =some (.cells #[v] 178 (0,0))/\A.ownsRow 0 35 1 v pre.length (pre.map f)/\(∀k,Q k↔v.ownBlock=some k)/\∃a c,v=.slice a pre.length c
 kept:Kept (λk=>k=bx\/w1.heap.size<=k) w1 A
 q:∀k,Q k->k<A.heap.size/\w1.heap.size+1<k
 r:r=0
theorem K5.by{a:World}{l m g:Nat}{p:Value}{f:Nat->Value}{r n:Int}{pre:List Nat}{Q Z:Nat->Prop}{A B:World}(h:K5 a l m g p f r pre Q A)(c:Kept Z A B)(d:∀k,Z k->a.heap.size<=k/\k<=a.heap.size+1)(t:n=0)(C:l<a.heap.size)(y:m<a.heap.size)(z:g<a.heap.size):K5 a l m g p f n pre Q B:=by
 obtain⟨v,q,s,o,x⟩:=h.row;refine⟨(c.block _ (lT h.box1) (λb=>by have:=d _ b;omega)).trans h.box1,(c.block _ (lT h.box2) (λb=>by have:=d _ b;omega)).trans h.box2,⟨v,(c.block _ (lT q) (λb=>by have:=d _ b;omega)).trans q,c.owns s (λj w b=>by have:=d _ b;have:=h.q j ((o j).2 w);omega),o,x⟩,h.kept.trans c (λi u=>.inl (.inr (d i u).1)),λk e=>⟨au (h.q k e).1 c.size,(h.q k e).2⟩,t⟩
theorem Tryz.infoSU8:(Tryz.prog.info? 35).map (λi=>(i.zero,i.size,i.bytes))=some (some (.slice none 0 0),1,24):=by kernel_rfl
theorem ZY(w:World)(q s g aj n:Nat)(O:Value)(a7:n<=300)(aC:w.heap[q]? =some (.cells #[O] 35 (0,0)))(ay:w.heap[s]? =some (.cells #[.int .i64 124] 3 (0,0)))
 (R:∀(W:World) (f:Int->List Nat->World->Prop),(∀r pre A,f r pre A->A.heap[q]? =some (.cells #[O] 35 (0,0))/\A.heap[s]? =some (.cells #[.int .i64 124] 3 (0,0)))->(∀r pre A B,f r pre A->Kept (λ_=>False) A B->f r pre B)->
  gi Tryz.prog 168 #[.pointer (some ⟨q,0,none⟩),.pointer (some ⟨s,0,none⟩)] (λi:Nat=>#[yA g aj n i]) (λ_=>False) f (λr pre i A=>r=0/\(pre++[i])<+:yh n) (λr Z=>r=0/\Z=yh n) (λ_ _=>True) 0 W):
 Calls Tryz.prog 167 #[.slice none 0 0,.func (.func 168) #[] #[.pointer (some ⟨q,0,none⟩),.pointer (some ⟨s,0,none⟩)]] w λe w'=>(∃a c,e=.returned (.slice a (yh n).length c)/\w'.ownsRow 0 35 1 (.slice a (yh n).length c) (yh n).length ((yh n).map (yA g aj n))/\∀k,(Value.slice a (yh n).length c).ownBlock=some k->w.heap.size<=k)/\Kept (λ_=>False) w w':=by
 have an:=(lT aC);have al:=(lT ay)
 have ax:Hid (∀(W:World) (f:Int->List Nat->World->Prop),(∀r pre A,f r pre A->A.heap[q]? =some (.cells #[O] 35 (0,0))/\A.heap[s]? =some (.cells #[.int .i64 124] 3 (0,0)))->(∀r pre A B,f r pre A->Kept (λ_=>False) A B->f r pre B)->
  gi Tryz.prog 168 #[.pointer (some ⟨q,0,none⟩),.pointer (some ⟨s,0,none⟩)] (λi:Nat=>#[yA g aj n i]) (λ_=>False) f (λr pre i A=>r=0/\(pre++[i])<+:yh n) (λr Z=>r=0/\Z=yh n) (λ_ _=>True) 0 W):=R
 change Hid _ at aC ay;clear R;obtain⟨ad,ao,aq,av,am⟩:=info_parts Tryz.infoSU8;have I:Hid (Tryz.prog.info? 35=some ad/\ad.zero=some (.slice none 0 0)/\ad.size=1/\ad.bytes=24):=⟨ao,aq,av,am⟩;clear ao aq av am;refine yT Tryz.func167 rfl ?_;simp only [Tryz.ntmps167,aw,ae,ix,Nat.reduceAdd,Nat.reduceSub,iX,iY,lp,i7,aH,a9];go_wp2_with fail;have P:Hid (Kept (λ_=>False) w (w.alloc (.cells #[.slice none 0 0] 178))):=Kept.alloc _ _ _;have aG:Hid ((w.alloc (.cells #[.slice none 0 0] 178)).heap[w.heap.size]? =some (.cells #[.slice none 0 0] 178 (0,0))):=heap_alloc_new w _;have a3:(w.alloc (.cells #[.slice none 0 0] 178)).heap.size=w.heap.size+1:=by simp
 generalize (w.alloc (.cells #[.slice none 0 0] 178))=ag at*
 refine vx (α:=Nat) (gf:= 168) (lb:=#[.pointer (some ⟨q,0,none⟩),.pointer (some ⟨s,0,none⟩)]) rfl (enters_of Tryz.func168 (by kernel_rfl) rfl)
  (λaV d a0=>ax aV (λr _ A=>A.heap[q]? =some (.cells #[O] 35 (0,0))/\A.heap[s]? =some (.cells #[.int .i64 124] 3 (0,0))/\r=0) (λr pre A h=>⟨h.1,h.2.1⟩) (λr pre A B h d=>⟨(d.block _ (lT h.1) id).trans h.1,(d.block _ (lT h.2.1) id).trans h.2.1,h.2.2⟩))
  (λk d=>d.elim) (λ_=>rfl)
  (K5 ag q s w.heap.size O (yA g aj n)) (λc r pre A=>False)
  (λr pre Q A h=>⟨⟨h.box1,h.box2,h.r⟩,λk d=>by have:=h.q k d;omega⟩)
  (λr a5 pre Q A B h a6 d o=>h.by d (λk d=>d.elim) o.2.2 (by omega) (by omega) (by omega))
  (λr pre Q A B h d=>h.by d (λk d=>by omega) h.r (by omega) (by omega) (by omega))
  (λc r pre A B h d=>h)
  ⟨(P.block _ an id).trans aC,(P.block _ al id).trans ay,⟨_,aG,aP _ 0 35 1,λk=>by simp [Value.ownBlock],_,_,rfl⟩,Kept.refl _ _,λ_ h=>h.elim,rfl⟩
  (λar aE A=>aE={tmps:=#[.slice none 0 0,.func (.func 168) #[] #[.pointer (some ⟨q,0,none⟩),.pointer (some ⟨s,0,none⟩)],.pointer (some ⟨w.heap.size,0,none⟩),undef,.slice none 0 0,yA g aj n ar,.func (.func 168) #[] #[.pointer (some ⟨q,0,none⟩),.pointer (some ⟨s,0,none⟩)],yA g aj n ar,undef,undef,undef,undef,undef],defers:=[] })
  (λar a A B h d=>h) (λr pre ar A B h d=>h) ?assign ?body ?done ?stop
 case assign=>
  intro aM r pre ar Q A a8 o ah aJ X;gi_wp2;exact X _ _ (Kept.refl _ _) o ah rfl
 case body=>
  rintro aM r pre ar Q aE A o ah rfl aJ;obtain⟨v,y,C,D,E,H,rfl⟩:=o.row;have l:Hid _:=o;have U:Hid _:=y;have L:Hid _:=C;have p:Hid _:=D
  have aY:pre.length<10:=by obtain⟨z,aQ⟩:=ah.2;have:=et List.length aQ;rw [vy] at this;simp at this;omega
  have aO:A.cell? ⟨w.heap.size,0,none⟩=some (.slice E pre.length H):=cR y rfl;clear o ah y C D;obtain⟨G,m,ac⟩:∃G m,yA g aj n ar=.slice G m m:=⟨_,_,rfl⟩;rw [ac];change Hid _ at ac;have N:Hid (Kept (λ_=>False) A (A.alloc (.cells #[.slice G m m] 35))):=Kept.alloc _ _ _
  have aL:Hid (∀j u,[.slice G m m][j]? =some u->(A.alloc (.cells #[.slice G m m] 35)).cell? (Addr.add ⟨A.heap.size,0,none⟩ j)=some u):=λj u aF=>by
   have F:j=0:=by have:=(aW.1 aF).1;simp at this;exact this
   subst F;have aR:Addr.add ⟨A.heap.size,0,none⟩ 0=⟨A.heap.size,0,none⟩:=eO _ _ _;rw [aR,ak _ _ 0 _ _ _ (heap_alloc_new A _)];simpa using aF
  gi_wp2_with (gi_at_builtin;refine(yK aM).append_lies _ rfl _ _ 178 rfl 0 35 ad (.slice none 0 0) 1 24 Tryz.underlying178 I.1 I.2.1 I.2.2.1 I.2.2.2 rfl (by decide) (.slice E pre.length H) pre.length (pre.map (yA g aj n)) rfl (N.owns L nF) ⟨A.heap.size,0,none⟩ 1 1 [.slice G m m] rfl rfl aL (by simp [Value.oneCell']) (by decide) (by unfold maxLen;omega) (by omega) (ai _) (A.heap.size+1) (by simp) ?_;intro t Y x T J ab aB;have ap:Hid (Kept (λk=>(Value.slice E pre.length H).ownBlock=some k) (A.alloc (.cells #[.slice G m m] 35)) x):=Kept.grown J (λk d=>d);have K:Hid (x.heap[w.heap.size]? =_):=(ap.block _ (by have:=(lT U);simp;omega) (λaA=>by have:=l.q _ ((p _).2 aA);omega)).trans ((N.block _ (lT U) id).trans U);have a2:x.cell? ⟨w.heap.size,0,none⟩=some (.slice E pre.length H):=(cR K.out rfl);have a1:x.frozen? ⟨w.heap.size,0,none⟩=false:=aa x w.heap.size 0 _ _ K.out;change Hid _ at T ab;clear J);have aU:=heap_setCell_same x w.heap.size 0 _ _ (.slice (some ⟨t,0,none⟩) (pre.length+1) Y) K.out;have aI:=Kept.setCell (S:=λj=>j=w.heap.size) x ⟨w.heap.size,0,none⟩ (.slice (some ⟨t,0,none⟩) (pre.length+1) Y) rfl;have af:Kept (λk=>k=w.heap.size\/Q k) A (x.setCell ⟨w.heap.size,0,none⟩ (.slice (some ⟨t,0,none⟩) (pre.length+1) Y)):=(((N.mono fE).trans ap (λk d=>.inl (.inr ((p k).2 d)))).trans aI (λk d=>.inl (.inl d)))
  have aZ:ag.heap.size+1<t:=by
   rcases ab.out with h|h;.exact(l.q t ((p t).2 h)).2
   .omega
  have au:∀b,b<w.heap.size->¬(b=w.heap.size\/Q b):=λb a4 aA=>by
   rcases aA with h|h;.omega
   .have:=l.q b h;omega
  have M:(pre++[ar]).length=pre.length+1:=by simp
  have az:(x.setCell ⟨w.heap.size,0,none⟩ (.slice (some ⟨t,0,none⟩) (pre.length+1) Y)).heap.size=x.heap.size:=by simp
  refine⟨af.mono (λk d=>by rcases d with h|h;exact .inl (by omega);exact .inr h),λk=>k=t,⟨(af.block _ (lT l.box1) (au _ an)).trans l.box1,(af.block _ (lT l.box2) (au _ al)).trans l.box2,⟨_,aU,?_,λk=>?_,some ⟨t,0,none⟩,Y,by rw [M]⟩,?_,λk d=>⟨?_,by omega⟩,l.r⟩,λk d=>?_⟩
  .rw [M,eh,aT,im,ac.out];exact aI.owns T (λj F aN=>by simp [Value.ownBlock] at F;omega)
  .simp [Value.ownBlock];exact eq_comm
  .exact l.kept.trans af (λk d=>by
    rcases d with h|h;.exact .inl (.inl h)
    .exact .inr (by have:=l.q k h;omega))
  .rw [az,d];exact aB
  .rw [d];rcases ab.out with h|h;.exact .inl ((p t).2 h)
   .exact .inr (by omega)
 case done=>
  rintro aS r Z Q A aD o rfl X;obtain⟨v,y,C,D,E,H,rfl⟩:=o.row;have l:Hid _:=o;have V:Hid _:=aD.2;have L:Hid _:=C;have p:Hid _:=D;have aX:Hid _:=X;have aO:A.cell? ⟨w.heap.size,0,none⟩=some (.slice E Z.length H):=cR y rfl;clear o aD y C D X;dsimp only;go_wp2;have aK:Kept (λk=>k=ag.heap.size) A (A.putObj ag.heap.size (.deferred none)):=Kept.putObj _ _ _ rfl;refine j8 rfl aX (results_tmp rfl _ _ _) ⟨⟨E,H,?_,?_,λk d=>?_⟩,?_⟩;.rw [<-V.out];rfl
  .rw [<-V.out];exact aK.owns L (λj F aN=>by have:=l.q j ((p j).2 F);omega)
  .rw [<-V.out] at d;have:=l.q k ((p k).2 d);omega
  .exact(P.trans l.kept (λj F=>.inr (by omega))).trans aK (λj F=>.inr (by omega))
 case stop=>
  rintro aS c r pre A aD o rfl X;exact o.elim
theorem Xu(w:World)(d f:Nat)(a:Option Addr)(n cap:Nat)(D:n<=300)(G:n<=cap)(C:cap<=9223372036854775807)(E:0<n->∃g j,a=some ⟨g,j,none⟩)(x:w.heap[d]? =some (.cells #[.slice a n cap] 35 (0,0)))(u:w.heap[f]? =some (.cells #[.int .i64 124] 3 (0,0))):
 Calls Tryz.prog 127 #[.func (.func 168) #[] #[.pointer (some ⟨d,0,none⟩),.pointer (some ⟨f,0,none⟩)]] w λe w'=>(∃g j o c,(0<n->a=some ⟨g,j,none⟩)/\e=.returned (.slice o (yh n).length c)/\w'.ownsRow 0 35 1 (.slice o (yh n).length c) (yh n).length ((yh n).map (yA g j n))/\∀k,(Value.slice o (yh n).length c).ownBlock=some k->w.heap.size<=k)/\Kept (λ_=>False) w w':=by
 obtain⟨g,j,y,l⟩:∃g j,(0<n->a=some ⟨g,j,none⟩)/\∀(W:World) (b:Int->List Nat->World->Prop),(∀r pre A,b r pre A->A.heap[d]? =some (.cells #[.slice a n cap] 35 (0,0))/\A.heap[f]? =some (.cells #[.int .i64 124] 3 (0,0)))->(∀r pre A B,b r pre A->Kept (λ_=>False) A B->b r pre B)->
  gi Tryz.prog 168 #[.pointer (some ⟨d,0,none⟩),.pointer (some ⟨f,0,none⟩)] (λi:Nat=>#[yA g j n i]) (λ_=>False) b (λr pre i A=>r=0/\(pre++[i])<+:yh n) (λr H=>r=0/\H=yh n) (λ_ _=>True) 0 W:=by
  by_cases s:0<n
  .obtain⟨g,j,rfl⟩:=E s;exact⟨g,j,λ_=>rfl,λW b t v=>VW W d f g j n cap D G C s b t v⟩
  .obtain rfl:n=0:=by omega
   exact⟨0,0,λh=>by omega,λW b t v=>J1 W d f a cap b t 0 0⟩
 have z:=ZY w d f g j n (.slice a n cap) D x u l;have F:Hid (Calls Tryz.prog 167 #[.slice none 0 0,.func (.func 168) #[] #[.pointer (some ⟨d,0,none⟩),.pointer (some ⟨f,0,none⟩)]] w λe w'=>(∃a c,e=.returned (.slice a (yh n).length c)/\w'.ownsRow 0 35 1 (.slice a (yh n).length c) (yh n).length ((yh n).map (yA g j n))/\∀k,(Value.slice a (yh n).length c).ownBlock=some k->w.heap.size<=k)/\Kept (λ_=>False) w w'):=z;change Hid _ at y;clear z l x u E;go_enter Tryz.func127,Tryz.ntmps127;go_wp2_with fail;refine F.mono ?_;rintro e J ⟨⟨o,I,rfl,m,p⟩,q⟩;change Hid _ at m p q;go_wp2;go_ret;exact⟨⟨g,j,o,I,y,rfl,m,p⟩,q⟩
theorem QV(w:World)(v:Value)(d:v.oneCell'=true)(a:Option Addr)(n c:Nat)(b:v=.slice a n c):Calls Tryz.prog 130 #[v] w λe w'=>
 e=.returned (.func (.func 169) #[] #[.pointer (some ⟨w.heap.size,0,none⟩)])/\w'.heap[w.heap.size]? =some (.cells #[v] 178 (0,0))/\Kept (λ_=>False) w w'/\w'.heap.size=w.heap.size+1:=by
 subst b;go_enter Tryz.func130,Tryz.ntmps130;go_wp2;go_ret;exact⟨rfl,heap_alloc_new w _,Kept.alloc _ _ _,by simp⟩
def xl(m:Nat):List Nat:=(List.range m).reverse
theorem uP(m:Nat):(xl m).length=m:=by simp [xl]
theorem J2{m:Nat}(h:k<m):(xl m).take (k+1)=(xl m).take k++[m-1-k]:=by
 rw [ar (by rw [uP];exact h)];simp [xl]
theorem GB(W:World)(u g m c:Nat)(vs:List Value)(ae:vs.length=m)(al:m<=1000)(enc:Nat->Value)(p:∀i (h:i<vs.length),vs[i]=enc i)(L:∀i,∃a n c,enc i=.slice a n c)(f:Int->List Nat->World->Prop)
 (b:∀r pre A,f r pre A->A.heap[u]? =some (.cells #[.slice (some ⟨g,0,none⟩) m c] 178 (0,0))/\A.ownsRow 0 35 1 (.slice (some ⟨g,0,none⟩) m c) m vs)
 (X:∀r pre A B,f r pre A->Kept (λ_=>False) A B->f r pre B):
 gi Tryz.prog 169 #[.pointer (some ⟨u,0,none⟩)] (λi:Nat=>#[.int .i64 (i:Int),enc i]) (λ_=>False) f (λr pre i A=>r=0/\(pre++[i])<+:xl m) (λr ab=>r=0/\ab=xl m) (λ_ _=>True) 0 W:=by
 intro l Y Z q G z s;have M:PLift (Y 0 [] (λ_=>False) W):=⟨s⟩;obtain⟨o, -⟩:=b _ _ _ (q _ _ _ _ s).1;have aj:W.cell? ⟨u,0,none⟩=some (.slice (some ⟨g,0,none⟩) m c):=cR o rfl;change Hid _ at q z b p L;clear G s X o;go_enter Tryz.func169,Tryz.ntmps169;go_wp2_with fail;go_loopw [3] (λt wr=>∃(k:Nat) (Q:Nat->Prop),k<=m/\t=.int .i64 ((m:Int)-1-k)/\Y 0 ((xl m).take k) Q wr) (λt _=>(intOf t+1).toNat)
 case atStart=>exact⟨0,_,ai _,by simp,M.down⟩
 case round=>
  obtain⟨k,Q,ag,rfl,w⟩:=hrel;have D:PLift (Y 0 ((xl m).take k) Q wr):=⟨w⟩;obtain⟨o,d⟩:=b.out _ _ _ (q _ _ _ _ w).1;have ah:wr.cell? ⟨u,0,none⟩=some (.slice (some ⟨g,0,none⟩) m c):=cR o rfl;by_cases E:k<m
  .obtain⟨i,R⟩:∃i,i=m-1-k:=⟨_,rfl⟩;have j:(m:Int)-1-k=(i:Int):=by omega
   have ad:i<m:=by omega
   have v:wr.cell? ⟨g,i,none⟩=some (enc i):=by have:=d.cells (g:=g) rfl i (enc i) (by rw [aI (by omega),p.out i (by omega)]);rw [eO] at this;simpa using this
   have V:Hid ((xl m).take (k+1)=(xl m).take k++[i]):=by show _=_;rw [R];exact J2 E
   have H:Hid ((0:Int)=0/\((xl m).take k++[i])<+:xl m):=⟨rfl,by rw [<-V.out];exact mX _ _⟩;obtain⟨fn,tmps,assign,body,P,T⟩:=z.out 5 0 _ i Q wr D.down H.out;have ac:(0:Int)<=(i:Int):=by omega
   have aa:(i:Int)<(m:Int):=by omega
   rw [j];obtain⟨am,ak,af,I⟩:=L.out i;rw [I] at v P;change Hid _ at j;clear w o d R;refine(wpIn_wide (n:=6)).1 ?_;gi_wp2;refine T.mono ?_;clear T P;rintro e O (⟨rfl,J,C,S,U⟩|⟨rfl,x⟩)
   .have K:PLift (Y 0 ((xl m).take (k+1)) J O):=⟨by rw [V.out];exact C⟩;clear C S U;gi_wp2;go_roundw
    case rel=>exact⟨k+1,J,by omega,by rw [<-j.out];go_num,K.down⟩
    case measure=>have:=j.out;simp [intOf]
   .obtain⟨F⟩:Nonempty (PLift (Z 0 ((xl m).take k++[i]) O)):=⟨⟨x⟩⟩;clear x;gi_wp2;refine bodyPost_ret (results_none rfl _ _ _) rfl ?_;exact⟨⟨_,rfl⟩,.inr ⟨_,_,eR,F.down⟩⟩
  .obtain rfl:k=m:=by omega
   have N:(k:Int)-1-k= -1:=by omega
   rw [N];have y:=ao (by rw [uP];omega);change Hid _ at y;clear w o d;go_wp2;go_end0;exact⟨⟨_,rfl⟩,.inl ⟨0,xl k,Q,⟨rfl,rfl⟩,by rw [<-y.out];exact D.down⟩⟩
end prog
end Go.Proofs.YtcoengihaobddaaGreatDoor

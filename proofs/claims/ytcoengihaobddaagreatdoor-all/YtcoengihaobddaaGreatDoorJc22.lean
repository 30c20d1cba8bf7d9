/- Part 22 of 36 of a proof: Rng1, Rng2, Rng3, BWalk1, Chunk1, Coll1, Back1 -/
import Derived.Test.YtcoengihaobddaaGreatDoorJc18
import Derived.RangeFuncRecord
import Derived.RangeFuncSeq
import Derived.RangeFuncBound
import Derived.RangeFuncCalls
import Derived.OwnWalkIn
import Derived.TacticsInMore
import Derived.Shelf.RegionOpen
set_option maxHeartbeats 8000000
set_option linter.unusedVariables false
set_option linter.unusedSimpArgs false
set_option maxRecDepth 8000
namespace Go.Proofs.YtcoengihaobddaaGreatDoor
namespace prog
open Go.RowKit disk
variable {α:Type}{assign body:Code}{a:Act}{w W:World}{lb args:Array Value}{Z:Nat->Prop}{r0:Int}{F:Fence}{m n:Nat}{P:Program}{R:Ending->World->Prop}{Q:Exit->Act->World->Prop}
theorem za.putObj{S:Nat->Prop}(w:World)(l:Nat)(b:Obj)(h:S l):za S w (w.putObj l b):=
 ⟨rfl,rfl,rfl,by simp,λk _ a=>World.putObj_heap_other (λe=>a (e▸h))⟩
def G0{α:Type}(F:Fence)(n:Nat)(P:Program)(g:Nat)(lb:Array Value)(encs:α->Array Value)(Z:Nat->Prop)(Inv:Int->List α->World->Prop)(Here:Int->List α->α->World->Prop)(S Sp:Int->List α->Prop)(r0:Int)(W:World):Prop:=
 ∀(l:Nat) (J:Int->List α->(Nat->Prop)->World->Prop) (Jx:Int->List α->World->Prop),
  (∀r pre Q A,J r pre Q A->Inv r pre A/\∀k,Q k->k<A.heap.size)->
  (∀r r' pre Q A B,J r pre Q A->r<=r'->za Z A B->Inv r' pre B->J r' pre Q B)->
  (∀r pre x Q A,J r pre Q A->Here r pre x A->YieldAt F (n-1) P l (encs x) A λe A'=>
   (e=.returned (.bool true)/\∃Q',J r (pre++[x]) Q' A'/\za (λk=>k<W.heap.size\/Q k) A A'/\∀k,Q' k->Q k\/A.heap.size<=k)\/(e=.returned (.bool false)/\Jx r (pre++[x]) A'))->
  J r0 [] (λ_=>False) W->
  CallsIn F n P g (#[.func (.yield l) #[] #[]]++lb) W λe W'=>(∃v,e=.returned v)/\((∃r xs Q,S r xs/\J r xs Q W')\/(∃r pre,Sp r pre/\Jx r pre W'))
def Jr{α:Type}(B:Nat)(Q:Nat->Prop)(I:Int->List α->(Nat->Prop)->World->Prop)(Ix:Code->Int->List α->World->Prop)(r:Int)(xs:List α)(W:World):Exit->Act->World->Prop
 |.normal,_,W'=>za (λk=>k<B\/Q k) W W'/\∃Q',I r xs Q' W'/\∀k,Q' k->Q k\/W.heap.size<=k
 |.ret,_,W'=>za (λk=>k<B\/Q k) W W'/\Ix .ret r xs W'
 |.exit id,_,W'=>za (λk=>k<B\/Q k) W W'/\Ix (.exit id) r xs W'
 |.goto t,_,W'=>za (λk=>k<B\/Q k) W W'/\Ix (.goto t) r xs W'
 |.panic _,_,_=>False
 |.outgrown,_,_=>False
variable {F:Fence} {n:Nat} {P:Program}
theorem XH{g:Operand}{ps:Array Tmp}{aB:Exit->Act->World->Prop}
 (aO:F.round=none) (a2:1<=n) {gf:Nat}  (a1:a.eval g=.func (.func gf) #[] lb) (aN:F.fn gf) (aY:∀args w,(callFunc gf args).run P w=.ok (.enter gf args) w)
 {H:α->Array Value}  {ae:Int->List α->World->Prop} {u:Int->List α->α->World->Prop} {S aE:Int->List α->Prop} 
 (az:∀o,za (λ_=>False) w o->o.heap.size=w.heap.size+2->G0 F (n-1) P gf lb H Z ae u S aE r0 o)
 (aT:∀k,Z k->k<w.heap.size) (aW:∀G,(H G).size=ps.size)
 (X:Int->List α->(Nat->Prop)->World->Prop) (af:Code->Int->List α->World->Prop)
 (ab:∀r pre Q A,X r pre Q A->ae r pre A/\∀k,Q k->k<A.heap.size/\k≠w.heap.size/\k≠w.heap.size+1)
 (aI:∀r am pre Q A B,X r pre Q A->r<=am->za Z A B->ae am pre B->X am pre Q B)
 (O:∀r pre Q A B,X r pre Q A->za (λk=>k=w.heap.size\/k=w.heap.size+1) A B->X r pre Q B)
 (U:∀c r pre A B,af c r pre A->za (λk=>k=w.heap.size\/k=w.heap.size+1) A B->af c r pre B)
 (aZ:X r0 [] (λ_=>False) w) (ah:α->Act->World->Prop)
 (aR:∀G a A B,ah G a A->za (λk=>k=w.heap.size\/k=w.heap.size+1) A B->ah G a B)
 (aq:∀r pre G A B,u r pre G A->za (λk=>k=w.heap.size\/k=w.heap.size+1) A B->u r pre G B)
 (aa:∀(l:Nat) (r:Int) (pre:List α) (G:α) (Q:Nat->Prop) (W:World) (aB:Act->World->Prop),X r pre Q W->u r pre G W->w.heap.size+1<W.heap.size->
  (∀L ac,za (λ_=>False) W ac->X r pre Q ac->u r pre G ac->ah G L ac->aB L ac)->
  assign.wpIn (F.inRound l) (n-1-1) P (Exit.then aB (λ_ _ _=>False)) {tmps:=(ps.zip (H G)).foldl (λt (p,v)=>t.setIfInBounds p v) a.tmps,defers:=[]} W)
 (aj:∀(l:Nat) (r:Int) (pre:List α) (G:α) (Q:Nat->Prop) (L:Act) (W:World),X r pre Q W->u r pre G W->ah G L W->w.heap.size+1<W.heap.size->body.wpIn (F.inRound l) (n-1-1) P (Jr w.heap.size Q X af r (pre++[G]) W) L W)
 (an:∀(D:Nat) (r:Int) (ao:List α) (Q:Nat->Prop) (W:World),S r ao->X r ao Q W->D=w.heap.size->W.heap[D]? =some (.deferred (some []))->aB .normal {a with defers:={target:=.collected D,args:=#[]}::a.defers} W)
 (ap:∀(D:Nat) (c:Code) (r:Int) (pre:List α) (W:World),aE r pre->af c r pre W->D=w.heap.size->W.heap[D]? =some (.deferred (some []))->c.wpIn F n P aB {a with defers:={target:=.collected D,args:=#[]}::a.defers} W):
 (Code.rangeFunc g ps assign body).wpIn F n P aB a w:=by
 refine wpIn_rangeFunc ?_;intro fn aK;rw [aO];obtain⟨d,j⟩:∃d:LoopState->Option Code->Loop,d=λst a0=>{state:=st,pending:=a0,fn,tmps:=a.tmps,params:=ps,assign,body,defers:=w.heap.size}:=⟨_,rfl⟩;obtain⟨o,J⟩:∃o,(w.alloc (.deferred (some []))).alloc (.loop (d .ready none))=o:=⟨_,rfl⟩
 have aP:o.heap[w.heap.size+1]? =some (.loop (d .ready none)):=by rw [<-J];have:=World.alloc_heap_new (w.alloc (.deferred (some []))) (.loop (d .ready none));rwa [World.size_alloc] at this
 have aM:o.heap[w.heap.size]? =some (.deferred (some [])):=by rw [<-J];exact(ma _ _ _ (by simp)).trans (World.alloc_heap_new w _)
 have ag:za (λ_=>False) w o:=by rw [<-J];exact(za.alloc _ _ _).trans (za.alloc _ _ _) iL
 have R:o.heap.size=w.heap.size+2:=by rw [<-J];simp
 have aH:X r0 [] (λ_=>False) o:=O _ _ _ _ _ aZ (ag.mono (λ_ h=>h.elim))
 refine⟨w.heap.size+1,[{target:=.collected w.heap.size,args:=#[] }],o,{target:=.fn (.func gf) lb,args:=#[.func (.yield (w.heap.size+1)) #[] #[]]},o,gf,
  #[.func (.yield (w.heap.size+1)) #[] #[]]++lb,o,?_,?_,?_,?_,λ_=>a2,?_⟩
 .rw [<-J,j];exact run_enterLoop_outer _ _ _ _ _
 .simp only [resolve,a1];simp [go_sem]
 .intro a8 au;simp [Target.leads] at au;subst au;exact aN
 .simp [invoke,go_sem,aY]
 .refine(az o ag R (w.heap.size+1)
   (λr pre Q W=>X r pre Q W/\W.heap[w.heap.size+1]? =some (.loop (d .ready none))/\W.heap[w.heap.size]? =some (.deferred (some [])))
   (λr pre W=>∃c,af c r pre W/\W.heap[w.heap.size+1]? =some (.loop (d .done (some c)))/\W.heap[w.heap.size]? =some (.deferred (some [])))
   (λr pre Q A h=>⟨(ab _ _ _ _ h.1).1,λk s=>((ab _ _ _ _ h.1).2 k s).1⟩)
   (λr am pre Q A B h I s q=>by
    have a5:=(lT h.2.1)
    exact⟨aI _ _ _ _ _ _ h.1 I s q,(s.block _ a5 (λax=>by have:=aT _ ax;omega)).trans h.2.1,(s.block _ (by omega) (λax=>by have:=aT _ ax;omega)).trans h.2.2⟩)
   ?_ ⟨aH,aP,aM⟩).mono ?_
  .rintro r pre G Q W ⟨q,M,s⟩ a3;have ad:w.heap.size+1<W.heap.size:=(lT M);have aS:=run_yield (P:=P) (args:=H G) M (by rw [j];exact aW G);rw [j] at aS;refine⟨fn,_,assign,body,aS,roundIn_of_wpIn aK (aa _ r pre G Q W _ q a3 ad ?_)⟩;intro L C K av aU aX;have N:=ay ad K.size;have aJ:C.heap[w.heap.size+1]? =some (.loop (d .ready none)):=(K.block _ ad (λaA=>aA)).trans M;have aV:C.heap[w.heap.size]? =some (.deferred (some [])):=(K.block _ (by omega) (λaA=>aA)).trans s;refine⟨_,run_beginRound aJ (by rw [j]),?_⟩;have ai:za (λk=>k=w.heap.size\/k=w.heap.size+1) C (C.putObj (w.heap.size+1) (.loop {d .ready none with state:=.busy })):=za.putObj _ _ _ (.inr rfl);have aF:(C.putObj (w.heap.size+1) (.loop {d .ready none with state:=.busy })).heap[w.heap.size+1]? =some (.loop {d .ready none with state:=.busy }):=World.putObj_heap_same N;have aC:(C.putObj (w.heap.size+1) (.loop {d .ready none with state:=.busy })).heap[w.heap.size]? =some (.deferred (some [])):=(World.putObj_heap_other (by omega)).trans aV;have T:(C.putObj (w.heap.size+1) (.loop {d .ready none with state:=.busy })).heap.size=C.heap.size:=by simp
   refine wpIn_mono (aj _ r pre G Q L _ (O _ _ _ _ _ av ai) (aq _ _ _ _ _ aU ai) (aR _ _ _ _ aX ai) (by rw [T];exact N)) ?_
   have ar:∀k,k=w.heap.size\/k=w.heap.size+1->¬(k<w.heap.size\/Q k):=λk s ak=>by
    rcases ak with ak|ak;.omega
    .have:=(ab _ _ _ _ av).2 k ak;omega
   have V:∀(b:Option Code) (m:World),za (λk=>k<w.heap.size\/Q k) (C.putObj (w.heap.size+1) (.loop {d .ready none with state:=.busy })) m->
    (Instr.endRound (w.heap.size+1) b).run P m=.ok (.bool b.isNone) (m.putObj (w.heap.size+1) (.loop (d (if b.isNone then .ready else .done) b)))/\
    za (λk=>k=w.heap.size\/k=w.heap.size+1) m (m.putObj (w.heap.size+1) (.loop (d (if b.isNone then .ready else .done) b)))/\
    (m.putObj (w.heap.size+1) (.loop (d (if b.isNone then .ready else .done) b))).heap[w.heap.size+1]? =some (.loop (d (if b.isNone then .ready else .done) b))/\
    (m.putObj (w.heap.size+1) (.loop (d (if b.isNone then .ready else .done) b))).heap[w.heap.size]? =some (.deferred (some [])):=λb m f=>by
    have aw:=(f.block _ (by rw [T];exact N) (ar _ (.inr rfl))).trans aF;have aG:=(f.block _ (by rw [T];omega) (ar _ (.inl rfl))).trans aC;have:=run_endRound (P:=P) b aw;rw [j] at this ⊢;exact⟨this,za.putObj _ _ _ (.inr rfl),World.putObj_heap_same (lT aw),(World.putObj_heap_other (by omega)).trans aG⟩
   have al:∀(b:Option Code) (m:World),za (λk=>k<w.heap.size\/Q k) (C.putObj (w.heap.size+1) (.loop {d .ready none with state:=.busy })) m->
    za (λk=>k<o.heap.size\/Q k) W (m.putObj (w.heap.size+1) (.loop (d (if b.isNone then .ready else .done) b))):=λb m f=>by
    have k1:za (λk=>k<o.heap.size\/Q k) W C:=K.mono (λ_ h=>h.elim);have k2:=k1.trans ai (λi q=>.inl (.inl (by rw [R];omega)));have k3:=k2.trans f (λi q=>.inl (by rcases q with q|q;exact .inl (by rw [R];omega);exact .inr q));exact k3.trans (za.putObj (S:=λk=>k=w.heap.size+1) _ _ _ rfl) (λi q=>.inl (.inl (by rw [R];omega)))
   rintro e ba m Y
   cases e with
   |normal=>
    obtain⟨f,a4,E,aL⟩:=Y;obtain⟨I,x,y,z⟩:=V none m f;exact⟨_,_,I,.inl ⟨rfl,a4,⟨O _ _ _ _ _ E x,y,z⟩,al none m f,λk s=>(aL k s).imp id (λh=>by rw [T] at h;exact aD K.size h)⟩⟩
   |ret=>
    obtain⟨f,E⟩:=Y;obtain⟨I,x,y,z⟩:=V (some .ret) m f;exact⟨_,_,I,.inr ⟨rfl,.ret,U _ _ _ _ _ E x,y,z⟩⟩
   |exit id=>
    obtain⟨f,E⟩:=Y;obtain⟨I,x,y,z⟩:=V (some (.exit id)) m f;exact⟨_,_,I,.inr ⟨rfl,.exit id,U _ _ _ _ _ E x,y,z⟩⟩
   |goto t=>
    obtain⟨f,E⟩:=Y;obtain⟨I,x,y,z⟩:=V (some (.goto t)) m f;exact⟨_,_,I,.inr ⟨rfl,.goto t,U _ _ _ _ _ E x,y,z⟩⟩
   |panic a7=>exact Y.elim
   |outgrown=>exact Y.elim
  .rintro e a9 ⟨⟨v,rfl⟩,(⟨r,ao,Q,a6,q,M,s⟩|⟨r,pre,aQ,c,q,M,s⟩)⟩;.exact⟨none,_,by have:=run_endLoop (P:=P) M (by rw [j];simp);rw [j] at this;exact this,an _ r ao Q _ a6 (O _ _ _ _ _ q (za.putObj _ _ _ (.inr rfl))) rfl ((World.putObj_heap_other (by omega)).trans s)⟩
   .exact⟨some c,_,by have:=run_endLoop (P:=P) M (by rw [j];simp);rw [j] at this;exact this,ap _ c r pre _ aQ (U c _ _ _ _ q (za.putObj _ _ _ (.inr rfl))) rfl ((World.putObj_heap_other (by omega)).trans s)⟩
theorem bj(a:F.depth=none)(k:Nat):F.room k:=λd h=>by rw [a] at h;cases h
theorem da(a:F.depth=none){b:Nat}{l:Nat}{f:FuncId}{tmps:Array Value}
 (h:RoundIn F m P l f tmps assign body w R):RoundIn F b P l f tmps assign body w R:=⟨h.1,λc d _=>h.2 c d (bj a _)⟩
theorem db(a:F.depth=none)(d:Nat){l:Nat}(h:YieldAt F m P l args W R):YieldAt F d P l args W R:=by
 obtain⟨fn,tmps,assign,body,b,c⟩:=h;exact⟨fn,tmps,assign,body,b,da a c⟩
def VZ{α:Type}(J:Int->List α->(Nat->Prop)->World->Prop)(Jx:Int->List α->World->Prop)(B:Nat)(r:Int)(xs:List α)(Q:Nat->Prop)(A:World)(e:Ending)(A':World):Prop:=
 (e=.returned (.bool true)/\∃Q',J r xs Q' A'/\za (λk=>k<B\/Q k) A A'/\∀k,Q' k->Q k\/A.heap.size<=k)\/(e=.returned (.bool false)/\Jx r xs A')
def vQ{α:Type}(P:Program)(g:Nat)(lb:Array Value)(encs:α->Array Value)(Z:Nat->Prop)(Inv:Int->List α->World->Prop)(Here:Int->List α->α->World->Prop)(S Sp:Int->List α->Prop)(r0:Int)(W:World):Prop:=
 ∀(l:Nat) (J:Int->List α->(Nat->Prop)->World->Prop) (Jx:Int->List α->World->Prop),
  (∀r pre Q A,J r pre Q A->Inv r pre A/\∀k,Q k->k<A.heap.size)->
  (∀r r' pre Q A B,J r pre Q A->r<=r'->za Z A B->Inv r' pre B->J r' pre Q B)->
  (∀m r pre x Q A,J r pre Q A->Here r pre x A->YieldAt Fence.wide m P l (encs x) A (VZ J Jx W.heap.size r (pre++[x]) Q A))->
  J r0 [] (λ_=>False) W->
  Calls P g (#[.func (.yield l) #[] #[]]++lb) W λe W'=>(∃v,e=.returned v)/\((∃r xs Q,S r xs/\J r xs Q W')\/(∃r pre,Sp r pre/\Jx r pre W'))
theorem vQ.seqR{g:Nat}{b:α->Array Value}{c:Int->List α->World->Prop}{a:Int->List α->α->World->Prop}{S d:Int->List α->Prop}
 (h:vQ P g lb b Z c a S d r0 W) (n:Nat):G0 Fence.wide n P g lb b Z c a S d r0 W:=λl p i o h2 f k=>
 callsIn_wide.2 (h l p i o h2 (λm r pre q Q A j e=>db rfl m (f r pre q Q A j e)) k)
variable {P:Program}
theorem kj{g:Operand}{ps:Array Tmp}{H:Exit->Act->World->Prop}
 {gf:Nat}  (U:a.eval g=.func (.func gf) #[] lb) (X:∀args w,(callFunc gf args).run P w=.ok (.enter gf args) w)
 {e:α->Array Value}  {i:Int->List α->World->Prop} {b:Int->List α->α->World->Prop} {S I:Int->List α->Prop} 
 (C:∀m,za (λ_=>False) w m->m.heap.size=w.heap.size+2->vQ P gf lb e Z i b S I r0 m)
 (aa:∀k,Z k->k<w.heap.size) (R:∀d,(e d).size=ps.size)
 (h:Int->List α->(Nat->Prop)->World->Prop) (o:Code->Int->List α->World->Prop)
 (K:∀r pre Q A,h r pre Q A->i r pre A/\∀k,Q k->k<A.heap.size/\k≠w.heap.size/\k≠w.heap.size+1)
 (M:∀r E pre Q A B,h r pre Q A->r<=E->za Z A B->i E pre B->h E pre Q B)
 (J:∀r pre Q A B,h r pre Q A->za (λk=>k=w.heap.size\/k=w.heap.size+1) A B->h r pre Q B)
 (O:∀c r pre A B,o c r pre A->za (λk=>k=w.heap.size\/k=w.heap.size+1) A B->o c r pre B)
 (T:h r0 [] (λ_=>False) w) (q:α->Act->World->Prop)
 (L:∀d a A B,q d a A->za (λk=>k=w.heap.size\/k=w.heap.size+1) A B->q d a B)
 (y:∀r pre d A B,b r pre d A->za (λk=>k=w.heap.size\/k=w.heap.size+1) A B->b r pre d B)
 (f:∀(l:Nat) (r:Int) (pre:List α) (d:α) (Q:Nat->Prop) (W:World) (H:Act->World->Prop),h r pre Q W->b r pre d W->w.heap.size+1<W.heap.size->
  (∀j s,za (λ_=>False) W s->h r pre Q s->b r pre d s->q d j s->H j s)->
  assign.wpIn (Fence.wide.inRound l) 0 P (Exit.then H (λ_ _ _=>False)) {tmps:=(ps.zip (e d)).foldl (λt (p,v)=>t.setIfInBounds p v) a.tmps,defers:=[]} W)
 (z:∀(l:Nat) (r:Int) (pre:List α) (d:α) (Q:Nat->Prop) (j:Act) (W:World),h r pre Q W->b r pre d W->q d j W->w.heap.size+1<W.heap.size->body.wpIn (Fence.wide.inRound l) 0 P (Jr w.heap.size Q h o r (pre++[d]) W) j W)
 (u:∀(D:Nat) (r:Int) (N:List α) (Q:Nat->Prop) (W:World),S r N->h r N Q W->D=w.heap.size->W.heap[D]? =some (.deferred (some []))->H .normal {a with defers:={target:=.collected D,args:=#[]}::a.defers} W)
 (x:∀(D:Nat) (c:Code) (r:Int) (pre:List α) (W:World),I r pre->o c r pre W->D=w.heap.size->W.heap[D]? =some (.deferred (some []))->c.wp P H {a with defers:={target:=.collected D,args:=#[]}::a.defers} W):
 (Code.rangeFunc g ps assign body).wp P H a w:=
 (wpIn_wide (n:=2)).1 (XH (F:=Fence.wide) (n:=2) rfl (by omega) U eI X (λm G h2=>(C m G h2).seqR 1) aa R h o K M J O T q L y f z u
  (λD c r pre W G h2 Y V=>wpIn_wide.2 (x D c r pre W G h2 Y V)))
def Ye(P:Program)(fn:Func)(R:Ending->World->Prop):Exit->Act->World->Prop:=bodyPostM Fence.wide 2 P fn R
theorem yC{f:FuncId}{fn:Func}{c:Code}(a:P.funcs[f]? =some fn)(b:fn.body=some c)
 (h:c.wp P (Ye P fn R) {tmps:=args++Array.replicate (fn.ntmps-args.size) undef,defers:=[]} w):Calls P f args w R:=
 (callsIn_wide (n:=2)).1 (callsIn_of_wp_marks a b eI ((wpIn_wide (n:=2)).2 h) rfl)
theorem jo{fn:Func}{D:Nat}{v:Value}(b:a.defers=[{target:=.collected D,args:=#[] }])(c:w.heap[D]? =some (.deferred (some [])))
 (e:(results fn a.tmps).run P (w.putObj D (.deferred none))=.ok v (w.putObj D (.deferred none))) (d:R (.returned v) (w.putObj D (.deferred none))):Ye P fn R .ret a w:=by
 show LeavesInM _ _ _ _ _ _ _ _ _;rw [b];exact⟨by simp,.inl ⟨D,_,rfl,run_takeDeferred c,v,e,d⟩⟩
structure Open (F:Fence):Prop where
 fn:∀f,F.fn f
 depth:F.depth=none
 calls:∀{n:Nat} {P:Program} {f:FuncId} {args:Array Value} {w:World} {R:Ending->World->Prop},Calls P f args w R->CallsIn F n P f args w R
 rows:∀{n:Nat} {P:Program} {row:String} {args:Array Value} {w:World} {R:Value->World->Prop},Rows P row args w R->RowsIn F n P row args w R
theorem fK{a:String}{R:Value->World->Prop}(h:Rows P a args w R):RowsIn Fence.wide n P a args w R:=λc b _=>
 let ⟨v,w',r,s⟩:=h c b;⟨v,w',r,stepsIn_wide.2 s⟩
theorem vF:Open Fence.wide:=⟨λ_=>eI,rfl,callsIn_wide.2,fK⟩
theorem yt(l:Nat):Open (Fence.wide.inRound l):=⟨λ_=>eI,rfl,λh=>CallsIn.inRound l (callsIn_wide.2 h),λh=>fK h⟩
theorem Open.upon(hF:Open F){e:Oper}{next:Act->World->Prop}{r:Result Next}(h:e.upon P a next Q r):e.uponIn F n P a next Q r:=by
 have b:F.depth.isSome=true->1<=n:=λh=>by rw [hF.depth] at h;cases h
 cases r with
 |ok c w'=>
  cases c with
  |value v=>exact h
  |skip=>exact h
  |defer d=>exact h
  |enter f args=>exact⟨b,hF.calls h⟩
  |row row args=>exact⟨b,hF.rows h⟩
  |round l f tmps assign body=>exact h.elim
  |_=>exact h.elim
 |halt c w'=>
  cases c with
  |panic v=>exact h
  |_=>exact h.elim
theorem Open.op(hF:Open F){b:Array Oper}{rest:List Oper}{e:Oper}(j:e.guard=none)(g:∀c,e.op≠.defer c)
 (h:∀d:Act->World->Prop,(∀a w,wpListIn F n P b Q rest a w->d a w)->e.wp P a w d Q):wpListIn F n P b Q (e::rest) a w:=by
 refine wpListIn_plain j λd i=>⟨λf _=>hF.fn f,?_⟩;rw [Oper.semAt_plain F _ _ g];exact hF.upon (h d i)
theorem Open.store_new(hF:Open F){e:Array Oper}{rest:List Oper}{op:Oper}(g:op.guard=none)(d:TypeId)(s r:Operand)(i:op.op=.store d s r)
 (n:Nat) (c:Array Value) (b:List Value) (o:n=W.heap.size) (l:a.eval s=.pointer (some ⟨n,0,none⟩)) (j:a.eval r=.agg b.toArray)
 (k:(P.info? d).map (·.size)=some b.length) (f:c.size=b.length) (q:∀v∈b,v.oneCell'=true)
 (h:wpListIn F m P e Q rest (a.put op.dst undef) (W.alloc (.cells b.toArray d))):wpListIn F m P e Q (op::rest) a (W.alloc (.cells c d)):=by
 subst o;refine hF.op g (by rw [i];intro c f;cases f) λ_ p=>?_;unfold Oper.wp execOp;simp only [i,l,j,run_storeAt_new (P:=P) W d c b.toArray (by simpa using k) (by simpa using f) (all_oneCell_toArray q),ie,eD,iI];exact p _ _ h
end prog
namespace prog
open Go.ChangeShapes Go.WideShapes Go.ChangeAt Go.RowKit disk ref
open keys (zh ze zy zs)
attribute [local go_sem] Oper.semAt_some
variable {rd:Nat->List Value}{k:Nat}
def qp(next:Nat)(l:List UInt8):Pg:=⟨6,next,l.map λb=>[b]⟩
theorem vG{next:Nat}{l:List UInt8}(h:next<65536)(c:l.length<=124):(qp next l).Ok where
 kind:=by simp [qp]
 link:=h
 wide:=λi a=>by obtain⟨b,_,rfl⟩:=au.1 a;rfl
 fits:=by simp [qp,zk];omega
 few:=by simp [qp];omega
structure zv where
 at_:Nat
 l:List UInt8
structure zv.Ok (p:zv):Prop where
 at_:p.at_<65536
 pos:p.at_≠0
 len:p.l.length<=124
def xw:List zv->Nat
 |[]=>0
 |p::_=>p.at_
def y9(rd:Nat->List Value):List zv->Prop
 |[]=>True
 |p::r=>p.Ok/\rd p.at_=zm (qp (xw r) p.l)/\y9 rd r
theorem y9.ok:∀{ps:List zv},y9 rd ps->∀p∈ps,p.Ok
 |p::r,h,q,a=>by
  rcases ar.1 a with rfl|a;.exact h.1
  .exact y9.ok h.2.2 q a
theorem y9.congr{a:Nat->List Value}:∀{ps:List zv},y9 rd ps->(∀p∈ps,a p.at_=rd p.at_)->y9 a ps
 |[],_,_=>eI
 |p::r,h,e=>⟨h.1,(e p (al ..)).trans h.2.1,y9.congr h.2.2 (λq b=>e q (am _ b))⟩
theorem V0{ps:List zv}(h:y9 rd ps):xw ps<65536:=by
 cases ps with
 |nil=>show 0<65536;omega
 |cons p r=>exact h.1.at_
structure BP where
 p:zv
 g:Nat
def Ku(x:BP):Array Value:=#[.int .i64 (x.p.at_:Int),.slice (some ⟨x.g,4,none⟩) x.p.l.length 124]
structure Js (B:Nat) (ps:List zv) (pre:List BP) (x:BP) (A:World):Prop where
 pre:(pre.map BP.p++[x.p])<+:ps
 pg:∃next,qR A x.g (qp next x.p.l)
 ge:B<=x.g
theorem y9.drop:∀{ps:List zv},y9 rd ps->∀k,y9 rd (ps.drop k)
 |_,h,0=>h
 |[],_,_+1=>eI
 |_::_,h,k+1=>y9.drop h.2.2 k
theorem um{ps:List zv}(h:k<ps.length):xw (ps.drop k)=ps[k].at_:=by rw [aI h];rfl
theorem Jt{ps:List zv}(e:(ps.map zv.at_).Nodup)(b:∀p∈ps,p.Ok)(i:k<=ps.length):(ps.map zv.at_).findIdx (λn:Nat=>decide ((n:Int)=(xw (ps.drop k):Nat)))=k:=by
 by_cases a:k<ps.length
 .rw [um a];rw [List.findIdx_eq (by simpa using a)];refine⟨by simp,λj g=>?_⟩;have d:j<(ps.map zv.at_).length:=by simp;omega
  have c:k<(ps.map zv.at_).length:=by simpa using a
  have:=eB.1 e j k d c g;simp at this ⊢;omega
 .have:k=ps.length:=by omega
  subst this;rw [lm]
  have:(ps.map zv.at_).findIdx (λn:Nat=>decide ((n:Int)=(xw []:Nat)))=(ps.map zv.at_).length:=by rw [List.findIdx_eq_length];intro n h;obtain⟨p,f,rfl⟩:=au.1 h;have:=(b p f).pos;show decide ((p.at_:Int)=((0:Nat):Int))=false;simp;exact this
  rw [this];simp
theorem Zc(W:World)(T:TypeId)(f:FuncId)(a:Addr)(af:VJ T f a)(aw P:Nat)(ps:List zv)(rd:Nat->List Value)(p:y9 rd ps)(N:(ps.map zv.at_).Nodup)(Z:Nat->Prop)(d:Int->List BP->World->Prop)(r0:Int)
 (bd:∀k,Z k->k<W.heap.size) (L:W.heap[aw]? =some (.cells #[.int .i64 (xw ps:Int)] 3 (0,0)))
 (J:∀r pre A,d r pre A->A.heap[P]? =some (.cells #[.iface T (.pointer (some a))] 193 (0,0)))
 (ag:∀r pre A B,d r pre A->za (λ_=>False) A B->d r pre B)
 (C:∀k (aO:k<ps.length) r pre A,d r pre A->pre.map BP.p=ps.take k->r<=r0+k->Calls Tryz.prog f #[.pointer (some a),.int .i64 (ps[k].at_:Int)] A λe M=>e=.returned (.agg (rd ps[k].at_).toArray)/\za Z A M/\∃y,r<=y/\y<=r+1/\d y pre M):
 vQ Tryz.prog 124 #[.pointer (some ⟨aw,0,none⟩),.pointer (some ⟨P,0,none⟩)] Ku Z d (λr pre bo A=>Js W.heap.size ps pre bo A/\r<=r0+pre.length+1) (λr bc=>bc.map BP.p=ps/\r<=r0+ps.length) (λ_ _=>True) r0 W:=by
 intro l aH a5 K al ad X;have bp:W.cell? ⟨aw,0,none⟩=some (.int .i64 (xw ps:Int)):=cR L rfl;have aE:PLift (aH r0 [] (λ_=>False) W):=⟨X⟩;obtain⟨O,aa,bm⟩:∃O:List Value,O=zX/\∀w,(zeroValue 154).run Tryz.prog w=.ok (.agg O.toArray) w:=⟨zX,rfl,zY Tryz.infoPage⟩;have aV:Hid (zT O):=by rw [aa];exact zH
 clear aa;have be:Hid _:=zZ Tryz.infoPage;have a2:=af.meth;have a4:=af.ent;change Hid _ at K al ad J ag C p N bd;clear X L;go_enter Tryz.func124,Tryz.ntmps124;go_wp2_with fail;go_loopw [4] (λt wr=>∃(k:Nat) (r:Int) (pre:List BP) (Q:Nat->Prop),k<=ps.length/\t=.int .i64 (xw (ps.drop k):Nat)/\aH r pre Q wr/\pre.map BP.p=ps.take k/\r<=r0+k/\W.heap.size<=wr.heap.size/\∀j,Q j->W.heap.size<=j) (λt wr=>ps.length-(ps.map zv.at_).findIdx (λn:Nat=>decide ((n:Int)=intOf t)))
 case atStart=>exact⟨0,r0,[],_,aj _,by simp,aE.down,rfl,by simp,aF _,λ_ h=>h.elim⟩
 case round=>
  obtain⟨k,r,pre,Q,aO,rfl,F,i,S,bf,aM⟩:=hrel;have aL:PLift (aH r pre Q wr):=⟨F⟩;have G:=(K r pre Q wr F).1;have an:=(K r pre Q wr F).2;have av:PLift (d r pre wr):=⟨G⟩;have aB:Hid (∀j,Q j->W.heap.size<=j/\j<wr.heap.size):=λj h=>⟨aM j h,an j h⟩;have a1:pre.length=k:=by have:=congrArg List.length i;simp at this;omega
  have aW:Hid (wr.heap[P]? =some (.cells #[.iface T (.pointer (some a))] 193 (0,0))):=J.out _ _ _ G;have bn:wr.cell? ⟨P,0,none⟩=some (.iface T (.pointer (some a))):=cR aW.out rfl;have aD:Hid _:=Jt N p.ok aO;change Hid _ at i;clear F G an aM;by_cases q:k<ps.length
  .have E:=p.ok _ (ai q);have a0:Hid _:=p.drop k
   have am:rd ps[k].at_=zm (qp (xw (ps.drop (k+1))) ps[k].l):=by have:=a0.out;rw [aI q] at this;exact this.2.1
   have v:=C.out k q r pre wr av.down i S;have ba:Hid (Calls Tryz.prog f #[.pointer (some a),.int .i64 (ps[k].at_:Int)] wr λe M=>e=.returned (.agg (zm (qp (xw (ps.drop (k+1))) ps[k].l)).toArray)/\za Z wr M/\∃y,r<=y/\y<=r+1/\d y pre M):=by rw [am] at v;exact v
   have U:Hid (ps.take (k+1)=ps.take k++[ps[k]]):=by show _=_;exact ao q
   have aS:=V0 (p.drop (k+1));have D:Hid _:=vG aS E.len;have bh:=E.pos;have a6:=E.len;clear v am E;rw [um q];generalize aU:ps[k]=b at*;generalize Y:xw (ps.drop (k+1))=m at*;have bl:((b.at_:Int) !=0)=true:=by simp;omega
   refine(wpIn_wide (n:=6)).1 ?_;have az:Hid (∀g,ja g (qp m b.l).kind (qp m b.l).items.length=.slice (some ⟨g,4,none⟩) b.l.length 124):=λg=>by simp [ja,qp,zk]
   gi_wp2_with (first
    |(refine⟨eI,(vF.calls ba).mono ?_⟩;rintro e c ⟨rfl,I,s,ar,a9,ah⟩;have aK:PLift (d s pre c):=⟨ah⟩;change Hid _ at I;clear ah)
    |(show wpListIn _ _ _ _ _ ({dst:=none,op:=.store _ (.tmp 5) (.tmp 11),type:=_,pos:=_,after:=_,guard:=_}::_) _ _;refine vF.store_new rfl 154 (.tmp 5) (.tmp 11) rfl _ _ (zm (qp m b.l)) (by simp) rfl rfl (by rw [ZM D.out];exact be) (by rw [aq,aV.1,ZM D.out]) (yf D).2 ?_))
   have aJ:Hid (za (λ_=>False) c (c.alloc (.cells (zm (qp m b.l)).toArray 154))):=za.alloc _ _ _;have aZ:Hid (qR (c.alloc (.cells (zm (qp m b.l)).toArray 154)) c.heap.size (qp m b.l)):=⟨⟨ac c _⟩,D⟩;have aY:(c.alloc (.cells (zm (qp m b.l)).toArray 154)).heap.size=c.heap.size+1:=by simp
   have bj:=I.size;generalize (c.alloc (.cells (zm (qp m b.l)).toArray 154))=bb at*;refine⟨eI,(vF.calls (jj bb _ _ aZ)).mono ?_⟩;rintro e u ⟨rfl,bq,z⟩;have V:Hid (za (λ_=>False) c u):=aJ.trans (by rw [z];exact kD) iL;have ab:Hid (qR u c.heap.size (qp m b.l)):=aZ.kept (T:=λ_=>False) (by rw [z];exact kD) id;have bk:u.heap.size=c.heap.size+1:=by rw [z];exact aY
   clear z;rw [az.out];have ax:PLift (d s pre u):=⟨ag _ _ _ _ aK.down V⟩;have aQ:PLift (aH s pre Q u):=⟨al r s pre Q wr u aL.down ar ((I.trans V fE)) ax.down⟩;have bg:Hid (Js W.heap.size ps pre ⟨b,c.heap.size⟩ u):=⟨by rw [i.out,<-U.out];exact mG _ _,⟨m,ab⟩,by show W.heap.size<=c.heap.size;omega⟩;obtain⟨fn,tmps,assign,body,aT,aX⟩:=ad.out 5 s pre ⟨b,c.heap.size⟩ Q u aQ.down ⟨bg,by omega⟩;dsimp only [Ku] at aT;gi_wp2;refine aX.mono ?_;clear aX aT;rintro e aG (⟨rfl,au,ap,H,ae⟩|⟨rfl,ak⟩)
   .have aN:PLift (aH s (pre++[⟨b,c.heap.size⟩]) au aG):=⟨ap⟩
    have aP:Hid _:=ab.kept H (λa8=>by
     rcases a8 with h|h;.omega
     .have:=aB.out _ h;omega)
    have bi:=H.size
    have ay:Hid (∀j,au j->W.heap.size<=j):=λj F=>by
     rcases ae j F with h|h;.exact(aB j h).1
     .omega
    have o:(pre++[(⟨b,c.heap.size⟩:BP)]).map BP.p=ps.take (k+1):=by rw [U.out,<-i.out];simp
    have x:Hid _:=o;clear ap H ae o;gi_wp2_with (refine⟨eI,?_⟩;gi_at_call 126;refine(vF.calls (QI _ _ _ aP)).mono ?_;rintro e a3 ⟨rfl,R⟩;rw [R];clear R a3);go_roundw
    case rel=>exact⟨k+1,s,_,au,by omega,by rw [Y];rfl,aN.down,x,by omega,by omega,ay⟩
    case measure=>
     have L:=Jt N p.ok (k:=k+1) (by omega);have h2:=aD.out;rw [um q] at h2;rw [Y] at L;rw [aU] at h2;show ps.length-(ps.map zv.at_).findIdx (λn:Nat=>decide ((n:Int)=((qp m b.l).link:Nat)))<ps.length-(ps.map zv.at_).findIdx (λn:Nat=>decide ((n:Int)=(b.at_:Nat)));rw [h2];have a7:(ps.map zv.at_).findIdx (λn:Nat=>decide ((n:Int)=((qp m b.l).link:Nat)))=k+1:=L;rw [a7];omega
   .obtain⟨aA⟩:Nonempty (PLift (a5 s (pre++[⟨b,c.heap.size⟩]) aG)):=⟨⟨ak⟩⟩;clear ak;gi_wp2;refine bodyPost_ret (results_none rfl _ _ _) rfl ?_;exact⟨⟨_,rfl⟩,.inr ⟨_,_,eI,aA.down⟩⟩
  .have aC:k=ps.length:=by omega
   subst aC;have o:pre.map BP.p=ps:=by rw [i.out,eN]
   have x:Hid _:=o;rw [lm];clear o;have aR:xw ([]:List zv)=0:=rfl;rw [aR];go_wp2;go_end0;exact⟨⟨_,rfl⟩,.inl ⟨r,pre,Q,⟨x,S⟩,aL.down⟩⟩
def qU(n:Nat):List Nat:=(List.range ((n+123)/124)).map (· *124)
theorem kq(n:Nat):(qU n).length=(n+123)/124:=by simp [qU]
def yi(g o n i:Nat):Value:=.slice (some ⟨g,o+i,none⟩) (min 124 (n-i)) (min 124 (n-i))
theorem Kv{n:Nat}(h:k<(n+123)/124):(qU n).take (k+1)=(qU n).take k++[k*124]:=by
 rw [ao (by rw [kq];exact h)];simp [qU]
theorem Kw(W:World)(x o g P n a:Nat)(ar:n<=300)(ak:n<=a)(ah:a<=9223372036854775807)(ai:0<n)(f:Int->List Nat->World->Prop)
 (c:∀r pre A,f r pre A->A.heap[x]? =some (.cells #[.slice (some ⟨g,P,none⟩) n a] 35 (0,0))/\A.heap[o]? =some (.cells #[.int .i64 124] 3 (0,0)))
 (G:∀r pre A B,f r pre A->za (λ_=>False) A B->f r pre B):
 vQ Tryz.prog 168 #[.pointer (some ⟨x,0,none⟩),.pointer (some ⟨o,0,none⟩)] (λi:Nat=>#[yi g P n i]) (λ_=>False) f (λr pre i A=>r=0/\(pre++[i])<+:qU n) (λr ac=>r=0/\ac=qU n) (λ_ _=>True) 0 W:=by
 intro l N S p I F E;have T:PLift (N 0 [] (λ_=>False) W):=⟨E⟩;change Hid _ at p I F c G;clear E;go_enter Tryz.func168,Tryz.ntmps168;go_wp2_with fail;go_loopw [4] (λt wr=>∃(k:Nat) (Q:Nat->Prop),k<=(n+123)/124/\t=.int .i64 (k*124:Nat)/\N 0 ((qU n).take k) Q wr) (λt _=>500-(intOf t).toNat)
 case atStart=>exact⟨0,_,aj _,rfl,T.down⟩
 case round=>
  obtain⟨k,Q,ao,rfl,J⟩:=hrel;have U:PLift (N 0 ((qU n).take k) Q wr):=⟨J⟩;have L:=(p _ _ _ _ J).1;obtain⟨Y,h2⟩:=c.out _ _ _ L;have aq:wr.cell? ⟨x,0,none⟩=some (.slice (some ⟨g,P,none⟩) n a):=cR Y rfl;have al:wr.cell? ⟨o,0,none⟩=some (.int .i64 124):=cR h2 rfl;have K:PLift (f 0 ((qU n).take k) wr):=⟨L⟩;clear J L Y h2;by_cases V:k<(n+123)/124
  .have am:k*124<n:=by omega
   generalize q:k*124=i at*;have X:(i:Int)<=(n:Int):=by omega
   have ad:¬a=i:=by omega
   have M:Hid ((qU n).take (k+1)=(qU n).take k++[i]):=by show _=_;rw [<-q];exact Kv V
   have R:Hid ((0:Int)=0/\((qU n).take k++[i])<+:qU n):=⟨rfl,by rw [<-M.out];exact mG _ _⟩;have Z:PLift (N 0 ((qU n).take k) Q wr.drew):=⟨I _ _ _ _ _ _ U.down (eb _) (za.drew _ _) (G _ _ _ _ K.down (za.drew _ _))⟩;obtain⟨fn,tmps,assign,body,z,D⟩:=F.out 5 0 _ i Q wr.drew Z.down R.out;dsimp only [yi] at z;have ae:(i:Int)<(n:Int):=by omega
   by_cases af:124<=n-i
   .have m:min 124 (n-i)=124:=by omega
    rw [m] at z;have ab:((i:Int)+124).toNat-i=124:=by omega
    have O:(i:Int)+124<=(a:Int):=by omega
    refine(wpIn_wide (n:=6)).1 ?_;gi_wp2;refine(wpIn_wide (n:=6)).2 ?_;go_region_held3 (λw'=>w'.cell? ⟨x,0,none⟩=some (.slice (some ⟨g,P,none⟩) n a)/\w'.cell? ⟨o,0,none⟩=some (.int .i64 124)) (go_keep) (fail);rw [aw (by omega)];gi_wp2;refine D.mono ?_;clear D z;rintro e j (⟨rfl,u,b,v,w⟩|⟨rfl,d⟩)
    .have y:PLift (N 0 ((qU n).take (k+1)) u j):=⟨by rw [M.out];exact b⟩;obtain⟨C,h⟩:=c.out _ _ _ (p _ _ _ _ b).1;have aa:j.cell? ⟨o,0,none⟩=some (.int .i64 124):=cR h rfl;clear b v w C h;gi_wp2;go_roundw
     case rel=>exact⟨k+1,u,by omega,by rw [<-q];go_num,y.down⟩
     case measure=>simp [intOf];omega
    .obtain⟨s⟩:Nonempty (PLift (S 0 ((qU n).take k++[i]) j)):=⟨⟨d⟩⟩;clear d;gi_wp2;refine bodyPost_ret (results_none rfl _ _ _) rfl ?_;exact⟨⟨_,rfl⟩,.inr ⟨_,_,eI,s.down⟩⟩
   .have m:min 124 (n-i)=n-i:=by omega
    rw [m] at z;have ap:((n-i:Nat):Int)<124:=by omega
    have ab:((i:Int)+((n-i:Nat):Int)).toNat-i=n-i:=by omega
    have O:(i:Int)+((n-i:Nat):Int)<=(a:Int):=by omega
    refine(wpIn_wide (n:=6)).1 ?_;gi_wp2;refine(wpIn_wide (n:=6)).2 ?_;go_region_held3 (λw'=>w'.cell? ⟨x,0,none⟩=some (.slice (some ⟨g,P,none⟩) n a)/\w'.cell? ⟨o,0,none⟩=some (.int .i64 124)) (go_keep) (fail);gi_wp2;refine D.mono ?_;clear D z;rintro e j (⟨rfl,u,b,v,w⟩|⟨rfl,d⟩)
    .have y:PLift (N 0 ((qU n).take (k+1)) u j):=⟨by rw [M.out];exact b⟩;obtain⟨C,h⟩:=c.out _ _ _ (p _ _ _ _ b).1;have aa:j.cell? ⟨o,0,none⟩=some (.int .i64 124):=cR h rfl;clear b v w C h;gi_wp2;go_roundw
     case rel=>exact⟨k+1,u,by omega,by rw [<-q];go_num,y.down⟩
     case measure=>simp [intOf];omega
    .obtain⟨s⟩:Nonempty (PLift (S 0 ((qU n).take k++[i]) j)):=⟨⟨d⟩⟩;clear d;gi_wp2;refine bodyPost_ret (results_none rfl _ _ _) rfl ?_;exact⟨⟨_,rfl⟩,.inr ⟨_,_,eI,s.down⟩⟩
  .have ag:¬k*124<n:=by omega
   generalize q:k*124=i at*;have X:¬(i:Int)<(n:Int):=by omega
   have H:(qU n).take k=qU n:=an (by rw [kq];omega);change Hid _ at H;go_wp2;go_end0;exact⟨⟨_,rfl⟩,.inl ⟨0,qU n,⟨rfl,rfl⟩,Q,by rw [<-H.out];exact U.down⟩⟩
theorem Open.append_lies{F:Fence}(hF:Open F){C:Nat}{P:Program}(w:World){r:Array Oper}{rest:List Oper}{J:Oper}{a:Act}{Q:Exit->Act->World->Prop}(B:J.guard=none)(s L:Operand)(t:TypeId)
 (G:J.op=.call {callee:=.builtin .append,args:=#[s,L],argTypes:=#[t,t] })
 (f:Nat) (e:TypeId) (i:TypeInfo) (z:Value) (b bytes:Nat) (K:P.underlying t=some (.slice e)) (Y:P.info? e=some i) (S:i.zero=some z)
 (o:i.size=b) (H:i.bytes=bytes) (I:z.cells.size=b) (E:0<b)
 (v:Value) (n:Nat) (A:List Value) (X:a.eval s=v) (x:w.ownsRow f e b v n A)
 (y:Addr) (m c:Nat) (d:List Value) (Z:a.eval L=.slice (some y) m c) (T:d.length=m*b) (q:∀j u,d[j]? =some u->w.cell? (y.add j)=some u) (R:∀u∈d,u.oneCell'=true)
 (aa:0<m) (D:n+m<=maxLen) (l:(n+m)*bytes<=140737488355328) (p:f<=w.heap.size) (U:Nat) (V:w.heap.size=U)
 (h:∀g k w',w'.ownsRow f e b (.slice (some ⟨g,0,none⟩) (n+m) k) (n+m) (A++d)->w.grownBy w' v.ownBlock->(v.ownBlock=some g\/g=U)->g<w'.heap.size->wpListIn F C P r Q rest (a.put J.dst (.slice (some ⟨g,0,none⟩) (n+m) k)) w'):wpListIn F C P r Q (J::rest) a w:=
 hF.op B (by rw [G];intro c ab;cases ab) λ_ N=>wp_append_lies w s L t G f e i z b bytes K Y S o H I E v n A X x y m c d Z T q R aa D l p U V λg k w' h2 W M O=>N _ _ (h g k w' h2 W M O)
theorem Kx(w:World)(a:Option Addr)(n b:Nat):Calls Tryz.prog 128 #[.slice a n b,.int .i64 124] w λe w'=>
 e=.returned (.func (.func 168) #[] #[.pointer (some ⟨w.heap.size,0,none⟩),.pointer (some ⟨w.heap.size+1,0,none⟩)])/\w'.heap[w.heap.size]? =some (.cells #[.slice a n b] 35 (0,0))/\w'.heap[w.heap.size+1]? =some (.cells #[.int .i64 124] 3 (0,0))/\za (λ_=>False) w w'/\w'.heap.size=w.heap.size+2:=by
 go_enter Tryz.func128,Tryz.ntmps128;go_wp2;go_ret;exact⟨rfl,((za.alloc (λ_=>False) _ _).block w.heap.size (by simp) id).trans (ac w _),eF w _ _,(za.alloc _ _ _).trans (za.alloc _ _ _) iL,by simp⟩
theorem XI(W:World)(h j:Nat)(a:Option Addr)(f:Nat)(d:Int->List Nat->World->Prop)
 (c:∀r pre A,d r pre A->A.heap[h]? =some (.cells #[.slice a 0 f] 35 (0,0))/\A.heap[j]? =some (.cells #[.int .i64 124] 3 (0,0))) (g s:Nat):
 vQ Tryz.prog 168 #[.pointer (some ⟨h,0,none⟩),.pointer (some ⟨j,0,none⟩)] (λi:Nat=>#[yi g s 0 i]) (λ_=>False) d (λr pre i A=>r=0/\(pre++[i])<+:qU 0) (λr p=>r=0/\p=qU 0) (λ_ _=>True) 0 W:=by
 intro l q u e k m b;have o:PLift (q 0 [] (λ_=>False) W):=⟨b⟩;obtain⟨n,h2⟩:=c _ _ _ (e _ _ _ _ b).1;have v:W.cell? ⟨h,0,none⟩=some (.slice a 0 f):=cR n rfl;clear e k m b c n h2;go_enter Tryz.func168,Tryz.ntmps168;go_wp2_with fail;go_loopw [4] (λt wr=>t=.int .i64 0/\wr=W) (λt _=>0)
 case atStart=>exact⟨rfl,rfl⟩
 case round=>
  obtain⟨rfl,rfl⟩:=hrel;go_wp2;go_end0;exact⟨⟨_,rfl⟩,.inl ⟨0,[],λ_=>False,⟨rfl,rfl⟩,o.down⟩⟩
structure Ju (w1:World) (b1 b2 bx:Nat) (s1:Value) (f:Nat->Value) (r:Int) (pre:List Nat) (Q:Nat->Prop) (A:World):Prop where
 box1:A.heap[b1]? =some (.cells #[s1] 35 (0,0))
 box2:A.heap[b2]? =some (.cells #[.int .i64 124] 3 (0,0))
 row:∃v,A.heap[bx]? =some (.cells #[v] 178 (0,0))/\A.ownsRow 0 35 1 v pre.length (pre.map f)/\(∀k,Q k↔v.ownBlock=some k)/\∃a c,v=.slice a pre.length c
 kept:za (λk=>k=bx\/w1.heap.size<=k) w1 A
 q:∀k,Q k->k<A.heap.size/\w1.heap.size+1<k
 r:r=0
theorem Ju.by{a:World}{l m g:Nat}{p:Value}{f:Nat->Value}{r n:Int}{pre:List Nat}{Q Z:Nat->Prop}{A B:World}(h:Ju a l m g p f r pre Q A)(c:za Z A B)(d:∀k,Z k->a.heap.size<=k/\k<=a.heap.size+1)(s:n=0)(z:l<a.heap.size)(x:m<a.heap.size)(y:g<a.heap.size):Ju a l m g p f n pre Q B:=by
 obtain⟨v,q,h2,o,w⟩:=h.row;refine⟨(c.block _ (lT h.box1) (λb=>by have:=d _ b;omega)).trans h.box1,(c.block _ (lT h.box2) (λb=>by have:=d _ b;omega)).trans h.box2,⟨v,(c.block _ (lT q) (λb=>by have:=d _ b;omega)).trans q,c.owns h2 (λj u b=>by have:=d _ b;have:=h.q j ((o j).2 u);omega),o,w⟩,h.kept.trans c (λi t=>.inl (.inr (d i t).1)),λk e=>⟨ay (h.q k e).1 c.size,(h.q k e).2⟩,s⟩
theorem Tryz.infoSU8:(Tryz.prog.info? 35).map (λi=>(i.zero,i.size,i.bytes))=some (some (.slice none 0 0),1,24):=by kernel_rfl
theorem cy(w:World)(q s g ak n:Nat)(O:Value)(a7:n<=300)(aB:w.heap[q]? =some (.cells #[O] 35 (0,0)))(h2:w.heap[s]? =some (.cells #[.int .i64 124] 3 (0,0)))
 (R:∀(W:World) (f:Int->List Nat->World->Prop),(∀r pre A,f r pre A->A.heap[q]? =some (.cells #[O] 35 (0,0))/\A.heap[s]? =some (.cells #[.int .i64 124] 3 (0,0)))->(∀r pre A B,f r pre A->za (λ_=>False) A B->f r pre B)->
  vQ Tryz.prog 168 #[.pointer (some ⟨q,0,none⟩),.pointer (some ⟨s,0,none⟩)] (λi:Nat=>#[yi g ak n i]) (λ_=>False) f (λr pre i A=>r=0/\(pre++[i])<+:qU n) (λr Z=>r=0/\Z=qU n) (λ_ _=>True) 0 W):
 Calls Tryz.prog 167 #[.slice none 0 0,.func (.func 168) #[] #[.pointer (some ⟨q,0,none⟩),.pointer (some ⟨s,0,none⟩)]] w λe w'=>(∃a c,e=.returned (.slice a (qU n).length c)/\w'.ownsRow 0 35 1 (.slice a (qU n).length c) (qU n).length ((qU n).map (yi g ak n))/\∀k,(Value.slice a (qU n).length c).ownBlock=some k->w.heap.size<=k)/\za (λ_=>False) w w':=by
 have an:=(lT aB);have al:=(lT h2)
 have ax:Hid (∀(W:World) (f:Int->List Nat->World->Prop),(∀r pre A,f r pre A->A.heap[q]? =some (.cells #[O] 35 (0,0))/\A.heap[s]? =some (.cells #[.int .i64 124] 3 (0,0)))->(∀r pre A B,f r pre A->za (λ_=>False) A B->f r pre B)->
  vQ Tryz.prog 168 #[.pointer (some ⟨q,0,none⟩),.pointer (some ⟨s,0,none⟩)] (λi:Nat=>#[yi g ak n i]) (λ_=>False) f (λr pre i A=>r=0/\(pre++[i])<+:qU n) (λr Z=>r=0/\Z=qU n) (λ_ _=>True) 0 W):=R
 change Hid _ at aB h2;clear R;obtain⟨af,ao,ar,aw,am⟩:=eZ Tryz.infoSU8;have I:Hid (Tryz.prog.info? 35=some af/\af.zero=some (.slice none 0 0)/\af.size=1/\af.bytes=24):=⟨ao,ar,aw,am⟩;clear ao ar aw am;refine yC Tryz.func167 rfl ?_;simp only [Tryz.ntmps167,aq,ae,hO,Nat.reduceAdd,Nat.reduceSub,iN,iO,i5,iR,aK,aT];go_wp2_with fail;have P:Hid (za (λ_=>False) w (w.alloc (.cells #[.slice none 0 0] 178))):=za.alloc _ _ _;have aF:Hid ((w.alloc (.cells #[.slice none 0 0] 178)).heap[w.heap.size]? =some (.cells #[.slice none 0 0] 178 (0,0))):=ac w _;have a3:(w.alloc (.cells #[.slice none 0 0] 178)).heap.size=w.heap.size+1:=by simp
 generalize (w.alloc (.cells #[.slice none 0 0] 178))=ah at*
 refine kj (α:=Nat) (gf:= 168) (lb:=#[.pointer (some ⟨q,0,none⟩),.pointer (some ⟨s,0,none⟩)]) rfl (enters_of Tryz.func168 (by kernel_rfl) rfl)
  (λaW d a0=>ax aW (λr _ A=>A.heap[q]? =some (.cells #[O] 35 (0,0))/\A.heap[s]? =some (.cells #[.int .i64 124] 3 (0,0))/\r=0) (λr pre A h=>⟨h.1,h.2.1⟩) (λr pre A B h d=>⟨(d.block _ (lT h.1) id).trans h.1,(d.block _ (lT h.2.1) id).trans h.2.1,h.2.2⟩))
  (λk d=>d.elim) (λ_=>rfl)
  (Ju ah q s w.heap.size O (yi g ak n)) (λc r pre A=>False)
  (λr pre Q A h=>⟨⟨h.box1,h.box2,h.r⟩,λk d=>by have:=h.q k d;omega⟩)
  (λr a5 pre Q A B h a6 d o=>h.by d (λk d=>d.elim) o.2.2 (by omega) (by omega) (by omega))
  (λr pre Q A B h d=>h.by d (λk d=>by omega) h.r (by omega) (by omega) (by omega))
  (λc r pre A B h d=>h)
  ⟨(P.block _ an id).trans aB,(P.block _ al id).trans h2,⟨_,aF,aV _ 0 35 1,λk=>by simp [Value.ownBlock],_,_,rfl⟩,za.refl _ _,λ_ h=>h.elim,rfl⟩
  (λau aD A=>aD={tmps:=#[.slice none 0 0,.func (.func 168) #[] #[.pointer (some ⟨q,0,none⟩),.pointer (some ⟨s,0,none⟩)],.pointer (some ⟨w.heap.size,0,none⟩),undef,.slice none 0 0,yi g ak n au,.func (.func 168) #[] #[.pointer (some ⟨q,0,none⟩),.pointer (some ⟨s,0,none⟩)],yi g ak n au,undef,undef,undef,undef,undef],defers:=[] })
  (λau a A B h d=>h) (λr pre au A B h d=>h) ?assign ?body ?done ?stop
 case assign=>
  intro aM r pre au Q A a8 o ai aI X;gi_wp2;exact X _ _ (za.refl _ _) o ai rfl
 case body=>
  rintro aM r pre au Q aD A o ai rfl aI;obtain⟨v,y,C,D,E,H,rfl⟩:=o.row;have l:Hid _:=o;have U:Hid _:=y;have L:Hid _:=C;have p:Hid _:=D
  have aY:pre.length<10:=by obtain⟨z,aQ⟩:=ai.2;have:=congrArg List.length aQ;rw [kq] at this;simp at this;omega
  have aP:A.cell? ⟨w.heap.size,0,none⟩=some (.slice E pre.length H):=cR y rfl;clear o ai y C D;obtain⟨G,m,ad⟩:∃G m,yi g ak n au=.slice G m m:=⟨_,_,rfl⟩;rw [ad];change Hid _ at ad;have N:Hid (za (λ_=>False) A (A.alloc (.cells #[.slice G m m] 35))):=za.alloc _ _ _
  have aL:Hid (∀j u,[.slice G m m][j]? =some u->(A.alloc (.cells #[.slice G m m] 35)).cell? (Addr.add ⟨A.heap.size,0,none⟩ j)=some u):=λj u aE=>by
   have F:j=0:=by have:=(et.1 aE).1;simp at this;exact this
   subst F;have aR:Addr.add ⟨A.heap.size,0,none⟩ 0=⟨A.heap.size,0,none⟩:=eO _ _ _;rw [aR,aG _ _ 0 _ _ _ (ac A _)];simpa using aE
  gi_wp2_with (gi_at_builtin;refine(yt aM).append_lies _ rfl _ _ 178 rfl 0 35 af (.slice none 0 0) 1 24 Tryz.underlying178 I.1 I.2.1 I.2.2.1 I.2.2.2 rfl (by decide) (.slice E pre.length H) pre.length (pre.map (yi g ak n)) rfl (N.owns L nF) ⟨A.heap.size,0,none⟩ 1 1 [.slice G m m] rfl rfl aL (by simp [Value.oneCell']) (by decide) (by unfold maxLen;omega) (by omega) (aj _) (A.heap.size+1) (by simp) ?_;intro t Y x T J ab aA;have ap:Hid (za (λk=>(Value.slice E pre.length H).ownBlock=some k) (A.alloc (.cells #[.slice G m m] 35)) x):=za.grown J (λk d=>d);have K:Hid (x.heap[w.heap.size]? =_):=(ap.block _ (by have:=(lT U);simp;omega) (λaz=>by have:=l.q _ ((p _).2 az);omega)).trans ((N.block _ (lT U) id).trans U);have a2:x.cell? ⟨w.heap.size,0,none⟩=some (.slice E pre.length H):=(cR K.out rfl);have a1:x.frozen? ⟨w.heap.size,0,none⟩=false:=aa x w.heap.size 0 _ _ K.out;change Hid _ at T ab;clear J);have aU:=heap_setCell_same x w.heap.size 0 _ _ (.slice (some ⟨t,0,none⟩) (pre.length+1) Y) K.out;have aH:=za.setCell (S:=λj=>j=w.heap.size) x ⟨w.heap.size,0,none⟩ (.slice (some ⟨t,0,none⟩) (pre.length+1) Y) rfl;have ag:za (λk=>k=w.heap.size\/Q k) A (x.setCell ⟨w.heap.size,0,none⟩ (.slice (some ⟨t,0,none⟩) (pre.length+1) Y)):=(((N.mono fE).trans ap (λk d=>.inl (.inr ((p k).2 d)))).trans aH (λk d=>.inl (.inl d)))
  have aZ:ah.heap.size+1<t:=by
   rcases ab.out with h|h;.exact(l.q t ((p t).2 h)).2
   .omega
  have av:∀b,b<w.heap.size->¬(b=w.heap.size\/Q b):=λb a4 az=>by
   rcases az with h|h;.omega
   .have:=l.q b h;omega
  have M:(pre++[au]).length=pre.length+1:=by simp
  have ay:(x.setCell ⟨w.heap.size,0,none⟩ (.slice (some ⟨t,0,none⟩) (pre.length+1) Y)).heap.size=x.heap.size:=by simp
  refine⟨ag.mono (λk d=>by rcases d with h|h;exact .inl (by omega);exact .inr h),λk=>k=t,⟨(ag.block _ (lT l.box1) (av _ an)).trans l.box1,(ag.block _ (lT l.box2) (av _ al)).trans l.box2,⟨_,aU,?_,λk=>?_,some ⟨t,0,none⟩,Y,by rw [M]⟩,?_,λk d=>⟨?_,by omega⟩,l.r⟩,λk d=>?_⟩
  .rw [M,eh,aO,ig,ad.out];exact aH.owns T (λj F aN=>by simp [Value.ownBlock] at F;omega)
  .simp [Value.ownBlock];exact my
  .exact l.kept.trans ag (λk d=>by
    rcases d with h|h;.exact .inl (.inl h)
    .exact .inr (by have:=l.q k h;omega))
  .rw [ay,d];exact aA
  .rw [d];rcases ab.out with h|h;.exact .inl ((p t).2 h)
   .exact .inr (by omega)
 case done=>
  rintro aS r Z Q A aC o rfl X;obtain⟨v,y,C,D,E,H,rfl⟩:=o.row;have l:Hid _:=o;have V:Hid _:=aC.2;have L:Hid _:=C;have p:Hid _:=D;have aX:Hid _:=X;have aP:A.cell? ⟨w.heap.size,0,none⟩=some (.slice E Z.length H):=cR y rfl;clear o aC y C D X;dsimp only;go_wp2;have aJ:za (λk=>k=ah.heap.size) A (A.putObj ah.heap.size (.deferred none)):=za.putObj _ _ _ rfl;refine jo rfl aX (results_tmp rfl _ _ _) ⟨⟨E,H,?_,?_,λk d=>?_⟩,?_⟩;.rw [<-V.out];rfl
  .rw [<-V.out];exact aJ.owns L (λj F aN=>by have:=l.q j ((p j).2 F);omega)
  .rw [<-V.out] at d;have:=l.q k ((p k).2 d);omega
  .exact(P.trans l.kept (λj F=>.inr (by omega))).trans aJ (λj F=>.inr (by omega))
 case stop=>
  rintro aS c r pre A aC o rfl X;exact o.elim
theorem Yf(w:World)(f j:Nat)(a:Option Addr)(n d:Nat)(D:n<=300)(G:n<=d)(C:d<=9223372036854775807)(E:0<n->∃g l,a=some ⟨g,l,none⟩)(x:w.heap[f]? =some (.cells #[.slice a n d] 35 (0,0)))(h2:w.heap[j]? =some (.cells #[.int .i64 124] 3 (0,0))):
 Calls Tryz.prog 127 #[.func (.func 168) #[] #[.pointer (some ⟨f,0,none⟩),.pointer (some ⟨j,0,none⟩)]] w λe w'=>(∃g l p c,(0<n->a=some ⟨g,l,none⟩)/\e=.returned (.slice p (qU n).length c)/\w'.ownsRow 0 35 1 (.slice p (qU n).length c) (qU n).length ((qU n).map (yi g l n))/\∀k,(Value.slice p (qU n).length c).ownBlock=some k->w.heap.size<=k)/\za (λ_=>False) w w':=by
 obtain⟨g,l,y,m⟩:∃g l,(0<n->a=some ⟨g,l,none⟩)/\∀(W:World) (b:Int->List Nat->World->Prop),(∀r pre A,b r pre A->A.heap[f]? =some (.cells #[.slice a n d] 35 (0,0))/\A.heap[j]? =some (.cells #[.int .i64 124] 3 (0,0)))->(∀r pre A B,b r pre A->za (λ_=>False) A B->b r pre B)->
  vQ Tryz.prog 168 #[.pointer (some ⟨f,0,none⟩),.pointer (some ⟨j,0,none⟩)] (λi:Nat=>#[yi g l n i]) (λ_=>False) b (λr pre i A=>r=0/\(pre++[i])<+:qU n) (λr H=>r=0/\H=qU n) (λ_ _=>True) 0 W:=by
  by_cases t:0<n
  .obtain⟨g,l,rfl⟩:=E t;exact⟨g,l,λ_=>rfl,λW b u v=>Kw W f j g l n d D G C t b u v⟩
  .obtain rfl:n=0:=by omega
   exact⟨0,0,λh=>by omega,λW b u v=>XI W f j a d b u 0 0⟩
 have z:=cy w f j g l n (.slice a n d) D x h2 m;have F:Hid (Calls Tryz.prog 167 #[.slice none 0 0,.func (.func 168) #[] #[.pointer (some ⟨f,0,none⟩),.pointer (some ⟨j,0,none⟩)]] w λe w'=>(∃a c,e=.returned (.slice a (qU n).length c)/\w'.ownsRow 0 35 1 (.slice a (qU n).length c) (qU n).length ((qU n).map (yi g l n))/\∀k,(Value.slice a (qU n).length c).ownBlock=some k->w.heap.size<=k)/\za (λ_=>False) w w'):=z;change Hid _ at y;clear z m x h2 E;go_enter Tryz.func127,Tryz.ntmps127;go_wp2_with fail;refine F.mono ?_;rintro e J ⟨⟨p,I,rfl,o,q⟩,s⟩;change Hid _ at o q s;go_wp2;go_ret;exact⟨⟨g,l,p,I,y,rfl,o,q⟩,s⟩
theorem ZT(w:World)(v:Value)(d:v.oneCell'=true)(a:Option Addr)(n c:Nat)(b:v=.slice a n c):Calls Tryz.prog 130 #[v] w λe w'=>
 e=.returned (.func (.func 169) #[] #[.pointer (some ⟨w.heap.size,0,none⟩)])/\w'.heap[w.heap.size]? =some (.cells #[v] 178 (0,0))/\za (λ_=>False) w w'/\w'.heap.size=w.heap.size+1:=by
 subst b;go_enter Tryz.func130,Tryz.ntmps130;go_wp2;go_ret;exact⟨rfl,ac w _,za.alloc _ _ _,by simp⟩
def yR(m:Nat):List Nat:=(List.range m).reverse
theorem vH(m:Nat):(yR m).length=m:=by simp [yR]
theorem XJ{m:Nat}(h:k<m):(yR m).take (k+1)=(yR m).take k++[m-1-k]:=by
 rw [ao (by rw [vH];exact h)];simp [yR]
theorem V1(W:World)(u g m c:Nat)(vs:List Value)(ae:vs.length=m)(al:m<=1000)(enc:Nat->Value)(p:∀i (h:i<vs.length),vs[i]=enc i)(L:∀i,∃a n c,enc i=.slice a n c)(f:Int->List Nat->World->Prop)
 (b:∀r pre A,f r pre A->A.heap[u]? =some (.cells #[.slice (some ⟨g,0,none⟩) m c] 178 (0,0))/\A.ownsRow 0 35 1 (.slice (some ⟨g,0,none⟩) m c) m vs)
 (X:∀r pre A B,f r pre A->za (λ_=>False) A B->f r pre B):
 vQ Tryz.prog 169 #[.pointer (some ⟨u,0,none⟩)] (λi:Nat=>#[.int .i64 (i:Int),enc i]) (λ_=>False) f (λr pre i A=>r=0/\(pre++[i])<+:yR m) (λr ab=>r=0/\ab=yR m) (λ_ _=>True) 0 W:=by
 intro l Y Z q G z s;have M:PLift (Y 0 [] (λ_=>False) W):=⟨s⟩;obtain⟨o, -⟩:=b _ _ _ (q _ _ _ _ s).1;have ai:W.cell? ⟨u,0,none⟩=some (.slice (some ⟨g,0,none⟩) m c):=cR o rfl;change Hid _ at q z b p L;clear G s X o;go_enter Tryz.func169,Tryz.ntmps169;go_wp2_with fail;go_loopw [3] (λt wr=>∃(k:Nat) (Q:Nat->Prop),k<=m/\t=.int .i64 ((m:Int)-1-k)/\Y 0 ((yR m).take k) Q wr) (λt _=>(intOf t+1).toNat)
 case atStart=>exact⟨0,_,aj _,by simp,M.down⟩
 case round=>
  obtain⟨k,Q,ag,rfl,w⟩:=hrel;have D:PLift (Y 0 ((yR m).take k) Q wr):=⟨w⟩;obtain⟨o,d⟩:=b.out _ _ _ (q _ _ _ _ w).1;have ah:wr.cell? ⟨u,0,none⟩=some (.slice (some ⟨g,0,none⟩) m c):=cR o rfl;by_cases E:k<m
  .obtain⟨i,R⟩:∃i,i=m-1-k:=⟨_,rfl⟩;have j:(m:Int)-1-k=(i:Int):=by omega
   have ad:i<m:=by omega
   have v:wr.cell? ⟨g,i,none⟩=some (enc i):=by have:=d.cells (g:=g) rfl i (enc i) (by rw [aH (by omega),p.out i (by omega)]);rw [eO] at this;simpa using this
   have V:Hid ((yR m).take (k+1)=(yR m).take k++[i]):=by show _=_;rw [R];exact XJ E
   have H:Hid ((0:Int)=0/\((yR m).take k++[i])<+:yR m):=⟨rfl,by rw [<-V.out];exact mG _ _⟩;obtain⟨fn,tmps,assign,body,P,T⟩:=z.out 5 0 _ i Q wr D.down H.out;have ac:(0:Int)<=(i:Int):=by omega
   have aa:(i:Int)<(m:Int):=by omega
   rw [j];obtain⟨am,ak,af,I⟩:=L.out i;rw [I] at v P;change Hid _ at j;clear w o d R;refine(wpIn_wide (n:=6)).1 ?_;gi_wp2;refine T.mono ?_;clear T P;rintro e O (⟨rfl,J,C,S,U⟩|⟨rfl,x⟩)
   .have K:PLift (Y 0 ((yR m).take (k+1)) J O):=⟨by rw [V.out];exact C⟩;clear C S U;gi_wp2;go_roundw
    case rel=>exact⟨k+1,J,by omega,by rw [<-j.out];go_num,K.down⟩
    case measure=>have:=j.out;simp [intOf]
   .obtain⟨F⟩:Nonempty (PLift (Z 0 ((yR m).take k++[i]) O)):=⟨⟨x⟩⟩;clear x;gi_wp2;refine bodyPost_ret (results_none rfl _ _ _) rfl ?_;exact⟨⟨_,rfl⟩,.inr ⟨_,_,eI,F.down⟩⟩
  .obtain rfl:k=m:=by omega
   have N:(k:Int)-1-k= -1:=by omega
   rw [N];have y:=an (by rw [vH];omega);change Hid _ at y;clear w o d;go_wp2;go_end0;exact⟨⟨_,rfl⟩,.inl ⟨0,yR k,Q,⟨rfl,rfl⟩,by rw [<-y.out];exact D.down⟩⟩
end prog
end Go.Proofs.YtcoengihaobddaaGreatDoor

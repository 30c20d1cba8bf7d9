/- Part 22 of 36 of a proof: Rng1, Rng2, Rng3, BWalk1, Chunk1, Coll1, Back1 -/
import Derived.Test.YtcoengihaobddaaGreatDoorJb18
import Derived.RangeFuncRecord
import Derived.RangeFuncSeq
import Derived.RangeFuncBound
import Derived.RangeFuncCalls
import Derived.OwnWalkIn
import Derived.TacticsInMore
import Derived.Shelf.RegionOpen
set_option maxHeartbeats 8000000
set_option linter.unusedVariables false
set_option linter.unusedSimpArgs false
set_option maxRecDepth 8000
namespace Go.Proofs.YtcoengihaobddaaGreatDoor
namespace prog
open Go.RowKit disk
variable {α:Type}{assign body:Code}{a:Act}{w W:World}{lb args:Array Value}{Z:Nat->Prop}{r0:Int}{F:Fence}{m n:Nat}{P:Program}{R:Ending->World->Prop}{Q:Exit->Act->World->Prop}
theorem za.putObj{S:Nat->Prop}(w:World)(l:Nat)(b:Obj)(h:S l):za S w (w.putObj l b):=
 ⟨rfl,rfl,rfl,by simp,λk _ a=>World.putObj_heap_other (λe=>a (e▸h))⟩
def G0{α:Type}(F:Fence)(n:Nat)(P:Program)(g:Nat)(lb:Array Value)(encs:α->Array Value)(Z:Nat->Prop)(Inv:Int->List α->World->Prop)(Here:Int->List α->α->World->Prop)(S Sp:Int->List α->Prop)(r0:Int)(W:World):Prop:=
 ∀(l:Nat) (J:Int->List α->(Nat->Prop)->World->Prop) (Jx:Int->List α->World->Prop),
  (∀r pre Q A,J r pre Q A->Inv r pre A/\∀k,Q k->k<A.heap.size)->
  (∀r r' pre Q A B,J r pre Q A->r<=r'->za Z A B->Inv r' pre B->J r' pre Q B)->
  (∀r pre x Q A,J r pre Q A->Here r pre x A->YieldAt F (n-1) P l (encs x) A λe A'=>
   (e=.returned (.bool true)/\∃Q',J r (pre++[x]) Q' A'/\za (λk=>k<W.heap.size\/Q k) A A'/\∀k,Q' k->Q k\/A.heap.size<=k)\/(e=.returned (.bool false)/\Jx r (pre++[x]) A'))->
  J r0 [] (λ_=>False) W->
  CallsIn F n P g (#[.func (.yield l) #[] #[]]++lb) W λe W'=>(∃v,e=.returned v)/\((∃r xs Q,S r xs/\J r xs Q W')\/(∃r pre,Sp r pre/\Jx r pre W'))
def Jr{α:Type}(B:Nat)(Q:Nat->Prop)(I:Int->List α->(Nat->Prop)->World->Prop)(Ix:Code->Int->List α->World->Prop)(r:Int)(xs:List α)(W:World):Exit->Act->World->Prop
 |.normal,_,W'=>za (λk=>k<B\/Q k) W W'/\∃Q',I r xs Q' W'/\∀k,Q' k->Q k\/W.heap.size<=k
 |.ret,_,W'=>za (λk=>k<B\/Q k) W W'/\Ix .ret r xs W'
 |.exit id,_,W'=>za (λk=>k<B\/Q k) W W'/\Ix (.exit id) r xs W'
 |.goto t,_,W'=>za (λk=>k<B\/Q k) W W'/\Ix (.goto t) r xs W'
 |.panic _,_,_=>False
 |.outgrown,_,_=>False
variable {F:Fence} {n:Nat} {P:Program}
theorem XH{g:Operand}{ps:Array Tmp}{aB:Exit->Act->World->Prop}
 (aE:F.round=none) (a2:1<=n) {gf:Nat}  (a5:a.eval g=.func (.func gf) #[] lb) (aF:F.fn gf) (aY:∀args w,(callFunc gf args).run P w=.ok (.enter gf args) w)
 {H:α->Array Value}  {af:Int->List α->World->Prop} {u:Int->List α->α->World->Prop} {S aG:Int->List α->Prop} 
 (az:∀o,za (λ_=>False) w o->o.heap.size=w.heap.size+2->G0 F (n-1) P gf lb H Z af u S aG r0 o)
 (aK:∀k,Z k->k<w.heap.size) (aT:∀G,(H G).size=ps.size)
 (Y:Int->List α->(Nat->Prop)->World->Prop) (ag:Code->Int->List α->World->Prop)
 (ab:∀r pre Q A,Y r pre Q A->af r pre A/\∀k,Q k->k<A.heap.size/\k≠w.heap.size/\k≠w.heap.size+1)
 (aW:∀r ah pre Q A B,Y r pre Q A->r<=ah->za Z A B->af ah pre B->Y ah pre Q B)
 (T:∀r pre Q A B,Y r pre Q A->za (λk=>k=w.heap.size\/k=w.heap.size+1) A B->Y r pre Q B)
 (R:∀c r pre A B,ag c r pre A->za (λk=>k=w.heap.size\/k=w.heap.size+1) A B->ag c r pre B)
 (a3:Y r0 [] (λ_=>False) w) (an:α->Act->World->Prop)
 (aL:∀G a A B,an G a A->za (λk=>k=w.heap.size\/k=w.heap.size+1) A B->an G a B)
 (ap:∀r pre G A B,u r pre G A->za (λk=>k=w.heap.size\/k=w.heap.size+1) A B->u r pre G B)
 (X:∀(l:Nat) (r:Int) (pre:List α) (G:α) (Q:Nat->Prop) (W:World) (aB:Act->World->Prop),Y r pre Q W->u r pre G W->w.heap.size+1<W.heap.size->
  (∀N ac,za (λ_=>False) W ac->Y r pre Q ac->u r pre G ac->an G N ac->aB N ac)->
  assign.wpIn (F.inRound l) (n-1-1) P (Exit.then aB (λ_ _ _=>False)) {tmps:=(ps.zip (H G)).foldl (λt (p,v)=>t.setIfInBounds p v) a.tmps,defers:=[]} W)
 (ao:∀(l:Nat) (r:Int) (pre:List α) (G:α) (Q:Nat->Prop) (N:Act) (W:World),Y r pre Q W->u r pre G W->an G N W->w.heap.size+1<W.heap.size->body.wpIn (F.inRound l) (n-1-1) P (Jr w.heap.size Q Y ag r (pre++[G]) W) N W)
 (am:∀(D:Nat) (r:Int) (aj:List α) (Q:Nat->Prop) (W:World),S r aj->Y r aj Q W->D=w.heap.size->W.heap[D]? =some (.deferred (some []))->aB .normal {a with defers:={target:=.collected D,args:=#[]}::a.defers} W)
 (al:∀(D:Nat) (c:Code) (r:Int) (pre:List α) (W:World),aG r pre->ag c r pre W->D=w.heap.size->W.heap[D]? =some (.deferred (some []))->c.wpIn F n P aB {a with defers:={target:=.collected D,args:=#[]}::a.defers} W):
 (Code.rangeFunc g ps assign body).wpIn F n P aB a w:=by
 refine wpIn_rangeFunc ?_;intro fn aN;rw [aE];obtain⟨d,j⟩:∃d:LoopState->Option Code->Loop,d=λst a1=>{state:=st,pending:=a1,fn,tmps:=a.tmps,params:=ps,assign,body,defers:=w.heap.size}:=⟨_,rfl⟩;obtain⟨o,K⟩:∃o,(w.alloc (.deferred (some []))).alloc (.loop (d .ready none))=o:=⟨_,rfl⟩
 have aC:o.heap[w.heap.size+1]? =some (.loop (d .ready none)):=by rw [<-K];have:=World.alloc_heap_new (w.alloc (.deferred (some []))) (.loop (d .ready none));rwa [World.size_alloc] at this
 have aH:o.heap[w.heap.size]? =some (.deferred (some [])):=by rw [<-K];exact(ma _ _ _ (by simp)).trans (World.alloc_heap_new w _)
 have ae:za (λ_=>False) w o:=by rw [<-K];exact(za.alloc _ _ _).trans (za.alloc _ _ _) iL
 have V:o.heap.size=w.heap.size+2:=by rw [<-K];simp
 have aM:Y r0 [] (λ_=>False) o:=T _ _ _ _ _ a3 (ae.mono (λ_ h=>h.elim))
 refine⟨w.heap.size+1,[{target:=.collected w.heap.size,args:=#[] }],o,{target:=.fn (.func gf) lb,args:=#[.func (.yield (w.heap.size+1)) #[] #[]]},o,gf,
  #[.func (.yield (w.heap.size+1)) #[] #[]]++lb,o,?_,?_,?_,?_,λ_=>a2,?_⟩
 .rw [<-K,j];exact run_enterLoop_outer _ _ _ _ _
 .simp only [resolve,a5];simp [go_sem]
 .intro a7 aw;simp [Target.leads] at aw;subst aw;exact aF
 .simp [invoke,go_sem,aY]
 .refine(az o ae V (w.heap.size+1)
   (λr pre Q W=>Y r pre Q W/\W.heap[w.heap.size+1]? =some (.loop (d .ready none))/\W.heap[w.heap.size]? =some (.deferred (some [])))
   (λr pre W=>∃c,ag c r pre W/\W.heap[w.heap.size+1]? =some (.loop (d .done (some c)))/\W.heap[w.heap.size]? =some (.deferred (some [])))
   (λr pre Q A h=>⟨(ab _ _ _ _ h.1).1,λk q=>((ab _ _ _ _ h.1).2 k q).1⟩)
   (λr ah pre Q A B h I q s=>by
    have a6:=(lT h.2.1)
    exact⟨aW _ _ _ _ _ _ h.1 I q s,(q.block _ a6 (λaA=>by have:=aK _ aA;omega)).trans h.2.1,(q.block _ (by omega) (λaA=>by have:=aK _ aA;omega)).trans h.2.2⟩)
   ?_ ⟨aM,aC,aH⟩).mono ?_
  .rintro r pre G Q W ⟨s,L,q⟩ aZ;have ad:w.heap.size+1<W.heap.size:=(lT L);have aU:=run_yield (P:=P) (args:=H G) L (by rw [j];exact aT G);rw [j] at aU;refine⟨fn,_,assign,body,aU,roundIn_of_wpIn aN (X _ r pre G Q W _ s aZ ad ?_)⟩;intro N z J au aO aV;have M:=ay ad J.size;have aX:z.heap[w.heap.size+1]? =some (.loop (d .ready none)):=(J.block _ ad (λax=>ax)).trans L;have aQ:z.heap[w.heap.size]? =some (.deferred (some [])):=(J.block _ (by omega) (λax=>ax)).trans q;refine⟨_,run_beginRound aX (by rw [j]),?_⟩;have ai:za (λk=>k=w.heap.size\/k=w.heap.size+1) z (z.putObj (w.heap.size+1) (.loop {d .ready none with state:=.busy })):=za.putObj _ _ _ (.inr rfl);have aI:(z.putObj (w.heap.size+1) (.loop {d .ready none with state:=.busy })).heap[w.heap.size+1]? =some (.loop {d .ready none with state:=.busy }):=World.putObj_heap_same M;have aJ:(z.putObj (w.heap.size+1) (.loop {d .ready none with state:=.busy })).heap[w.heap.size]? =some (.deferred (some [])):=(World.putObj_heap_other (by omega)).trans aQ;have U:(z.putObj (w.heap.size+1) (.loop {d .ready none with state:=.busy })).heap.size=z.heap.size:=by simp
   refine wpIn_mono (ao _ r pre G Q N _ (T _ _ _ _ _ au ai) (ap _ _ _ _ _ aO ai) (aL _ _ _ _ aV ai) (by rw [U];exact M)) ?_
   have av:∀k,k=w.heap.size\/k=w.heap.size+1->¬(k<w.heap.size\/Q k):=λk q ak=>by
    rcases ak with ak|ak;.omega
    .have:=(ab _ _ _ _ au).2 k ak;omega
   have O:∀(b:Option Code) (m:World),za (λk=>k<w.heap.size\/Q k) (z.putObj (w.heap.size+1) (.loop {d .ready none with state:=.busy })) m->
    (Instr.endRound (w.heap.size+1) b).run P m=.ok (.bool b.isNone) (m.putObj (w.heap.size+1) (.loop (d (if b.isNone then .ready else .done) b)))/\
    za (λk=>k=w.heap.size\/k=w.heap.size+1) m (m.putObj (w.heap.size+1) (.loop (d (if b.isNone then .ready else .done) b)))/\
    (m.putObj (w.heap.size+1) (.loop (d (if b.isNone then .ready else .done) b))).heap[w.heap.size+1]? =some (.loop (d (if b.isNone then .ready else .done) b))/\
    (m.putObj (w.heap.size+1) (.loop (d (if b.isNone then .ready else .done) b))).heap[w.heap.size]? =some (.deferred (some [])):=λb m f=>by
    have ar:=(f.block _ (by rw [U];exact M) (av _ (.inr rfl))).trans aI;have aR:=(f.block _ (by rw [U];omega) (av _ (.inl rfl))).trans aJ;have:=run_endRound (P:=P) b ar;rw [j] at this ⊢;exact⟨this,za.putObj _ _ _ (.inr rfl),World.putObj_heap_same (lT ar),(World.putObj_heap_other (by omega)).trans aR⟩
   have aq:∀(b:Option Code) (m:World),za (λk=>k<w.heap.size\/Q k) (z.putObj (w.heap.size+1) (.loop {d .ready none with state:=.busy })) m->
    za (λk=>k<o.heap.size\/Q k) W (m.putObj (w.heap.size+1) (.loop (d (if b.isNone then .ready else .done) b))):=λb m f=>by
    have k1:za (λk=>k<o.heap.size\/Q k) W z:=J.mono (λ_ h=>h.elim);have k2:=k1.trans ai (λi s=>.inl (.inl (by rw [V];omega)));have k3:=k2.trans f (λi s=>.inl (by rcases s with s|s;exact .inl (by rw [V];omega);exact .inr s));exact k3.trans (za.putObj (S:=λk=>k=w.heap.size+1) _ _ _ rfl) (λi s=>.inl (.inl (by rw [V];omega)))
   rintro e ba m aa
   cases e with
   |normal=>
    obtain⟨f,a4,E,aS⟩:=aa;obtain⟨I,C,y,x⟩:=O none m f;exact⟨_,_,I,.inl ⟨rfl,a4,⟨T _ _ _ _ _ E C,y,x⟩,aq none m f,λk q=>(aS k q).imp id (λh=>by rw [U] at h;exact aD J.size h)⟩⟩
   |ret=>
    obtain⟨f,E⟩:=aa;obtain⟨I,C,y,x⟩:=O (some .ret) m f;exact⟨_,_,I,.inr ⟨rfl,.ret,R _ _ _ _ _ E C,y,x⟩⟩
   |exit id=>
    obtain⟨f,E⟩:=aa;obtain⟨I,C,y,x⟩:=O (some (.exit id)) m f;exact⟨_,_,I,.inr ⟨rfl,.exit id,R _ _ _ _ _ E C,y,x⟩⟩
   |goto t=>
    obtain⟨f,E⟩:=aa;obtain⟨I,C,y,x⟩:=O (some (.goto t)) m f;exact⟨_,_,I,.inr ⟨rfl,.goto t,R _ _ _ _ _ E C,y,x⟩⟩
   |panic a8=>exact aa.elim
   |outgrown=>exact aa.elim
  .rintro e a9 ⟨⟨v,rfl⟩,(⟨r,aj,Q,a0,s,L,q⟩|⟨r,pre,aP,c,s,L,q⟩)⟩;.exact⟨none,_,by have:=run_endLoop (P:=P) L (by rw [j];simp);rw [j] at this;exact this,am _ r aj Q _ a0 (T _ _ _ _ _ s (za.putObj _ _ _ (.inr rfl))) rfl ((World.putObj_heap_other (by omega)).trans q)⟩
   .exact⟨some c,_,by have:=run_endLoop (P:=P) L (by rw [j];simp);rw [j] at this;exact this,al _ c r pre _ aP (R c _ _ _ _ s (za.putObj _ _ _ (.inr rfl))) rfl ((World.putObj_heap_other (by omega)).trans q)⟩
theorem bk(a:F.depth=none)(k:Nat):F.room k:=λd h=>by rw [a] at h;cases h
theorem db(d:F.depth=none){b:Nat}{l:Nat}{f:FuncId}{tmps:Array Value}
 (h:RoundIn F m P l f tmps assign body w R):RoundIn F b P l f tmps assign body w R:=⟨h.1,λc a _=>h.2 c a (bk d _)⟩
theorem dc(d:F.depth=none)(b:Nat){l:Nat}(h:YieldAt F m P l args W R):YieldAt F b P l args W R:=by
 obtain⟨fn,tmps,assign,body,a,c⟩:=h;exact⟨fn,tmps,assign,body,a,db d c⟩
def VZ{α:Type}(J:Int->List α->(Nat->Prop)->World->Prop)(Jx:Int->List α->World->Prop)(B:Nat)(r:Int)(xs:List α)(Q:Nat->Prop)(A:World)(e:Ending)(A':World):Prop:=
 (e=.returned (.bool true)/\∃Q',J r xs Q' A'/\za (λk=>k<B\/Q k) A A'/\∀k,Q' k->Q k\/A.heap.size<=k)\/(e=.returned (.bool false)/\Jx r xs A')
def vO{α:Type}(P:Program)(g:Nat)(lb:Array Value)(encs:α->Array Value)(Z:Nat->Prop)(Inv:Int->List α->World->Prop)(Here:Int->List α->α->World->Prop)(S Sp:Int->List α->Prop)(r0:Int)(W:World):Prop:=
 ∀(l:Nat) (J:Int->List α->(Nat->Prop)->World->Prop) (Jx:Int->List α->World->Prop),
  (∀r pre Q A,J r pre Q A->Inv r pre A/\∀k,Q k->k<A.heap.size)->
  (∀r r' pre Q A B,J r pre Q A->r<=r'->za Z A B->Inv r' pre B->J r' pre Q B)->
  (∀m r pre x Q A,J r pre Q A->Here r pre x A->YieldAt Fence.wide m P l (encs x) A (VZ J Jx W.heap.size r (pre++[x]) Q A))->
  J r0 [] (λ_=>False) W->
  Calls P g (#[.func (.yield l) #[] #[]]++lb) W λe W'=>(∃v,e=.returned v)/\((∃r xs Q,S r xs/\J r xs Q W')\/(∃r pre,Sp r pre/\Jx r pre W'))
theorem vO.seqR{g:Nat}{b:α->Array Value}{c:Int->List α->World->Prop}{a:Int->List α->α->World->Prop}{S d:Int->List α->Prop}
 (h:vO P g lb b Z c a S d r0 W) (n:Nat):G0 Fence.wide n P g lb b Z c a S d r0 W:=λl p k f h2 o j=>
 callsIn_wide.2 (h l p k f h2 (λm r pre q Q A i e=>dc rfl m (o r pre q Q A i e)) j)
variable {P:Program}
theorem kf{g:Operand}{ps:Array Tmp}{H:Exit->Act->World->Prop}
 {gf:Nat}  (X:a.eval g=.func (.func gf) #[] lb) (T:∀args w,(callFunc gf args).run P w=.ok (.enter gf args) w)
 {e:α->Array Value}  {j:Int->List α->World->Prop} {b:Int->List α->α->World->Prop} {S J:Int->List α->Prop} 
 (G:∀s,za (λ_=>False) w s->s.heap.size=w.heap.size+2->vO P gf lb e Z j b S J r0 s)
 (Y:∀k,Z k->k<w.heap.size) (K:∀d,(e d).size=ps.size)
 (h:Int->List α->(Nat->Prop)->World->Prop) (q:Code->Int->List α->World->Prop)
 (O:∀r pre Q A,h r pre Q A->j r pre A/\∀k,Q k->k<A.heap.size/\k≠w.heap.size/\k≠w.heap.size+1)
 (N:∀r E pre Q A B,h r pre Q A->r<=E->za Z A B->j E pre B->h E pre Q B)
 (R:∀r pre Q A B,h r pre Q A->za (λk=>k=w.heap.size\/k=w.heap.size+1) A B->h r pre Q B)
 (L:∀c r pre A B,q c r pre A->za (λk=>k=w.heap.size\/k=w.heap.size+1) A B->q c r pre B)
 (U:h r0 [] (λ_=>False) w) (m:α->Act->World->Prop)
 (M:∀d a A B,m d a A->za (λk=>k=w.heap.size\/k=w.heap.size+1) A B->m d a B)
 (z:∀r pre d A B,b r pre d A->za (λk=>k=w.heap.size\/k=w.heap.size+1) A B->b r pre d B)
 (f:∀(l:Nat) (r:Int) (pre:List α) (d:α) (Q:Nat->Prop) (W:World) (H:Act->World->Prop),h r pre Q W->b r pre d W->w.heap.size+1<W.heap.size->
  (∀i o,za (λ_=>False) W o->h r pre Q o->b r pre d o->m d i o->H i o)->
  assign.wpIn (Fence.wide.inRound l) 0 P (Exit.then H (λ_ _ _=>False)) {tmps:=(ps.zip (e d)).foldl (λt (p,v)=>t.setIfInBounds p v) a.tmps,defers:=[]} W)
 (y:∀(l:Nat) (r:Int) (pre:List α) (d:α) (Q:Nat->Prop) (i:Act) (W:World),h r pre Q W->b r pre d W->m d i W->w.heap.size+1<W.heap.size->body.wpIn (Fence.wide.inRound l) 0 P (Jr w.heap.size Q h q r (pre++[d]) W) i W)
 (x:∀(D:Nat) (r:Int) (I:List α) (Q:Nat->Prop) (W:World),S r I->h r I Q W->D=w.heap.size->W.heap[D]? =some (.deferred (some []))->H .normal {a with defers:={target:=.collected D,args:=#[]}::a.defers} W)
 (u:∀(D:Nat) (c:Code) (r:Int) (pre:List α) (W:World),J r pre->q c r pre W->D=w.heap.size->W.heap[D]? =some (.deferred (some []))->c.wp P H {a with defers:={target:=.collected D,args:=#[]}::a.defers} W):
 (Code.rangeFunc g ps assign body).wp P H a w:=
 (wpIn_wide (n:=2)).1 (XH (F:=Fence.wide) (n:=2) rfl (by omega) X eI T (λs C h2=>(G s C h2).seqR 1) Y K h q O N R L U m M z f y x
  (λD c r pre W C h2 V aa=>wpIn_wide.2 (u D c r pre W C h2 V aa)))
def Ye(P:Program)(fn:Func)(R:Ending->World->Prop):Exit->Act->World->Prop:=bodyPostM Fence.wide 2 P fn R
theorem yz{f:FuncId}{fn:Func}{c:Code}(b:P.funcs[f]? =some fn)(a:fn.body=some c)
 (h:c.wp P (Ye P fn R) {tmps:=args++Array.replicate (fn.ntmps-args.size) undef,defers:=[]} w):Calls P f args w R:=
 (callsIn_wide (n:=2)).1 (callsIn_of_wp_marks b a eI ((wpIn_wide (n:=2)).2 h) rfl)
theorem jh{fn:Func}{D:Nat}{v:Value}(c:a.defers=[{target:=.collected D,args:=#[] }])(b:w.heap[D]? =some (.deferred (some [])))
 (e:(results fn a.tmps).run P (w.putObj D (.deferred none))=.ok v (w.putObj D (.deferred none))) (d:R (.returned v) (w.putObj D (.deferred none))):Ye P fn R .ret a w:=by
 show LeavesInM _ _ _ _ _ _ _ _ _;rw [c];exact⟨by simp,.inl ⟨D,_,rfl,run_takeDeferred b,v,e,d⟩⟩
structure Open (F:Fence):Prop where
 fn:∀f,F.fn f
 depth:F.depth=none
 calls:∀{n:Nat} {P:Program} {f:FuncId} {args:Array Value} {w:World} {R:Ending->World->Prop},Calls P f args w R->CallsIn F n P f args w R
 rows:∀{n:Nat} {P:Program} {row:String} {args:Array Value} {w:World} {R:Value->World->Prop},Rows P row args w R->RowsIn F n P row args w R
theorem fL{a:String}{R:Value->World->Prop}(h:Rows P a args w R):RowsIn Fence.wide n P a args w R:=λc b _=>
 let ⟨v,w',r,s⟩:=h c b;⟨v,w',r,stepsIn_wide.2 s⟩
theorem vC:Open Fence.wide:=⟨λ_=>eI,rfl,callsIn_wide.2,fL⟩
theorem yo(l:Nat):Open (Fence.wide.inRound l):=⟨λ_=>eI,rfl,λh=>CallsIn.inRound l (callsIn_wide.2 h),λh=>fL h⟩
theorem Open.upon(hF:Open F){e:Oper}{next:Act->World->Prop}{r:Result Next}(h:e.upon P a next Q r):e.uponIn F n P a next Q r:=by
 have b:F.depth.isSome=true->1<=n:=λh=>by rw [hF.depth] at h;cases h
 cases r with
 |ok c w'=>
  cases c with
  |value v=>exact h
  |skip=>exact h
  |defer d=>exact h
  |enter f args=>exact⟨b,hF.calls h⟩
  |row row args=>exact⟨b,hF.rows h⟩
  |round l f tmps assign body=>exact h.elim
  |_=>exact h.elim
 |halt c w'=>
  cases c with
  |panic v=>exact h
  |_=>exact h.elim
theorem Open.op(hF:Open F){b:Array Oper}{rest:List Oper}{e:Oper}(g:e.guard=none)(i:∀c,e.op≠.defer c)
 (h:∀d:Act->World->Prop,(∀a w,wpListIn F n P b Q rest a w->d a w)->e.wp P a w d Q):wpListIn F n P b Q (e::rest) a w:=by
 refine wpListIn_plain g λd j=>⟨λf _=>hF.fn f,?_⟩;rw [Oper.semAt_plain F _ _ i];exact hF.upon (h d j)
theorem Open.store_new(hF:Open F){e:Array Oper}{rest:List Oper}{op:Oper}(i:op.guard=none)(d:TypeId)(r s:Operand)(g:op.op=.store d r s)
 (n:Nat) (c:Array Value) (b:List Value) (q:n=W.heap.size) (k:a.eval r=.pointer (some ⟨n,0,none⟩)) (j:a.eval s=.agg b.toArray)
 (p:(P.info? d).map (·.size)=some b.length) (f:c.size=b.length) (l:∀v∈b,v.oneCell'=true)
 (h:wpListIn F m P e Q rest (a.put op.dst undef) (W.alloc (.cells b.toArray d))):wpListIn F m P e Q (op::rest) a (W.alloc (.cells c d)):=by
 subst q;refine hF.op i (by rw [g];intro c f;cases f) λ_ o=>?_;unfold Oper.wp execOp;simp only [g,k,j,run_storeAt_new (P:=P) W d c b.toArray (by simpa using p) (by simpa using f) (all_oneCell_toArray l),ie,eD,iI];exact o _ _ h
end prog
namespace prog
open Go.ChangeShapes Go.WideShapes Go.ChangeAt Go.RowKit disk ref
open keys (zh zd zx zq)
attribute [local go_sem] Oper.semAt_some
variable {rd:Nat->List Value}{k:Nat}
def qp(next:Nat)(l:List UInt8):Pg:=⟨6,next,l.map λb=>[b]⟩
theorem vD{next:Nat}{l:List UInt8}(h:next<65536)(c:l.length<=124):(qp next l).Ok where
 kind:=by simp [qp]
 link:=h
 wide:=λi a=>by obtain⟨b,_,rfl⟩:=au.1 a;rfl
 fits:=by simp [qp,zk];omega
 few:=by simp [qp];omega
structure zv where
 at_:Nat
 l:List UInt8
structure zv.Ok (p:zv):Prop where
 at_:p.at_<65536
 pos:p.at_≠0
 len:p.l.length<=124
def xo:List zv->Nat
 |[]=>0
 |p::_=>p.at_
def yZ(rd:Nat->List Value):List zv->Prop
 |[]=>True
 |p::r=>p.Ok/\rd p.at_=zl (qp (xo r) p.l)/\yZ rd r
theorem yZ.ok:∀{ps:List zv},yZ rd ps->∀p∈ps,p.Ok
 |p::r,h,q,a=>by
  rcases ar.1 a with rfl|a;.exact h.1
  .exact yZ.ok h.2.2 q a
theorem yZ.congr{a:Nat->List Value}:∀{ps:List zv},yZ rd ps->(∀p∈ps,a p.at_=rd p.at_)->yZ a ps
 |[],_,_=>eI
 |p::r,h,e=>⟨h.1,(e p (al ..)).trans h.2.1,yZ.congr h.2.2 (λq b=>e q (am _ b))⟩
theorem V0{ps:List zv}(h:yZ rd ps):xo ps<65536:=by
 cases ps with
 |nil=>show 0<65536;omega
 |cons p r=>exact h.1.at_
structure BP where
 p:zv
 g:Nat
def Ku(x:BP):Array Value:=#[.int .i64 (x.p.at_:Int),.slice (some ⟨x.g,4,none⟩) x.p.l.length 124]
structure Js (B:Nat) (ps:List zv) (pre:List BP) (x:BP) (A:World):Prop where
 pre:(pre.map BP.p++[x.p])<+:ps
 pg:∃next,qP A x.g (qp next x.p.l)
 ge:B<=x.g
theorem yZ.drop:∀{ps:List zv},yZ rd ps->∀k,yZ rd (ps.drop k)
 |_,h,0=>h
 |[],_,_+1=>eI
 |_::_,h,k+1=>yZ.drop h.2.2 k
theorem uj{ps:List zv}(h:k<ps.length):xo (ps.drop k)=ps[k].at_:=by rw [aI h];rfl
theorem Jt{ps:List zv}(e:(ps.map zv.at_).Nodup)(b:∀p∈ps,p.Ok)(i:k<=ps.length):(ps.map zv.at_).findIdx (λn:Nat=>decide ((n:Int)=(xo (ps.drop k):Nat)))=k:=by
 by_cases a:k<ps.length
 .rw [uj a];rw [List.findIdx_eq (by simpa using a)];refine⟨by simp,λj g=>?_⟩;have d:j<(ps.map zv.at_).length:=by simp;omega
  have c:k<(ps.map zv.at_).length:=by simpa using a
  have:=eB.1 e j k d c g;simp at this ⊢;omega
 .have:k=ps.length:=by omega
  subst this;rw [lm]
  have:(ps.map zv.at_).findIdx (λn:Nat=>decide ((n:Int)=(xo []:Nat)))=(ps.map zv.at_).length:=by rw [List.findIdx_eq_length];intro n h;obtain⟨p,f,rfl⟩:=au.1 h;have:=(b p f).pos;show decide ((p.at_:Int)=((0:Nat):Int))=false;simp;exact this
  rw [this];simp
theorem Zc(W:World)(T:TypeId)(f:FuncId)(a:Addr)(am:VJ T f a)(aw O:Nat)(ps:List zv)(rd:Nat->List Value)(p:yZ rd ps)(H:(ps.map zv.at_).Nodup)(Z:Nat->Prop)(d:Int->List BP->World->Prop)(r0:Int)
 (a9:∀k,Z k->k<W.heap.size) (J:W.heap[aw]? =some (.cells #[.int .i64 (xo ps:Int)] 3 (0,0)))
 (L:∀r pre A,d r pre A->A.heap[O]? =some (.cells #[.iface T (.pointer (some a))] 193 (0,0)))
 (S:∀r pre A B,d r pre A->za (λ_=>False) A B->d r pre B)
 (E:∀k (aB:k<ps.length) r pre A,d r pre A->pre.map BP.p=ps.take k->r<=r0+k->Calls Tryz.prog f #[.pointer (some a),.int .i64 (ps[k].at_:Int)] A λe G=>e=.returned (.agg (rd ps[k].at_).toArray)/\za Z A G/\∃v,r<=v/\v<=r+1/\d v pre G):
 vO Tryz.prog 124 #[.pointer (some ⟨aw,0,none⟩),.pointer (some ⟨O,0,none⟩)] Ku Z d (λr pre bm A=>Js W.heap.size ps pre bm A/\r<=r0+pre.length+1) (λr a6=>a6.map BP.p=ps/\r<=r0+ps.length) (λ_ _=>True) r0 W:=by
 intro l aH be N V ad an;have bn:W.cell? ⟨aw,0,none⟩=some (.int .i64 (xo ps:Int)):=cR J rfl;have ax:PLift (aH r0 [] (λ_=>False) W):=⟨an⟩;obtain⟨P,ae,bq⟩:∃P:List Value,P=zW/\∀w,(zeroValue 154).run Tryz.prog w=.ok (.agg P.toArray) w:=⟨zW,rfl,zX Tryz.infoPage⟩;have aL:Hid (zS P):=by rw [ae];exact zG
 clear ae;have a5:Hid _:=zY Tryz.infoPage;have a2:=am.meth;have bg:=am.ent;change Hid _ at N V ad L S E p H a9;clear an J;go_enter Tryz.func124,Tryz.ntmps124;go_wp2_with fail;go_loopw [4] (λt wr=>∃(k:Nat) (r:Int) (pre:List BP) (Q:Nat->Prop),k<=ps.length/\t=.int .i64 (xo (ps.drop k):Nat)/\aH r pre Q wr/\pre.map BP.p=ps.take k/\r<=r0+k/\W.heap.size<=wr.heap.size/\∀j,Q j->W.heap.size<=j) (λt wr=>ps.length-(ps.map zv.at_).findIdx (λn:Nat=>decide ((n:Int)=intOf t)))
 case atStart=>exact⟨0,r0,[],_,aj _,by simp,ax.down,rfl,by simp,aF _,λ_ h=>h.elim⟩
 case round=>
  obtain⟨k,r,pre,Q,aB,rfl,F,i,ak,bc,aT⟩:=hrel;have aW:PLift (aH r pre Q wr):=⟨F⟩;have M:=(N r pre Q wr F).1;have U:=(N r pre Q wr F).2;have au:PLift (d r pre wr):=⟨M⟩;have ay:Hid (∀j,Q j->W.heap.size<=j/\j<wr.heap.size):=λj h=>⟨aT j h,U j h⟩;have a1:pre.length=k:=by have:=congrArg List.length i;simp at this;omega
  have aM:Hid (wr.heap[O]? =some (.cells #[.iface T (.pointer (some a))] 193 (0,0))):=L.out _ _ _ M;have bo:wr.cell? ⟨O,0,none⟩=some (.iface T (.pointer (some a))):=cR aM.out rfl;have a0:Hid _:=Jt H p.ok aB;change Hid _ at i;clear F M U aT;by_cases q:k<ps.length
  .have z:=p.ok _ (ai q);have aS:Hid _:=p.drop k
   have R:rd ps[k].at_=zl (qp (xo (ps.drop (k+1))) ps[k].l):=by have:=aS.out;rw [aI q] at this;exact this.2.1
   have x:=E.out k q r pre wr au.down i ak;have a4:Hid (Calls Tryz.prog f #[.pointer (some a),.int .i64 (ps[k].at_:Int)] wr λe G=>e=.returned (.agg (zl (qp (xo (ps.drop (k+1))) ps[k].l)).toArray)/\za Z wr G/\∃v,r<=v/\v<=r+1/\d v pre G):=by rw [R] at x;exact x
   have ap:Hid (ps.take (k+1)=ps.take k++[ps[k]]):=by show _=_;exact ao q
   have aX:=V0 (p.drop (k+1));have D:Hid _:=vD aX z.len;have bi:=z.pos;have bb:=z.len;clear x R z;rw [uj q];generalize aA:ps[k]=b at*;generalize ab:xo (ps.drop (k+1))=m at*;have bl:((b.at_:Int) !=0)=true:=by simp;omega
   refine(wpIn_wide (n:=6)).1 ?_;have aP:Hid (∀g,xX g (qp m b.l).kind (qp m b.l).items.length=.slice (some ⟨g,4,none⟩) b.l.length 124):=λg=>by simp [xX,qp,zk]
   gi_wp2_with (first
    |(refine⟨eI,(vC.calls a4).mono ?_⟩;rintro e c ⟨rfl,K,s,av,bd,aa⟩;have aQ:PLift (d s pre c):=⟨aa⟩;change Hid _ at K;clear aa)
    |(show wpListIn _ _ _ _ _ ({dst:=none,op:=.store _ (.tmp 5) (.tmp 11),type:=_,pos:=_,after:=_,guard:=_}::_) _ _;refine vC.store_new rfl 154 (.tmp 5) (.tmp 11) rfl _ _ (zl (qp m b.l)) (by simp) rfl rfl (by rw [ZM D.out];exact a5) (by rw [aq,aL.1,ZM D.out]) (yc D).2 ?_))
   have aO:Hid (za (λ_=>False) c (c.alloc (.cells (zl (qp m b.l)).toArray 154))):=za.alloc _ _ _;have aK:Hid (qP (c.alloc (.cells (zl (qp m b.l)).toArray 154)) c.heap.size (qp m b.l)):=⟨⟨ac c _⟩,D⟩;have aE:(c.alloc (.cells (zl (qp m b.l)).toArray 154)).heap.size=c.heap.size+1:=by simp
   have bk:=K.size;generalize (c.alloc (.cells (zl (qp m b.l)).toArray 154))=bf at*;refine⟨eI,(vC.calls (je bf _ _ aK)).mono ?_⟩;rintro e u ⟨rfl,bp,C⟩;have al:Hid (za (λ_=>False) c u):=aO.trans (by rw [C];exact kD) iL;have af:Hid (qP u c.heap.size (qp m b.l)):=aK.kept (T:=λ_=>False) (by rw [C];exact kD) id;have bh:u.heap.size=c.heap.size+1:=by rw [C];exact aE
   clear C;rw [aP.out];have aG:PLift (d s pre u):=⟨S _ _ _ _ aQ.down al⟩;have aR:PLift (aH s pre Q u):=⟨V r s pre Q wr u aW.down av ((K.trans al fE)) aG.down⟩;have a3:Hid (Js W.heap.size ps pre ⟨b,c.heap.size⟩ u):=⟨by rw [i.out,<-ap.out];exact mG _ _,⟨m,af⟩,by show W.heap.size<=c.heap.size;omega⟩;obtain⟨fn,tmps,assign,body,aY,aJ⟩:=ad.out 5 s pre ⟨b,c.heap.size⟩ Q u aR.down ⟨a3,by omega⟩;dsimp only [Ku] at aY;gi_wp2;refine aJ.mono ?_;clear aJ aY;rintro e aN (⟨rfl,ar,ag,I,ah⟩|⟨rfl,X⟩)
   .have aD:PLift (aH s (pre++[⟨b,c.heap.size⟩]) ar aN):=⟨ag⟩
    have aU:Hid _:=af.kept I (λa7=>by
     rcases a7 with h|h;.omega
     .have:=ay.out _ h;omega)
    have bj:=I.size
    have az:Hid (∀j,ar j->W.heap.size<=j):=λj F=>by
     rcases ah j F with h|h;.exact(ay j h).1
     .omega
    have o:(pre++[(⟨b,c.heap.size⟩:BP)]).map BP.p=ps.take (k+1):=by rw [ap.out,<-i.out];simp
    have y:Hid _:=o;clear ag I ah o;gi_wp2_with (refine⟨eI,?_⟩;gi_at_call 126;refine(vC.calls (QI _ _ _ aU)).mono ?_;rintro e ba ⟨rfl,Y⟩;rw [Y];clear Y ba);go_roundw
    case rel=>exact⟨k+1,s,_,ar,by omega,by rw [ab];rfl,aD.down,y,by omega,by omega,az⟩
    case measure=>
     have J:=Jt H p.ok (k:=k+1) (by omega);have h2:=a0.out;rw [uj q] at h2;rw [ab] at J;rw [aA] at h2;show ps.length-(ps.map zv.at_).findIdx (λn:Nat=>decide ((n:Int)=((qp m b.l).link:Nat)))<ps.length-(ps.map zv.at_).findIdx (λn:Nat=>decide ((n:Int)=(b.at_:Nat)));rw [h2];have a8:(ps.map zv.at_).findIdx (λn:Nat=>decide ((n:Int)=((qp m b.l).link:Nat)))=k+1:=J;rw [a8];omega
   .obtain⟨aZ⟩:Nonempty (PLift (be s (pre++[⟨b,c.heap.size⟩]) aN)):=⟨⟨X⟩⟩;clear X;gi_wp2;refine bodyPost_ret (results_none rfl _ _ _) rfl ?_;exact⟨⟨_,rfl⟩,.inr ⟨_,_,eI,aZ.down⟩⟩
  .have aC:k=ps.length:=by omega
   subst aC;have o:pre.map BP.p=ps:=by rw [i.out,eN]
   have y:Hid _:=o;rw [lm];clear o;have aV:xo ([]:List zv)=0:=rfl;rw [aV];go_wp2;go_end0;exact⟨⟨_,rfl⟩,.inl ⟨r,pre,Q,⟨y,ak⟩,aW.down⟩⟩
def qS(n:Nat):List Nat:=(List.range ((n+123)/124)).map (· *124)
theorem kg(n:Nat):(qS n).length=(n+123)/124:=by simp [qS]
def yf(g o n i:Nat):Value:=.slice (some ⟨g,o+i,none⟩) (min 124 (n-i)) (min 124 (n-i))
theorem Kv{n:Nat}(h:k<(n+123)/124):(qS n).take (k+1)=(qS n).take k++[k*124]:=by
 rw [ao (by rw [kg];exact h)];simp [qS]
theorem Kw(W:World)(z j g X n a:Nat)(ar:n<=300)(ak:n<=a)(ah:a<=9223372036854775807)(ai:0<n)(h:Int->List Nat->World->Prop)
 (c:∀r pre A,h r pre A->A.heap[z]? =some (.cells #[.slice (some ⟨g,X,none⟩) n a] 35 (0,0))/\A.heap[j]? =some (.cells #[.int .i64 124] 3 (0,0)))
 (F:∀r pre A B,h r pre A->za (λ_=>False) A B->h r pre B):
 vO Tryz.prog 168 #[.pointer (some ⟨z,0,none⟩),.pointer (some ⟨j,0,none⟩)] (λi:Nat=>#[yf g X n i]) (λ_=>False) h (λr pre i A=>r=0/\(pre++[i])<+:qS n) (λr aa=>r=0/\aa=qS n) (λ_ _=>True) 0 W:=by
 intro l N V q G H I;have O:PLift (N 0 [] (λ_=>False) W):=⟨I⟩;change Hid _ at q G H c F;clear I;go_enter Tryz.func168,Tryz.ntmps168;go_wp2_with fail;go_loopw [4] (λt wr=>∃(k:Nat) (Q:Nat->Prop),k<=(n+123)/124/\t=.int .i64 (k*124:Nat)/\N 0 ((qS n).take k) Q wr) (λt _=>500-(intOf t).toNat)
 case atStart=>exact⟨0,_,aj _,rfl,O.down⟩
 case round=>
  obtain⟨k,Q,al,rfl,M⟩:=hrel;have U:PLift (N 0 ((qS n).take k) Q wr):=⟨M⟩;have K:=(q _ _ _ _ M).1;obtain⟨S,h2⟩:=c.out _ _ _ K;have ao:wr.cell? ⟨z,0,none⟩=some (.slice (some ⟨g,X,none⟩) n a):=cR S rfl;have ap:wr.cell? ⟨j,0,none⟩=some (.int .i64 124):=cR h2 rfl;have L:PLift (h 0 ((qS n).take k) wr):=⟨K⟩;clear M K S h2;by_cases T:k<(n+123)/124
  .have am:k*124<n:=by omega
   generalize p:k*124=i at*;have Y:(i:Int)<=(n:Int):=by omega
   have ae:¬a=i:=by omega
   have J:Hid ((qS n).take (k+1)=(qS n).take k++[i]):=by show _=_;rw [<-p];exact Kv T
   have Z:Hid ((0:Int)=0/\((qS n).take k++[i])<+:qS n):=⟨rfl,by rw [<-J.out];exact mG _ _⟩;have P:PLift (N 0 ((qS n).take k) Q wr.drew):=⟨G _ _ _ _ _ _ U.down (eb _) (za.drew _ _) (F _ _ _ _ L.down (za.drew _ _))⟩;obtain⟨fn,tmps,assign,body,y,D⟩:=H.out 5 0 _ i Q wr.drew P.down Z.out;dsimp only [yf] at y;have ad:(i:Int)<(n:Int):=by omega
   by_cases ac:124<=n-i
   .have m:min 124 (n-i)=124:=by omega
    rw [m] at y;have ab:((i:Int)+124).toNat-i=124:=by omega
    have R:(i:Int)+124<=(a:Int):=by omega
    refine(wpIn_wide (n:=6)).1 ?_;gi_wp2;refine(wpIn_wide (n:=6)).2 ?_;go_region_held3 (λw'=>w'.cell? ⟨z,0,none⟩=some (.slice (some ⟨g,X,none⟩) n a)/\w'.cell? ⟨j,0,none⟩=some (.int .i64 124)) (go_keep) (fail);rw [aw (by omega)];gi_wp2;refine D.mono ?_;clear D y;rintro e o (⟨rfl,w,b,v,x⟩|⟨rfl,d⟩)
    .have u:PLift (N 0 ((qS n).take (k+1)) w o):=⟨by rw [J.out];exact b⟩;obtain⟨s,f⟩:=c.out _ _ _ (q _ _ _ _ b).1;have af:o.cell? ⟨j,0,none⟩=some (.int .i64 124):=cR f rfl;clear b v x s f;gi_wp2;go_roundw
     case rel=>exact⟨k+1,w,by omega,by rw [<-p];go_num,u.down⟩
     case measure=>simp [intOf];omega
    .obtain⟨C⟩:Nonempty (PLift (V 0 ((qS n).take k++[i]) o)):=⟨⟨d⟩⟩;clear d;gi_wp2;refine bodyPost_ret (results_none rfl _ _ _) rfl ?_;exact⟨⟨_,rfl⟩,.inr ⟨_,_,eI,C.down⟩⟩
   .have m:min 124 (n-i)=n-i:=by omega
    rw [m] at y;have aq:((n-i:Nat):Int)<124:=by omega
    have ab:((i:Int)+((n-i:Nat):Int)).toNat-i=n-i:=by omega
    have R:(i:Int)+((n-i:Nat):Int)<=(a:Int):=by omega
    refine(wpIn_wide (n:=6)).1 ?_;gi_wp2;refine(wpIn_wide (n:=6)).2 ?_;go_region_held3 (λw'=>w'.cell? ⟨z,0,none⟩=some (.slice (some ⟨g,X,none⟩) n a)/\w'.cell? ⟨j,0,none⟩=some (.int .i64 124)) (go_keep) (fail);gi_wp2;refine D.mono ?_;clear D y;rintro e o (⟨rfl,w,b,v,x⟩|⟨rfl,d⟩)
    .have u:PLift (N 0 ((qS n).take (k+1)) w o):=⟨by rw [J.out];exact b⟩;obtain⟨s,f⟩:=c.out _ _ _ (q _ _ _ _ b).1;have af:o.cell? ⟨j,0,none⟩=some (.int .i64 124):=cR f rfl;clear b v x s f;gi_wp2;go_roundw
     case rel=>exact⟨k+1,w,by omega,by rw [<-p];go_num,u.down⟩
     case measure=>simp [intOf];omega
    .obtain⟨C⟩:Nonempty (PLift (V 0 ((qS n).take k++[i]) o)):=⟨⟨d⟩⟩;clear d;gi_wp2;refine bodyPost_ret (results_none rfl _ _ _) rfl ?_;exact⟨⟨_,rfl⟩,.inr ⟨_,_,eI,C.down⟩⟩
  .have ag:¬k*124<n:=by omega
   generalize p:k*124=i at*;have Y:¬(i:Int)<(n:Int):=by omega
   have E:(qS n).take k=qS n:=an (by rw [kg];omega);change Hid _ at E;go_wp2;go_end0;exact⟨⟨_,rfl⟩,.inl ⟨0,qS n,⟨rfl,rfl⟩,Q,by rw [<-E.out];exact U.down⟩⟩
theorem Open.append_lies{F:Fence}(hF:Open F){D:Nat}{P:Program}(w:World){r:Array Oper}{rest:List Oper}{J:Oper}{a:Act}{Q:Exit->Act->World->Prop}(I:J.guard=none)(s T:Operand)(t:TypeId)
 (H:J.op=.call {callee:=.builtin .append,args:=#[s,T],argTypes:=#[t,t] })
 (f:Nat) (e:TypeId) (i:TypeInfo) (z:Value) (b bytes:Nat) (ab:P.underlying t=some (.slice e)) (Y:P.info? e=some i) (aa:i.zero=some z)
 (o:i.size=b) (B:i.bytes=bytes) (C:z.cells.size=b) (E:0<b)
 (v:Value) (n:Nat) (y:List Value) (K:a.eval s=v) (x:w.ownsRow f e b v n y)
 (A:Addr) (m c:Nat) (d:List Value) (L:a.eval T=.slice (some A) m c) (W:d.length=m*b) (p:∀j u,d[j]? =some u->w.cell? (A.add j)=some u) (M:∀u∈d,u.oneCell'=true)
 (V:0<m) (G:n+m<=maxLen) (l:(n+m)*bytes<=140737488355328) (q:f<=w.heap.size) (O:Nat) (R:w.heap.size=O)
 (h:∀g k w',w'.ownsRow f e b (.slice (some ⟨g,0,none⟩) (n+m) k) (n+m) (y++d)->w.grownBy w' v.ownBlock->(v.ownBlock=some g\/g=O)->g<w'.heap.size->wpListIn F D P r Q rest (a.put J.dst (.slice (some ⟨g,0,none⟩) (n+m) k)) w'):wpListIn F D P r Q (J::rest) a w:=
 hF.op I (by rw [H];intro c S;cases S) λ_ X=>wp_append_lies w s T t H f e i z b bytes ab Y aa o B C E v n y K x A m c d L W p M V G l q O R λg k w' h2 U Z N=>X _ _ (h g k w' h2 U Z N)
theorem Kx(w:World)(a:Option Addr)(n b:Nat):Calls Tryz.prog 128 #[.slice a n b,.int .i64 124] w λe w'=>
 e=.returned (.func (.func 168) #[] #[.pointer (some ⟨w.heap.size,0,none⟩),.pointer (some ⟨w.heap.size+1,0,none⟩)])/\w'.heap[w.heap.size]? =some (.cells #[.slice a n b] 35 (0,0))/\w'.heap[w.heap.size+1]? =some (.cells #[.int .i64 124] 3 (0,0))/\za (λ_=>False) w w'/\w'.heap.size=w.heap.size+2:=by
 go_enter Tryz.func128,Tryz.ntmps128;go_wp2;go_ret;exact⟨rfl,((za.alloc (λ_=>False) _ _).block w.heap.size (by simp) id).trans (ac w _),eF w _ _,(za.alloc _ _ _).trans (za.alloc _ _ _) iL,by simp⟩
theorem XI(W:World)(h j:Nat)(a:Option Addr)(d:Nat)(f:Int->List Nat->World->Prop)
 (c:∀r pre A,f r pre A->A.heap[h]? =some (.cells #[.slice a 0 d] 35 (0,0))/\A.heap[j]? =some (.cells #[.int .i64 124] 3 (0,0))) (g s:Nat):
 vO Tryz.prog 168 #[.pointer (some ⟨h,0,none⟩),.pointer (some ⟨j,0,none⟩)] (λi:Nat=>#[yf g s 0 i]) (λ_=>False) f (λr pre i A=>r=0/\(pre++[i])<+:qS 0) (λr p=>r=0/\p=qS 0) (λ_ _=>True) 0 W:=by
 intro l q u e o n b;have k:PLift (q 0 [] (λ_=>False) W):=⟨b⟩;obtain⟨m,h2⟩:=c _ _ _ (e _ _ _ _ b).1;have v:W.cell? ⟨h,0,none⟩=some (.slice a 0 d):=cR m rfl;clear e o n b c m h2;go_enter Tryz.func168,Tryz.ntmps168;go_wp2_with fail;go_loopw [4] (λt wr=>t=.int .i64 0/\wr=W) (λt _=>0)
 case atStart=>exact⟨rfl,rfl⟩
 case round=>
  obtain⟨rfl,rfl⟩:=hrel;go_wp2;go_end0;exact⟨⟨_,rfl⟩,.inl ⟨0,[],λ_=>False,⟨rfl,rfl⟩,k.down⟩⟩
structure Ju (w1:World) (b1 b2 bx:Nat) (s1:Value) (f:Nat->Value) (r:Int) (pre:List Nat) (Q:Nat->Prop) (A:World):Prop where
 box1:A.heap[b1]? =some (.cells #[s1] 35 (0,0))
 box2:A.heap[b2]? =some (.cells #[.int .i64 124] 3 (0,0))
 row:∃v,A.heap[bx]? =some (.cells #[v] 178 (0,0))/\A.ownsRow 0 35 1 v pre.length (pre.map f)/\(∀k,Q k↔v.ownBlock=some k)/\∃a c,v=.slice a pre.length c
 kept:za (λk=>k=bx\/w1.heap.size<=k) w1 A
 q:∀k,Q k->k<A.heap.size/\w1.heap.size+1<k
 r:r=0
theorem Ju.by{b:World}{m l g:Nat}{n:Value}{f:Nat->Value}{r p:Int}{pre:List Nat}{Q Z:Nat->Prop}{A B:World}(h:Ju b m l g n f r pre Q A)(c:za Z A B)(d:∀k,Z k->b.heap.size<=k/\k<=b.heap.size+1)(w:p=0)(x:m<b.heap.size)(y:l<b.heap.size)(z:g<b.heap.size):Ju b m l g n f p pre Q B:=by
 obtain⟨v,o,h2,q,u⟩:=h.row;refine⟨(c.block _ (lT h.box1) (λa=>by have:=d _ a;omega)).trans h.box1,(c.block _ (lT h.box2) (λa=>by have:=d _ a;omega)).trans h.box2,⟨v,(c.block _ (lT o) (λa=>by have:=d _ a;omega)).trans o,c.owns h2 (λj s a=>by have:=d _ a;have:=h.q j ((q j).2 s);omega),q,u⟩,h.kept.trans c (λi t=>.inl (.inr (d i t).1)),λk e=>⟨ay (h.q k e).1 c.size,(h.q k e).2⟩,w⟩
theorem Tryz.infoSU8:(Tryz.prog.info? 35).map (λi=>(i.zero,i.size,i.bytes))=some (some (.slice none 0 0),1,24):=by kernel_rfl
theorem cy(w:World)(s p g au n:Nat)(K:Value)(a6:n<=300)(aA:w.heap[s]? =some (.cells #[K] 35 (0,0)))(h2:w.heap[p]? =some (.cells #[.int .i64 124] 3 (0,0)))
 (ad:∀(W:World) (l:Int->List Nat->World->Prop),(∀r pre A,l r pre A->A.heap[s]? =some (.cells #[K] 35 (0,0))/\A.heap[p]? =some (.cells #[.int .i64 124] 3 (0,0)))->(∀r pre A B,l r pre A->za (λ_=>False) A B->l r pre B)->
  vO Tryz.prog 168 #[.pointer (some ⟨s,0,none⟩),.pointer (some ⟨p,0,none⟩)] (λi:Nat=>#[yf g au n i]) (λ_=>False) l (λr pre i A=>r=0/\(pre++[i])<+:qS n) (λr L=>r=0/\L=qS n) (λ_ _=>True) 0 W):
 Calls Tryz.prog 167 #[.slice none 0 0,.func (.func 168) #[] #[.pointer (some ⟨s,0,none⟩),.pointer (some ⟨p,0,none⟩)]] w λe w'=>(∃a c,e=.returned (.slice a (qS n).length c)/\w'.ownsRow 0 35 1 (.slice a (qS n).length c) (qS n).length ((qS n).map (yf g au n))/\∀k,(Value.slice a (qS n).length c).ownBlock=some k->w.heap.size<=k)/\za (λ_=>False) w w':=by
 have ar:=(lT aA);have al:=(lT h2)
 have aB:Hid (∀(W:World) (l:Int->List Nat->World->Prop),(∀r pre A,l r pre A->A.heap[s]? =some (.cells #[K] 35 (0,0))/\A.heap[p]? =some (.cells #[.int .i64 124] 3 (0,0)))->(∀r pre A B,l r pre A->za (λ_=>False) A B->l r pre B)->
  vO Tryz.prog 168 #[.pointer (some ⟨s,0,none⟩),.pointer (some ⟨p,0,none⟩)] (λi:Nat=>#[yf g au n i]) (λ_=>False) l (λr pre i A=>r=0/\(pre++[i])<+:qS n) (λr L=>r=0/\L=qS n) (λ_ _=>True) 0 W):=ad
 change Hid _ at aA h2;clear ad;obtain⟨Z,ak,an,aw,av⟩:=eZ Tryz.infoSU8;have I:Hid (Tryz.prog.info? 35=some Z/\Z.zero=some (.slice none 0 0)/\Z.size=1/\Z.bytes=24):=⟨ak,an,aw,av⟩;clear ak an aw av;refine yz Tryz.func167 rfl ?_;simp only [Tryz.ntmps167,aq,ae,hO,Nat.reduceAdd,Nat.reduceSub,iN,iO,i5,iR,aK,aT];go_wp2_with fail;have ab:Hid (za (λ_=>False) w (w.alloc (.cells #[.slice none 0 0] 178))):=za.alloc _ _ _;have aM:Hid ((w.alloc (.cells #[.slice none 0 0] 178)).heap[w.heap.size]? =some (.cells #[.slice none 0 0] 178 (0,0))):=ac w _;have a3:(w.alloc (.cells #[.slice none 0 0] 178)).heap.size=w.heap.size+1:=by simp
 generalize (w.alloc (.cells #[.slice none 0 0] 178))=ag at*
 refine kf (α:=Nat) (gf:= 168) (lb:=#[.pointer (some ⟨s,0,none⟩),.pointer (some ⟨p,0,none⟩)]) rfl (enters_of Tryz.func168 (by kernel_rfl) rfl)
  (λaX d aY=>aB aX (λr _ A=>A.heap[s]? =some (.cells #[K] 35 (0,0))/\A.heap[p]? =some (.cells #[.int .i64 124] 3 (0,0))/\r=0) (λr pre A h=>⟨h.1,h.2.1⟩) (λr pre A B h d=>⟨(d.block _ (lT h.1) id).trans h.1,(d.block _ (lT h.2.1) id).trans h.2.1,h.2.2⟩))
  (λk d=>d.elim) (λ_=>rfl)
  (Ju ag s p w.heap.size K (yf g au n)) (λc r pre A=>False)
  (λr pre Q A h=>⟨⟨h.box1,h.box2,h.r⟩,λk d=>by have:=h.q k d;omega⟩)
  (λr a4 pre Q A B h a7 d m=>h.by d (λk d=>d.elim) m.2.2 (by omega) (by omega) (by omega))
  (λr pre Q A B h d=>h.by d (λk d=>by omega) h.r (by omega) (by omega) (by omega))
  (λc r pre A B h d=>h)
  ⟨(ab.block _ ar id).trans aA,(ab.block _ al id).trans h2,⟨_,aM,aV _ 0 35 1,λk=>by simp [Value.ownBlock],_,_,rfl⟩,za.refl _ _,λ_ h=>h.elim,rfl⟩
  (λam aJ A=>aJ={tmps:=#[.slice none 0 0,.func (.func 168) #[] #[.pointer (some ⟨s,0,none⟩),.pointer (some ⟨p,0,none⟩)],.pointer (some ⟨w.heap.size,0,none⟩),undef,.slice none 0 0,yf g au n am,.func (.func 168) #[] #[.pointer (some ⟨s,0,none⟩),.pointer (some ⟨p,0,none⟩)],yf g au n am,undef,undef,undef,undef,undef],defers:=[] })
  (λam a A B h d=>h) (λr pre am A B h d=>h) ?assign ?body ?done ?stop
 case assign=>
  intro aE r pre am Q A a8 m ah aI P;gi_wp2;exact P _ _ (za.refl _ _) m ah rfl
 case body=>
  rintro aE r pre am Q aJ A m ah rfl aI;obtain⟨v,y,C,D,F,H,rfl⟩:=m.row;have f:Hid _:=m;have X:Hid _:=y;have Y:Hid _:=C;have q:Hid _:=D
  have a1:pre.length<10:=by obtain⟨z,aU⟩:=ah.2;have:=congrArg List.length aU;rw [kg] at this;simp at this;omega
  have aW:A.cell? ⟨w.heap.size,0,none⟩=some (.slice F pre.length H):=cR y rfl;clear m ah y C D;obtain⟨E,o,O⟩:∃E o,yf g au n am=.slice E o o:=⟨_,_,rfl⟩;rw [O];change Hid _ at O;have R:Hid (za (λ_=>False) A (A.alloc (.cells #[.slice E o o] 35))):=za.alloc _ _ _
  have aH:Hid (∀j u,[.slice E o o][j]? =some u->(A.alloc (.cells #[.slice E o o] 35)).cell? (Addr.add ⟨A.heap.size,0,none⟩ j)=some u):=λj u aL=>by
   have G:j=0:=by have:=(et.1 aL).1;simp at this;exact this
   subst G;have aN:Addr.add ⟨A.heap.size,0,none⟩ 0=⟨A.heap.size,0,none⟩:=eO _ _ _;rw [aN,aG _ _ 0 _ _ _ (ac A _)];simpa using aL
  gi_wp2_with (gi_at_builtin;refine(yo aE).append_lies _ rfl _ _ 178 rfl 0 35 Z (.slice none 0 0) 1 24 Tryz.underlying178 I.1 I.2.1 I.2.2.1 I.2.2.2 rfl (by decide) (.slice F pre.length H) pre.length (pre.map (yf g au n)) rfl (R.owns Y nF) ⟨A.heap.size,0,none⟩ 1 1 [.slice E o o] rfl rfl aH (by simp [Value.oneCell']) (by decide) (by unfold maxLen;omega) (by omega) (aj _) (A.heap.size+1) (by simp) ?_;intro t T x af J N ay;have ao:Hid (za (λk=>(Value.slice F pre.length H).ownBlock=some k) (A.alloc (.cells #[.slice E o o] 35)) x):=za.grown J (λk d=>d);have V:Hid (x.heap[w.heap.size]? =_):=(ao.block _ (by have:=(lT X);simp;omega) (λax=>by have:=f.q _ ((q _).2 ax);omega)).trans ((R.block _ (lT X) id).trans X);have aZ:x.cell? ⟨w.heap.size,0,none⟩=some (.slice F pre.length H):=(cR V.out rfl);have a0:x.frozen? ⟨w.heap.size,0,none⟩=false:=aa x w.heap.size 0 _ _ V.out;change Hid _ at af N;clear J);have aP:=heap_setCell_same x w.heap.size 0 _ _ (.slice (some ⟨t,0,none⟩) (pre.length+1) T) V.out;have aF:=za.setCell (S:=λj=>j=w.heap.size) x ⟨w.heap.size,0,none⟩ (.slice (some ⟨t,0,none⟩) (pre.length+1) T) rfl;have ai:za (λk=>k=w.heap.size\/Q k) A (x.setCell ⟨w.heap.size,0,none⟩ (.slice (some ⟨t,0,none⟩) (pre.length+1) T)):=(((R.mono fE).trans ao (λk d=>.inl (.inr ((q k).2 d)))).trans aF (λk d=>.inl (.inl d)))
  have a2:ag.heap.size+1<t:=by
   rcases N.out with h|h;.exact(f.q t ((q t).2 h)).2
   .omega
  have ap:∀b,b<w.heap.size->¬(b=w.heap.size\/Q b):=λb a5 ax=>by
   rcases ax with h|h;.omega
   .have:=f.q b h;omega
  have U:(pre++[am]).length=pre.length+1:=by simp
  have aC:(x.setCell ⟨w.heap.size,0,none⟩ (.slice (some ⟨t,0,none⟩) (pre.length+1) T)).heap.size=x.heap.size:=by simp
  refine⟨ai.mono (λk d=>by rcases d with h|h;exact .inl (by omega);exact .inr h),λk=>k=t,⟨(ai.block _ (lT f.box1) (ap _ ar)).trans f.box1,(ai.block _ (lT f.box2) (ap _ al)).trans f.box2,⟨_,aP,?_,λk=>?_,some ⟨t,0,none⟩,T,by rw [U]⟩,?_,λk d=>⟨?_,by omega⟩,f.r⟩,λk d=>?_⟩
  .rw [U,eh,aO,ig,O.out];exact aF.owns af (λj G aR=>by simp [Value.ownBlock] at G;omega)
  .simp [Value.ownBlock];exact my
  .exact f.kept.trans ai (λk d=>by
    rcases d with h|h;.exact .inl (.inl h)
    .exact .inr (by have:=f.q k h;omega))
  .rw [aC,d];exact ay
  .rw [d];rcases N.out with h|h;.exact .inl ((q t).2 h)
   .exact .inr (by omega)
 case done=>
  rintro aQ r L Q A az m rfl P;obtain⟨v,y,C,D,F,H,rfl⟩:=m.row;have f:Hid _:=m;have M:Hid _:=az.2;have Y:Hid _:=C;have q:Hid _:=D;have aS:Hid _:=P;have aW:A.cell? ⟨w.heap.size,0,none⟩=some (.slice F L.length H):=cR y rfl;clear m az y C D P;dsimp only;go_wp2;have aD:za (λk=>k=ag.heap.size) A (A.putObj ag.heap.size (.deferred none)):=za.putObj _ _ _ rfl;refine jh rfl aS (results_tmp rfl _ _ _) ⟨⟨F,H,?_,?_,λk d=>?_⟩,?_⟩;.rw [<-M.out];rfl
  .rw [<-M.out];exact aD.owns Y (λj G aR=>by have:=f.q j ((q j).2 G);omega)
  .rw [<-M.out] at d;have:=f.q k ((q k).2 d);omega
  .exact(ab.trans f.kept (λj G=>.inr (by omega))).trans aD (λj G=>.inr (by omega))
 case stop=>
  rintro aQ c r pre A az m rfl P;exact m.elim
theorem Yf(w:World)(j f:Nat)(a:Option Addr)(n d:Nat)(G:n<=300)(D:n<=d)(E:d<=9223372036854775807)(F:0<n->∃g l,a=some ⟨g,l,none⟩)(x:w.heap[j]? =some (.cells #[.slice a n d] 35 (0,0)))(h2:w.heap[f]? =some (.cells #[.int .i64 124] 3 (0,0))):
 Calls Tryz.prog 127 #[.func (.func 168) #[] #[.pointer (some ⟨j,0,none⟩),.pointer (some ⟨f,0,none⟩)]] w λe w'=>(∃g l o c,(0<n->a=some ⟨g,l,none⟩)/\e=.returned (.slice o (qS n).length c)/\w'.ownsRow 0 35 1 (.slice o (qS n).length c) (qS n).length ((qS n).map (yf g l n))/\∀k,(Value.slice o (qS n).length c).ownBlock=some k->w.heap.size<=k)/\za (λ_=>False) w w':=by
 obtain⟨g,l,v,m⟩:∃g l,(0<n->a=some ⟨g,l,none⟩)/\∀(W:World) (b:Int->List Nat->World->Prop),(∀r pre A,b r pre A->A.heap[j]? =some (.cells #[.slice a n d] 35 (0,0))/\A.heap[f]? =some (.cells #[.int .i64 124] 3 (0,0)))->(∀r pre A B,b r pre A->za (λ_=>False) A B->b r pre B)->
  vO Tryz.prog 168 #[.pointer (some ⟨j,0,none⟩),.pointer (some ⟨f,0,none⟩)] (λi:Nat=>#[yf g l n i]) (λ_=>False) b (λr pre i A=>r=0/\(pre++[i])<+:qS n) (λr H=>r=0/\H=qS n) (λ_ _=>True) 0 W:=by
  by_cases t:0<n
  .obtain⟨g,l,rfl⟩:=F t;exact⟨g,l,λ_=>rfl,λW b u C=>Kw W j f g l n d G D E t b u C⟩
  .obtain rfl:n=0:=by omega
   exact⟨0,0,λh=>by omega,λW b u C=>XI W j f a d b u 0 0⟩
 have z:=cy w j f g l n (.slice a n d) G x h2 m;have y:Hid (Calls Tryz.prog 167 #[.slice none 0 0,.func (.func 168) #[] #[.pointer (some ⟨j,0,none⟩),.pointer (some ⟨f,0,none⟩)]] w λe w'=>(∃a c,e=.returned (.slice a (qS n).length c)/\w'.ownsRow 0 35 1 (.slice a (qS n).length c) (qS n).length ((qS n).map (yf g l n))/\∀k,(Value.slice a (qS n).length c).ownBlock=some k->w.heap.size<=k)/\za (λ_=>False) w w'):=z;change Hid _ at v;clear z m x h2 F;go_enter Tryz.func127,Tryz.ntmps127;go_wp2_with fail;refine y.mono ?_;rintro e J ⟨⟨o,I,rfl,p,s⟩,q⟩;change Hid _ at p s q;go_wp2;go_ret;exact⟨⟨g,l,o,I,v,rfl,p,s⟩,q⟩
theorem ZT(w:World)(v:Value)(d:v.oneCell'=true)(a:Option Addr)(n c:Nat)(b:v=.slice a n c):Calls Tryz.prog 130 #[v] w λe w'=>
 e=.returned (.func (.func 169) #[] #[.pointer (some ⟨w.heap.size,0,none⟩)])/\w'.heap[w.heap.size]? =some (.cells #[v] 178 (0,0))/\za (λ_=>False) w w'/\w'.heap.size=w.heap.size+1:=by
 subst b;go_enter Tryz.func130,Tryz.ntmps130;go_wp2;go_ret;exact⟨rfl,ac w _,za.alloc _ _ _,by simp⟩
def yO(m:Nat):List Nat:=(List.range m).reverse
theorem vE(m:Nat):(yO m).length=m:=by simp [yO]
theorem XJ{m:Nat}(h:k<m):(yO m).take (k+1)=(yO m).take k++[m-1-k]:=by
 rw [ao (by rw [vE];exact h)];simp [yO]
theorem V1(W:World)(w g m c:Nat)(vs:List Value)(ac:vs.length=m)(ai:m<=1000)(enc:Nat->Value)(q:∀i (h:i<vs.length),vs[i]=enc i)(F:∀i,∃a n c,enc i=.slice a n c)(f:Int->List Nat->World->Prop)
 (b:∀r pre A,f r pre A->A.heap[w]? =some (.cells #[.slice (some ⟨g,0,none⟩) m c] 178 (0,0))/\A.ownsRow 0 35 1 (.slice (some ⟨g,0,none⟩) m c) m vs)
 (J:∀r pre A B,f r pre A->za (λ_=>False) A B->f r pre B):
 vO Tryz.prog 169 #[.pointer (some ⟨w,0,none⟩)] (λi:Nat=>#[.int .i64 (i:Int),enc i]) (λ_=>False) f (λr pre i A=>r=0/\(pre++[i])<+:yO m) (λr Z=>r=0/\Z=yO m) (λ_ _=>True) 0 W:=by
 intro l Y aa p T x s;have E:PLift (Y 0 [] (λ_=>False) W):=⟨s⟩;obtain⟨o, -⟩:=b _ _ _ (p _ _ _ _ s).1;have am:W.cell? ⟨w,0,none⟩=some (.slice (some ⟨g,0,none⟩) m c):=cR o rfl;change Hid _ at p x b q F;clear T s J o;go_enter Tryz.func169,Tryz.ntmps169;go_wp2_with fail;go_loopw [3] (λt wr=>∃(k:Nat) (Q:Nat->Prop),k<=m/\t=.int .i64 ((m:Int)-1-k)/\Y 0 ((yO m).take k) Q wr) (λt _=>(intOf t+1).toNat)
 case atStart=>exact⟨0,_,aj _,by simp,E.down⟩
 case round=>
  obtain⟨k,Q,ah,rfl,u⟩:=hrel;have H:PLift (Y 0 ((yO m).take k) Q wr):=⟨u⟩;obtain⟨o,d⟩:=b.out _ _ _ (p _ _ _ _ u).1;have ag:wr.cell? ⟨w,0,none⟩=some (.slice (some ⟨g,0,none⟩) m c):=cR o rfl;by_cases G:k<m
  .obtain⟨i,S⟩:∃i,i=m-1-k:=⟨_,rfl⟩;have j:(m:Int)-1-k=(i:Int):=by omega
   have ad:i<m:=by omega
   have v:wr.cell? ⟨g,i,none⟩=some (enc i):=by have:=d.cells (g:=g) rfl i (enc i) (by rw [aH (by omega),q.out i (by omega)]);rw [eO] at this;simpa using this
   have D:Hid ((yO m).take (k+1)=(yO m).take k++[i]):=by show _=_;rw [S];exact XJ G
   have X:Hid ((0:Int)=0/\((yO m).take k++[i])<+:yO m):=⟨rfl,by rw [<-D.out];exact mG _ _⟩;obtain⟨fn,tmps,assign,body,N,O⟩:=x.out 5 0 _ i Q wr H.down X.out;have ae:(0:Int)<=(i:Int):=by omega
   have ab:(i:Int)<(m:Int):=by omega
   rw [j];obtain⟨al,af,ak,R⟩:=F.out i;rw [R] at v N;change Hid _ at j;clear u o d S;refine(wpIn_wide (n:=6)).1 ?_;gi_wp2;refine O.mono ?_;clear O N;rintro e U (⟨rfl,P,y,L,I⟩|⟨rfl,C⟩)
   .have K:PLift (Y 0 ((yO m).take (k+1)) P U):=⟨by rw [D.out];exact y⟩;clear y L I;gi_wp2;go_roundw
    case rel=>exact⟨k+1,P,by omega,by rw [<-j.out];go_num,K.down⟩
    case measure=>have:=j.out;simp [intOf]
   .obtain⟨V⟩:Nonempty (PLift (aa 0 ((yO m).take k++[i]) U)):=⟨⟨C⟩⟩;clear C;gi_wp2;refine bodyPost_ret (results_none rfl _ _ _) rfl ?_;exact⟨⟨_,rfl⟩,.inr ⟨_,_,eI,V.down⟩⟩
  .obtain rfl:k=m:=by omega
   have M:(k:Int)-1-k= -1:=by omega
   rw [M];have z:=an (by rw [vE];omega);change Hid _ at z;clear u o d;go_wp2;go_end0;exact⟨⟨_,rfl⟩,.inl ⟨0,yO k,Q,⟨rfl,rfl⟩,by rw [<-z.out];exact H.down⟩⟩
end prog
end Go.Proofs.YtcoengihaobddaaGreatDoor

/- Part 36 of 50 of a proof: Book6, Law20 -/
import Derived.Test.YtcoengihaobddaaGreatDoorJe35
set_option maxHeartbeats 8000000
set_option linter.unusedVariables false
set_option linter.unusedSimpArgs false
set_option maxRecDepth 8000
namespace Go.Proofs.YtcoengihaobddaaGreatDoor
open Go.ChangeShapes Go.WideShapes Go.ChangeAt Go.RowKit disk ref book
namespace law
open keys (zg zd zq zl)
variable {q g b4 m:Nat}{w:World}{P:Nat->Prop}{ss:List (Option Addr×Nat×Nat)}{a:Option Addr}
def bk(q m:Nat):List Value:=(List.replicate m (yO q)).flatten
def B7(W w:World)(X:Value)(n g c m:Nat):Prop:=(X=.slice (some ⟨g,0,none⟩) n c/\m<=c)\/(W.heap.size<=g/\∃cur,w.heap[g]? =some (.cells cur 94 (0,0))/\m*4<=cur.size)
structure B8 (W:World) (X:Value) (n:Nat) (xs:List Value) (q:Nat) (L:Nat->Bool) (x:Nat->Value) (w:World):Prop where
 mv:∀i,(i=0\/i=1\/i=5\/i=10)->L i=true->x i=X
 ld:∀i,(i=2\/i=6\/i=7\/i=11\/i=12\/i=13)->L i=true->x i=.agg (yO q).toArray
 bs:∀i m,((i=3/\m=1)\/(i=8/\m=2)\/(i=14/\m=3))->L i=true->∃b,x i=.slice (some ⟨b,0,none⟩) m m/\W.heap.size<=b/\w.heap[b]? =some (.cells (bk q m).toArray 94 (0,0))
 ap:∀i m,((i=4/\m=1)\/(i=9/\m=2)\/(i=15/\m=3))->L i=true->∃g c,x i=.slice (some ⟨g,0,none⟩) (n+m) c/\B7 W w X n g c (n+m)
 fin:L 16=true->L 4=true/\L 9=true/\L 15=true/\∃b,x 16=.slice (some ⟨b,0,none⟩) 4 4/\W.heap.size<=b/\w.heap[b]? =some (.cells #[X,x 4,x 9,x 15] 44 (0,0))
 asg:L 17=true->L 16=true/\x 17=x 16
 row:w.ownsRow 0 94 4 X n xs
 kept:Kept (λk=>X.ownBlock=some k) W w
theorem B8.step{y:World}{X:Value}{n:Nat}{z:List Value}{u:Nat->Bool}{C:Nat->Value}(h:B8 y X n z q u C w)(i:Nat)(I:u i=false)(v:Value)(w':World)(E:Kept (λk=>X.ownBlock=some k) w w')(B:w'.ownsRow 0 94 4 X n z)(D:∀k,X.ownBlock=some k->k<y.heap.size)
 (hmv:(i=0\/i=1\/i=5\/i=10)->v=X:=by intros;omega)
 (hld:(i=2\/i=6\/i=7\/i=11\/i=12\/i=13)->v=.agg (yO q).toArray:=by intros;omega)
 (hbs:∀m,((i=3/\m=1)\/(i=8/\m=2)\/(i=14/\m=3))->∃b,v=.slice (some ⟨b,0,none⟩) m m/\y.heap.size<=b/\w'.heap[b]? =some (.cells (bk q m).toArray 94 (0,0)):=by intros;omega)
 (hap:∀m,((i=4/\m=1)\/(i=9/\m=2)\/(i=15/\m=3))->∃g c,v=.slice (some ⟨g,0,none⟩) (n+m) c/\B7 y w' X n g c (n+m):=by intros;omega)
 (hfin:i=16->u 4=true/\u 9=true/\u 15=true/\∃b,v=.slice (some ⟨b,0,none⟩) 4 4/\y.heap.size<=b/\w'.heap[b]? =some (.cells #[X,C 4,C 9,C 15] 44 (0,0)):=by intros;omega)
 (hasg:i=17->u 16=true/\v=C 16:=by intros;omega):B8 y X n z q (λj=>decide (j=i)||u j) (λj=>if j=i then v else C j) w':=by
 have p:∀j,¬j=i->(decide (j=i)||u j)=true->u j=true:=λj a l=>by simpa [a] using l
 have s:∀(b:Nat) (H:Obj),y.heap.size<=b->w.heap[b]? =some H->w'.heap[b]? =some H:=λb H K G=>(E.block b (lT G) (λJ=>by have:=D b J;omega)).trans G;have x:∀j,u j=true->¬j=i:=λj a e=>by rw [e,I] at a;cases a
 refine⟨λj a l=>?_,λj a l=>?_,λj m a l=>?_,λj m a l=>?_,λl=>?_,λl=>?_,B,h.kept.trans E iL⟩
 .by_cases e:j=i;.subst e;simpa using hmv a
  .simpa [e] using h.mv j a (p j e l)
 .by_cases e:j=i;.subst e;simpa using hld a
  .simpa [e] using h.ld j a (p j e l)
 .by_cases e:j=i;.subst e;simpa using hbs m a
  .obtain⟨b,f,d,o⟩:=h.bs j m a (p j e l);exact⟨b,by simpa [e] using f,d,s b _ d o⟩
 .by_cases e:j=i;.subst e;simpa using hap m a
  .obtain⟨g,c,f,d⟩:=h.ap j m a (p j e l);refine⟨g,c,by simpa [e] using f,d.imp id (λo=>⟨o.1,?_⟩)⟩;obtain⟨F,t,r⟩:=o.2;exact⟨F,s g _ o.1 t,r⟩
 .by_cases e:16=i
  .subst e;obtain⟨f,d,o,b,t,r,A⟩:=hfin rfl;exact⟨by simp [f],by simp [d],by simp [o],b,by simpa using t,r,by simpa using A⟩
  .obtain⟨f,d,o,b,t,r,A⟩:=h.fin (p 16 e l);refine⟨by simp [f],by simp [d],by simp [o],b,by simpa [e] using t,r,?_⟩;rw [az (x 4 f),az (x 9 d),az (x 15 o)];exact s b _ r A
 .by_cases e:17=i
  .subst e;obtain⟨f,d⟩:=hasg rfl;exact⟨by simp [f],by simpa using d⟩
  .obtain⟨f,d⟩:=h.asg (p 17 e l);exact⟨by simp [f],by rw [az e,az (x 16 f)];exact d⟩
structure VL (w:World) (P:Nat->Prop) (g b4 q:Nat) (ss:List (Option Addr×Nat×Nat)):Prop where
 head:w.heap[g]? =some (.cells (ss.map dt).toArray 44 (0,0))
 room:∀s∈ss,s.2.1=0\/∃b cur,s.1=some ⟨b,0,none⟩/\P b/\w.heap[b]? =some (.cells cur 94 (0,0))/\s.2.1*4<=cur.size
 mine:w.heap[b4]? =some (.cells (yO q).toArray 94 (0,0))
 gP:¬P g
 bP:¬P b4
 few:∀s∈ss,s.2.1<=2000
theorem VL.set(h:VL w P g b4 q ss)(b j:Nat)(v:Value)(k:P b):VL (w.setCell ⟨b,j,none⟩ v) P g b4 q ss:=
 ⟨(iH w ⟨b,j,none⟩ g v (λe=>h.gP (by rw [e];exact k))).trans h.head,λs m=>by
   rcases h.room s m with l|⟨b',a,f,c,i,d⟩;.exact .inl l
   .by_cases e:b'=b
    .subst e;exact .inr ⟨b',_,f,c,heap_setCell_same w b' j _ _ _ i,by simpa using d⟩
    .exact .inr ⟨b',a,f,c,(iH w ⟨b,j,none⟩ b' v e).trans i,d⟩,(iH w ⟨b,j,none⟩ b4 v (λe=>h.bP (by rw [e];exact k))).trans h.mine,h.gP,h.bP,h.few⟩
theorem VL.drew(h:VL w P g b4 q ss):VL w.drew P g b4 q ss:=⟨h.head,h.room,h.mine,h.gP,h.bP,h.few⟩
theorem VL.cell(h:VL w P g b4 q ss)(i:Nat)(a:i<ss.length):w.cell? ⟨g,i,none⟩=some (.slice ss[i].1 ss[i].2.1 ss[i].2.2):=by
 rw [ak w g i _ _ _ h.head];simp [a,dt]
def x9(w:World)(q:Nat)(a:Option Addr)(m:Nat):Prop:=∀j,j<m->∀b,a=some ⟨b,0,none⟩->w.rangeAt b (j*4) (yO q)
theorem Yz{t:Nat}{v:Value}(h:(yO q)[t]? =some v):t<4:=(aW.1 h).1
theorem x9.set(h:x9 w q a m)(b i t:Nat)(v:Value)(f:(yO q)[t]? =some v):x9 (w.setCell ⟨b,i*4+t,none⟩ v) q a m:=by
 intro j g b' d s u c;rw [zQ (h j g b' d s u c)];split
 .rename_i e
  have l:=Yz f;have k:=Yz c;obtain rfl:s=t:=by omega
  rw [f] at c;exact c
 .rfl
theorem x9.drew(h:x9 w q a m):x9 w.drew q a m:=h
def wr4(w:World)(b i q:Nat):World:=(((w.setCell ⟨b,i*4,none⟩ (.string dV)).setCell ⟨b,i*4+1,none⟩ (.int .i64 (q:Int))).setCell ⟨b,i*4+2,none⟩ (.bool false)).setCell ⟨b,i*4+3,none⟩ (.int .i64 0)
theorem VL.wr4(h:VL w P g b4 q ss)(b i:Nat)(a:P b):VL (wr4 w b i q) P g b4 q ss:=(((h.set b _ _ a).set b _ _ a).set b _ _ a).set b _ _ a
theorem x9.wr4(h:x9 w q a m)(b i:Nat):x9 (wr4 w b i q) q a m:=(((h.set b i 0 _ rfl).set b i 1 _ rfl).set b i 2 _ rfl).set b i 3 _ rfl
theorem Kept.wr4(b i q:Nat)(a:P b):Kept P w (wr4 w b i q):=(((Kept.setCell w ⟨b,i*4,none⟩ _ a).trans (Kept.setCell _ ⟨b,i*4+1,none⟩ _ a) iL).trans (Kept.setCell _ ⟨b,i*4+2,none⟩ _ a) iL).trans (Kept.setCell _ ⟨b,i*4+3,none⟩ _ a) iL
theorem DF{b i:Nat}{u0 u1 u2 u3:Value}(f:w.cell? ⟨b,i*4,none⟩=some u0)(e:w.cell? ⟨b,i*4+1,none⟩=some u1)(d:w.cell? ⟨b,i*4+2,none⟩=some u2)(g:w.cell? ⟨b,i*4+3,none⟩=some u3):(wr4 w b i q).rangeAt b (i*4) (yO q):=by
 intro t v a;have h:=Yz a;unfold law.wr4;rcases (by omega:t=0\/t=1\/t=2\/t=3) with rfl|rfl|rfl|rfl
 .have c:w.cell? ⟨b,i*4+0,none⟩=some u0:=f;rw [zQ (zQ (zQ (zQ c)))];simpa [yO] using a
 .rw [zQ (zQ (zQ (zQ e)))];simpa [yO] using a
 .rw [zQ (zQ (zQ (zQ d)))];simpa [yO] using a
 .rw [zQ (zQ (zQ (zQ g)))];simpa [yO] using a
theorem VL.vets(h:VL w P g b4 q ss)(l:ss.length<=100)(e:∀i (d:i<ss.length),x9 w q ss[i].1 ss[i].2.1):Xz w P g ss q:=by
 refine⟨h.head,λs a j f=>?_,λs a=>by have:=h.few s a;omega,l⟩;rcases h.room s a with p|⟨b,n,c,k,m,o⟩;.omega
 .obtain⟨i,d,rfl⟩:=ei a;exact⟨b,c,k,(lT m),e i d j f b c⟩
theorem B8.vl{v:World}{j:Option Addr}{n i:Nat}{P:List Value}{T:Nat->Bool}{V:Nat->Value}{f:World}{u z w B x y A:Nat}(h:B8 v (.slice j n i) n P q T V f)(o:∀k,(Value.slice j n i).ownBlock=some k->k<b4)(M:b4<v.heap.size)(R:v.heap[b4]? =some (.cells (yO q).toArray 94 (0,0)))(W:n<=1000)
 (U:v.heap.size<=u) (H:f.heap[u]? =some (.cells #[.slice j n i,.slice (some ⟨z,0,none⟩) (n+1) x,.slice (some ⟨w,0,none⟩) (n+2) y,.slice (some ⟨B,0,none⟩) (n+3) A] 44 (0,0))) (K:B7 v f (.slice j n i) n z x (n+1)) (Q:B7 v f (.slice j n i) n w y (n+2)) (J:B7 v f (.slice j n i) n B A (n+3)):
 VL f (λk=>(Value.slice j n i).ownBlock=some k\/(v.heap.size<=k/\k≠u/\k<f.heap.size)) u b4 q [(j,n,i),(some ⟨z,0,none⟩,n+1,x),(some ⟨w,0,none⟩,n+2,y),(some ⟨B,0,none⟩,n+3,A)]:=by
 have E:∀g c m,B7 v f (.slice j n i) n g c m->∃b a,(some (⟨g,0,none⟩:Addr))=some ⟨b,0,none⟩/\((Value.slice j n i).ownBlock=some b\/(v.heap.size<=b/\b≠u/\b<f.heap.size))/\f.heap[b]? =some (.cells a 94 (0,0))/\m*4<=a.size:=λg c m O=>by
  rcases O with⟨e,p⟩|⟨D,a,p,F⟩
  .rcases h.row.2 with⟨L,_⟩|⟨I,C,a,l,_,r,F,N,S,_⟩;.rw [L] at e;cases e
   .rw [l] at e;cases e;exact⟨g,a,rfl,.inl (by rw [l];rfl),r,by omega⟩
  .refine⟨g,a,rfl,.inr ⟨D,λe=>?_,(lT p)⟩,p,F⟩;rw [e,H] at p;simp at p
 refine⟨H,λs t=>?_,(h.kept.block _ M (λd=>by have:=o _ d;omega)).trans R,λd=>?_,λd=>?_,λs t=>?_⟩
 .simp only [aq,eY,or_false] at t;rcases t with rfl|rfl|rfl|rfl
  .rcases h.row.2 with⟨_,D⟩|⟨I,C,a,l,_,r,F,N,S,_⟩;.exact .inl D
   .have G:=l;cases l;exact .inr ⟨I,a,rfl,.inl (by rw [G];rfl),r,by show n*4<=a.size;omega⟩
  .exact .inr (E z x _ K)
  .exact .inr (E w y _ Q)
  .exact .inr (E B A _ J)
 .rcases d with d|d;.have:=o _ d;omega
  .exact d.2.1 rfl
 .rcases d with d|d;.have:=o _ d;omega
  .omega
 .simp only [aq,eY,or_false] at t;rcases t with rfl|rfl|rfl|rfl<;>simp<;>omega
theorem Tryz.infoRows:(Tryz.prog.info? 129).map (λi=>(i.zero,i.size,i.bytes))=some (some (.slice none 0 0),1,24):=by kernel_rfl
theorem Tryz.infoVe:(Tryz.prog.info? 94).map (λi=>(i.zero,i.size,i.bytes))=some (some (.agg #[.string ⟨#[]⟩,.int .i64 0,.bool false,.int .i64 0]),4,40):=by kernel_rfl
theorem jW(w:World)(v:Nat)(l:Value)(F bH S:Nat->Prop)(a b:Option Addr)(bm aQ:Nat)(bp vs:List js)(h:jh w v l F bH a b bm aQ bp vs)(bX:vs.length<=2199023255552)
 (z:Option Addr) (n y:Nat) (ax:List Value) (bg:w.ownsRow 0 94 4 (.slice z n y) n ax) (bV:n<=1000) (aB:∀k,(Value.slice z n y).ownBlock=some k->S k) (ah:∀k,S k->¬F k/\¬bH k/\k≠v):
 Calls Tryz.prog 110 #[.pointer (some ⟨v,1,none⟩),.slice z n y] w λe w'=>e=.returned (.tuple #[])/\
  (∃b' bf aS bz,jh w' v l F bz a b' bm bf bp aS/\aS.length=vs.length+1/\∀k,bz k->bH k\/S k\/w.heap.size<=k)/\Kept (λk=>bH k\/S k\/k=v) w w':=by
 have aO:Hid _:=h;have bF:Hid (w.ownsRow 0 94 4 (.slice z n y) n ax):=bg;have b0:=h.head.c.2.2.1;have b5:=h.head.lt;obtain⟨ae,W,U,X,J⟩:=qU Tryz.infoVe;have s:Hid (Tryz.prog.info? 94=some ae/\ae.zero=some (.agg #[.string ⟨#[]⟩,.int .i64 0,.bool false,.int .i64 0])/\ae.size=4/\ae.bytes=40):=⟨W,U,X,J⟩;clear W U X J;obtain⟨aD,W,U,X,J⟩:=qU Tryz.infoRows;have au:Hid (Tryz.prog.info? 129=some aD/\aD.zero=some (.slice none 0 0)/\aD.size=1/\aD.bytes=24):=⟨W,U,X,J⟩;clear W U X J h bg;have af:Hid (∀k,(Value.slice z n y).ownBlock=some k->k<w.heap.size):=λk aw=>(bF.lt k aw).2;go_enter Tryz.func110,Tryz.ntmps110;go_wp2_with fail;obtain⟨av,aM⟩:∃av,av=w.alloc (.cells #[.string dV,.int .i64 (vs.length:Int),.bool false,.int .i64 0] 94):=⟨_,rfl⟩;have a6:Kept (λ_=>False) w av:=by rw [aM];exact Kept.alloc _ _ _
 have cc:av.heap.size=w.heap.size+1:=by rw [aM];simp
 have bb:av.heap[w.heap.size]? =some (.cells (yO vs.length).toArray 94 (0,0)):=by rw [aM];exact heap_alloc_new w _
 have A:Hid (∀k,(Value.slice z n y).ownBlock=some k->k<av.heap.size):=λk aw=>by have:=af.out k aw;omega
 have C:∀g,Kept (λk=>(Value.slice z n y).ownBlock=some k) av g->∀j u,(yO vs.length)[j]? =some u->g.cell? ⟨w.heap.size,j,none⟩=some u:=λg aw j u bS=>by rw [ak g _ j _ _ _ ((aw.block _ (by omega) (λx=>by have:=af.out _ x;omega)).trans bb)];simpa using bS
 have a2:=a6.owns bF nF;rw [show w.alloc (.cells #[.string ⟨#[40,109,105,110,101,41]⟩,.int .i64 (vs.length:Int),.bool false,.int .i64 0] 94)=av from aM.symm];change Hid _ at a6;clear aM;refine xR (by kernel_rfl) (by kernel_rfl) (λbR a8 g=>∃B:Nat->Value,a8={tmps:=#[.pointer (some ⟨v,1,none⟩),.slice z n y,undef,undef,.pointer (some ⟨w.heap.size,0,none⟩),B 17,undef,undef,.pointer (some ⟨v,1,none⟩),.pointer (some ⟨v,1,none⟩),.pointer (some ⟨v,2,none⟩),.slice b vs.length aQ,.int .i64 (vs.length:Int),.agg #[.string dV,.int .i64 (vs.length:Int),.bool false,.int .i64 0],B 0,B 1,B 2,B 3,B 4,B 5,B 6,B 7,B 8,B 9,B 10,B 11,B 12,B 13,B 14,B 15,B 16,undef,undef,undef,undef,undef,undef,undef,undef,undef,undef,undef,undef,undef,undef,undef,undef,undef,undef,undef,undef,undef,undef,undef,undef,undef,undef,undef,undef,undef,undef,undef,undef],defers:=[]}/\B8 av (.slice z n y) n ax vs.length bR B g) ?_ ?_ ?_;.exact⟨λ_=>undef,rfl,⟨λ_ _ h=>(by cases h),λ_ _ h=>(by cases h),λ_ _ _ h=>(by cases h),λ_ _ _ h=>(by cases h),λh=>(by cases h),λh=>(by cases h),(Kept.drew (λ_=>False) av).owns a2 nF,Kept.drew _ av⟩⟩
 .rintro bR a8 g i co bd N d ⟨B,rfl,c⟩;have H:i<18:=(lT bd);rcases (by omega:(i=0\/i=1\/i=5\/i=10)\/(i=2\/i=6\/i=7\/i=11\/i=12\/i=13)\/i=3\/i=4\/i=8\/i=9\/i=14\/i=15\/i=16\/i=17) with(rfl|rfl|rfl|rfl)|(rfl|rfl|rfl|rfl|rfl|rfl)|rfl|rfl|rfl|rfl|rfl|rfl|rfl|rfl;all_goals (have bq:=aK bd;subst bq)
  iterate 4
   .refine wpOp_step rfl (λR q=>?_);go_simp;exact q _ _ ⟨_,(by simp),c.step _ N (.slice z n y) _ (Kept.refl _ _) c.row A (hmv:=λ_=>rfl)⟩
  iterate 6
   .have ck:=C g c.kept 0 _ rfl;have bn:=C g c.kept 1 _ rfl;have K:=C g c.kept 2 _ rfl;have bo:=C g c.kept 3 _ rfl;refine wpOp_step rfl (λR q=>?_);go_simp;exact q _ _ ⟨_,(by simp [yO]),c.step _ N (.agg (yO vs.length).toArray) _ (Kept.refl _ _) c.row A (hld:=λ_=>rfl)⟩
  .have az:=c.ld 2 (by omega) (d ⟨2,.data⟩ (by simp) rfl);refine wpOp_step rfl (λR q=>?_);simp only [az,yO];go_simp;exact q _ _ ⟨λj=>if j=3 then .slice (some ⟨g.heap.size,0,none⟩) 1 1 else B j,by simp [az,yO],c.step 3 N _ _ (Kept.alloc _ _ _) (c.row.alloc _) A (hbs:=λm h=>by obtain rfl:m=1:=(by omega);exact⟨_,rfl,c.kept.size,heap_alloc_new g _⟩)⟩
  .have T:=c.mv 1 (by omega) (d ⟨1,.data⟩ (by simp) rfl);obtain⟨aC,Y,aW,Z⟩:=c.bs 3 1 (by omega) (d ⟨3,.data⟩ (by simp) rfl);refine wpOp_step rfl (λR q=>?_);refine jq rfl (.tmp 15) (.tmp 17) 44 rfl 94 ae _ 4 40 Tryz.underlying44 s.1 s.2.1 s.2.2.1 s.2.2.2 rfl (.slice z n y) n ax T c.row ⟨aC,0,none⟩ 1 1 (bk vs.length 1) Y rfl (World.news_of_block Z) (by simp [bk,yO,Value.oneCell']) (by omega) (by unfold maxLen;omega) (by omega) ?_;intro r w2 o;obtain⟨L,K,rfl,aN⟩:=o.form;exact q _ _ ⟨λj=>if j=4 then .slice (some ⟨L,0,none⟩) (n+1) K else B j,by simp [Act.put],c.step 4 N _ _ o.kept o.keeps A (hap:=λm h=>by obtain rfl:m=1:=(by omega);exact⟨L,K,rfl,aN.imp id (λh=>⟨by have:=c.kept.size;omega,h.2⟩)⟩)⟩
  .have bl:=c.ld 6 (by omega) (d ⟨6,.data⟩ (by simp) rfl);have bi:=c.ld 7 (by omega) (d ⟨7,.data⟩ (by simp) rfl);refine wpOp_step rfl (λR q=>?_);simp only [bl,bi,yO];go_simp;exact q _ _ ⟨λj=>if j=8 then .slice (some ⟨g.heap.size,0,none⟩) 2 2 else B j,by simp [bl,bi,yO],c.step 8 N _ _ (Kept.alloc _ _ _) (c.row.alloc _) A (hbs:=λm h=>by obtain rfl:m=2:=(by omega);exact⟨_,rfl,c.kept.size,heap_alloc_new g _⟩)⟩
  .have T:=c.mv 5 (by omega) (d ⟨5,.data⟩ (by simp) rfl);obtain⟨aC,Y,aW,Z⟩:=c.bs 8 2 (by omega) (d ⟨8,.data⟩ (by simp) rfl);refine wpOp_step rfl (λR q=>?_);refine jq rfl (.tmp 19) (.tmp 22) 44 rfl 94 ae _ 4 40 Tryz.underlying44 s.1 s.2.1 s.2.2.1 s.2.2.2 rfl (.slice z n y) n ax T c.row ⟨aC,0,none⟩ 2 2 (bk vs.length 2) Y rfl (World.news_of_block Z) (by simp [bk,yO,Value.oneCell']) (by omega) (by unfold maxLen;omega) (by omega) ?_;intro r w2 o;obtain⟨L,K,rfl,aN⟩:=o.form;exact q _ _ ⟨λj=>if j=9 then .slice (some ⟨L,0,none⟩) (n+2) K else B j,by simp [Act.put],c.step 9 N _ _ o.kept o.keeps A (hap:=λm h=>by obtain rfl:m=2:=(by omega);exact⟨L,K,rfl,aN.imp id (λh=>⟨by have:=c.kept.size;omega,h.2⟩)⟩)⟩
  .have a0:=c.ld 11 (by omega) (d ⟨11,.data⟩ (by simp) rfl);have aY:=c.ld 12 (by omega) (d ⟨12,.data⟩ (by simp) rfl);have aR:=c.ld 13 (by omega) (d ⟨13,.data⟩ (by simp) rfl);refine wpOp_step rfl (λR q=>?_);simp only [a0,aY,aR,yO];go_simp;exact q _ _ ⟨λj=>if j=14 then .slice (some ⟨g.heap.size,0,none⟩) 3 3 else B j,by simp [a0,aY,aR,yO],c.step 14 N _ _ (Kept.alloc _ _ _) (c.row.alloc _) A (hbs:=λm h=>by obtain rfl:m=3:=(by omega);exact⟨_,rfl,c.kept.size,heap_alloc_new g _⟩)⟩
  .have T:=c.mv 10 (by omega) (d ⟨10,.data⟩ (by simp) rfl);obtain⟨aC,Y,aW,Z⟩:=c.bs 14 3 (by omega) (d ⟨14,.data⟩ (by simp) rfl);refine wpOp_step rfl (λR q=>?_);refine jq rfl (.tmp 24) (.tmp 28) 44 rfl 94 ae _ 4 40 Tryz.underlying44 s.1 s.2.1 s.2.2.1 s.2.2.2 rfl (.slice z n y) n ax T c.row ⟨aC,0,none⟩ 3 3 (bk vs.length 3) Y rfl (World.news_of_block Z) (by simp [bk,yO,Value.oneCell']) (by omega) (by unfold maxLen;omega) (by omega) ?_;intro r w2 o;obtain⟨L,K,rfl,aN⟩:=o.form;exact q _ _ ⟨λj=>if j=15 then .slice (some ⟨L,0,none⟩) (n+3) K else B j,by simp [Act.put],c.step 15 N _ _ o.kept o.keeps A (hap:=λm h=>by obtain rfl:m=3:=(by omega);exact⟨L,K,rfl,aN.imp id (λh=>⟨by have:=c.kept.size;omega,h.2⟩)⟩)⟩
  .have br:=d ⟨4,.data⟩ (by simp) rfl;have bt:=d ⟨9,.data⟩ (by simp) rfl;have a5:=d ⟨15,.data⟩ (by simp) rfl;have bc:=c.mv 0 (by omega) (d ⟨0,.data⟩ (by simp) rfl);obtain⟨bB,k1,aA,_⟩:=c.ap 4 1 (by omega) br;obtain⟨L,k2,ay,_⟩:=c.ap 9 2 (by omega) bt;obtain⟨bv,k3,O,_⟩:=c.ap 15 3 (by omega) a5;refine wpOp_step rfl (λR q=>?_);simp only [bc,aA,ay,O];go_simp;exact q _ _ ⟨λj=>if j=16 then .slice (some ⟨g.heap.size,0,none⟩) 4 4 else B j,by simp [bc,aA,ay,O],c.step 16 N _ _ (Kept.alloc _ _ _) (c.row.alloc _) A (hfin:=λ_=>⟨br,bt,a5,g.heap.size,rfl,c.kept.size,by rw [aA,ay,O];exact heap_alloc_new g _⟩)⟩
  .have be:=d ⟨16,.data⟩ (by simp) rfl;refine wpOp_step rfl (λR q=>?_);go_simp;exact q _ _ ⟨λj=>if j=17 then B 16 else B j,by simp,c.step 17 N _ _ (Kept.refl _ _) c.row A (hasg:=λ_=>⟨be,rfl⟩)⟩
 .rintro bR a8 g G ⟨B,rfl,c⟩;obtain⟨_,_,_,M,aU,bE,ar⟩:=c.fin (G 16 (by decide));have a4:=(c.asg (G 17 (by decide))).2;obtain⟨bB,bn,aA,bA⟩:=c.ap 4 1 (by omega) (G 4 (by decide));obtain⟨L,K,ay,bC⟩:=c.ap 9 2 (by omega) (G 9 (by decide));obtain⟨bv,bo,O,bu⟩:=c.ap 15 3 (by omega) (G 15 (by decide));rw [aA,ay,O] at ar;have aL:=c.vl (b4:=w.heap.size) af (by omega) bb bV bE ar bA bC bu;rw [a4,aU];obtain⟨P,aI⟩:∃P:Nat->Prop,P=λk=>(Value.slice z n y).ownBlock=some k\/(av.heap.size<=k/\k≠M/\k<g.heap.size):=⟨_,rfl⟩;obtain⟨ss,aF⟩:∃ss:List (Option Addr×Nat×Nat),ss=[(z,n,y),(some ⟨bB,0,none⟩,n+1,bn),(some ⟨L,0,none⟩,n+2,K),(some ⟨bv,0,none⟩,n+3,bo)]:=⟨_,rfl⟩;rw [<-aI,<-aF] at aL;have ap:Hid (ss.length=4):=(by rw [aF];rfl);have bs:Hid _:=c.kept;have bG:=(lT ar);change Hid _ at aI aL;clear c ar bA bC bu aA ay O aU a4 aF C a2 bb G;go_wp2_with fail;go_loopw [6] (λt wr=>∃k:Nat,k<=4/\t=.int .i64 k/\VL wr P M w.heap.size vs.length ss/\(∀i (H:i<ss.length),i<k->x9 wr vs.length ss[i].1 ss[i].2.1)/\Kept P g wr) (λt _=>4-(intOf t).toNat)
  case atStart=>exact⟨0,ai _,rfl,aL,λ_ _ h=>by omega,Kept.refl _ _⟩
  case round=>
   obtain⟨k,aw,rfl,a9,ba,aj⟩:=hrel;have a7:Hid (Kept P g wr):=aj;change Hid _ at a9 ba;clear aj;by_cases bh:k<4
   .have ac:k<ss.length:=by rw [ap.out];exact bh
    have bx:decide ((k:Int)<4)=true:=aG (by omega);go_wp2;clear bx;have b3:(k:Int)<4:=by omega
    go_loopw [7] (λt aP=>∃m:Nat,m<=ss[k].2.1/\t=.int .i64 m/\VL aP P M w.heap.size vs.length ss/\(∀i (H:i<ss.length),i<k->x9 aP vs.length ss[i].1 ss[i].2.1)/\x9 aP vs.length ss[k].1 m/\Kept P g aP) (λt _=>ss[k].2.1-(intOf t).toNat)
    case atStart=>exact⟨0,ai _,rfl,a9,ba,λj f=>by omega,a7⟩
    case round=>
     obtain⟨m,cd,rfl,aq,a3,J,V⟩:=hrel;have x:=aq.cell k ac;have bY:=aq.few ss[k] (ag ac);have D:Hid (VL wr P M w.heap.size vs.length ss):=aq;have aV:Hid (∀i (H:i<ss.length),i<k->x9 wr vs.length ss[i].1 ss[i].2.1):=a3;have aT:Hid (x9 wr vs.length ss[k].1 m):=J;have aX:Hid (Kept P g wr):=V;clear aq a3 J V;by_cases bW:m<ss[k].2.1
     .rcases D.room ss[k] (ag ac) with cl|⟨b',I,ad,aH,Q,ci⟩;.omega
      .have u0:wr.cell? ⟨b',m*4,none⟩=some I[m*4]:=by rw [ak wr b' _ _ _ _ Q];simp
       have u1:wr.cell? ⟨b',m*4+1,none⟩=some I[m*4+1]:=by rw [ak wr b' _ _ _ _ Q];simp
       have u2:wr.cell? ⟨b',m*4+2,none⟩=some I[m*4+2]:=by rw [ak wr b' _ _ _ _ Q];simp
       have u3:wr.cell? ⟨b',m*4+3,none⟩=some I[m*4+3]:=by rw [ak wr b' _ _ _ _ Q];simp
       have cm:=aa wr b' (m*4) _ _ Q;have ch:=aa wr b' (m*4+1) _ _ Q;have ca:=aa wr b' (m*4+2) _ _ Q;have cn:=aa wr b' (m*4+3) _ _ Q;have b9:wr.cell? ⟨w.heap.size,0,none⟩=some (.string dV):=cR D.mine rfl;have ce:wr.cell? ⟨w.heap.size,1,none⟩=some (.int .i64 (vs.length:Int)):=cR D.mine rfl;have cf:wr.cell? ⟨w.heap.size,2,none⟩=some (.bool false):=cR D.mine rfl;have cg:wr.cell? ⟨w.heap.size,3,none⟩=some (.int .i64 0):=cR D.mine rfl;have bD:¬b'=M:=λe=>D.gP (by rw [<-e];exact aH);have ao:¬b'=w.heap.size:=λe=>D.bP (by rw [<-e];exact aH);have bJ:¬M=b':=iK bD;have bK:¬w.heap.size=b':=iK ao;have bU:Hid ((wr4 wr b' m vs.length).rangeAt b' (m*4) (yO vs.length)):=DF u0 u1 u2 u3;have bI:Hid (ss[k].1=some ⟨b',0,none⟩):=ad;have bw:Hid (P b'):=aH;rw [ad] at x;have bZ:(m:Int)<(ss[k].2.1:Int):=by omega
       clear ad aH Q;generalize I[m*4]=v0 at*;generalize I[m*4+1]=b8 at*;generalize I[m*4+2]=cj at*;generalize I[m*4+3]=cb at*;go_wp2_with fail;go_region_held3 (λw'=>w'.cell? ⟨M,k,none⟩=some (.slice (some ⟨b',0,none⟩) ss[k].2.1 ss[k].2.2)/\w'.cell? ⟨w.heap.size,0,none⟩=some (.string dV)/\w'.cell? ⟨w.heap.size,1,none⟩=some (.int .i64 (vs.length:Int))/\w'.cell? ⟨w.heap.size,2,none⟩=some (.bool false)/\w'.cell? ⟨w.heap.size,3,none⟩=some (.int .i64 0)) (go_keep) (fail);go_wp2;go_roundw
       case rel=>
        refine⟨m+1,by omega,by go_num,(D.wr4 b' m bw).drew,λi H a1=>((aV i H a1).wr4 b' m).drew,?_,(aX.trans (Kept.wr4 b' m vs.length bw) iL).trans (Kept.drew _ _) iL⟩;intro j f bT ao;by_cases az:j=m
        .subst az;have Y:=bI.out;rw [ao] at Y;cases Y;exact bU.out
        .exact(aT.wr4 b' m) j (by omega) bT ao
       case measure=>simp [intOf];omega
     .go_wp2;go_roundw
      case rel=>
       refine⟨k+1,by omega,by go_num,D,λi H a1=>?_,aX⟩;by_cases e:i=k
       .subst e;have az:m=ss[i].2.1:=by omega
        rw [<-az];exact aT.out
       .exact aV i H (by omega)
      case measure=>simp [intOf];omega
   .have aZ:=a9.vets (by rw [ap.out];omega) (λi H=>ba i H (by have:=ap.out;omega));have an:∀j,P j->(Value.slice z n y).ownBlock=some j\/(av.heap.size<=j/\j≠M/\j<g.heap.size):=λj f=>by have e:=aI.out;rw [e] at f;exact f
    have aJ:=((a6.mono fE).trans bs iL).trans a7 (λj f=>(an j f).imp id (λh=>by omega));have p:=aO.kept aJ (λi H x=>(ah i (aB i x)).1 H) (λi H x=>(ah i (aB i x)).2.1 H) (λx=>(ah v (aB v x)).2.2 rfl);have bM:=p.head.c.2.2.1;have bO:=p.head.lt;have b6:¬(k:Int)<4:=by omega
    have b2:=a7.size;change Hid _ at aZ an p aJ;go_wp2_with (refine wpList_append_lies _ rfl (.tmp 57) (.tmp 59) 75 rfl 0 129 aD _ 1 24 Tryz.underlying75 au.1 au.2.1 au.2.2.1 au.2.2.2 rfl (by omega) (.slice b vs.length aQ) vs.length (vs.map js.val) (by rfl) (by exact World.ownsRow.alloc p.rows.row _) ⟨wr.heap.size,0,none⟩ 1 1 [.slice (some ⟨M,0,none⟩) 4 4] (by rfl) (by rfl) (by exact World.news_of_block (heap_alloc_new wr _)) (by simp [Value.oneCell']) (by omega) (by unfold maxLen;omega) (by omega) (ai _) (wr.heap.size+1) (by simp) ?_;intro bL bP bj al E ab bQ;have b1:bj.cell? ⟨v,2,none⟩=some (.slice b vs.length aQ):=(E.cell_far ⟨v,2,none⟩ (by simp;omega) (λe=>p.hbp (p.rows.foot2 v e.symm))).trans (by simpa using p.kept (Kept.alloc (λ_=>False) wr _) nF nF (λaE=>aE) |>.head.c.2.2.1);have b7:bj.frozen? ⟨v,2,none⟩=false:=(E.frozen_far ⟨v,2,none⟩ (by simp;omega) (λe=>p.hbp (p.rows.foot2 v e.symm))).trans (by simpa using p.kept (Kept.alloc (λ_=>False) wr _) nF nF (λaE=>aE) |>.head.c.2.2.2 2);change Hid _ at al E ab);go_end0
    have am:=p.pushV (by omega) ⟨M,ss,P⟩ ap aZ.out
     (λj f=>by
      have aE:=aO.flt j;have bN:=aO.hlt j;rcases an j f with f|f;.have ad:=ah j (aB j f);have aH:=af.out j f;exact⟨ad.1,ad.2.1,ad.2.2,by omega⟩
      .exact⟨λx=>by have:=aE x;omega,λx=>by have:=bN x;omega,by omega,by omega⟩)
     ⟨λx=>by have:=aO.flt _ x;simp only at this;omega,λx=>by have:=aO.hlt _ x;simp only at this;omega,by simp only;omega,by simp only;omega⟩ _ bL bP al E ab.out
    refine⟨rfl,⟨_,_,_,_,am.1,by simp,λj f=>?_⟩,(aJ.mono (λj f=>.inr (.inl (aB j f)))).trans am.2 (λj f=>?_)⟩
    .rcases f with f|f|f|f;.exact .inl f
     .rcases an j f with f|f;.exact .inr (.inl (aB j f))
      .exact .inr (.inr (by omega))
     .exact .inr (.inr (by simp only at f;omega))
     .rcases ab.out with T|T;.exact .inl (p.rows.foot2 j (by rw [f];exact T))
      .exact .inr (.inr (by omega))
    .rcases f with f|f;.exact .inl (.inl (p.rows.foot2 j f))
     .exact .inl (.inr (.inr f))
end law
namespace law
open keys (zg zd zq zl zh)
variable {W1 w2:World}{v0:Value}{more:Bool}
def fP(bo f box q:Nat)(od:yC):Nat->Value
 |0=>.pointer (some ⟨bo,0,none⟩)
 |1=>.pointer (some ⟨bo,0,none⟩)
 |2=>.pointer (some ⟨bo,f,none⟩)
 |3=>.pointer (some ⟨q,0,none⟩)
 |4=>.pointer (some ⟨box,5,none⟩)
 |5=>.string od.P
 |6=>.pointer (some ⟨box,4,none⟩)
 |7=>.string od.S
 |8=>.pointer (some ⟨box,2,none⟩)
 |9=>.int .i64 od.B
 |10=>.pointer (some ⟨box,3,none⟩)
 |_=>.int .i64 od.C
structure gd (M:za) (X R:Nat->Prop) (bo bs bd:Nat) (h:qm) (D:Dk) (S:Nat->Prop) (V:zP) (od:yC) (cc:Int) (W1:World) (v0 v1 c:Value) (w2:World) (D2:Dk) (S2:Nat->Prop) (more:Bool):Prop where
 v1:v1=.bool more
 c:c=.int .i64 cc
 aft:xx M W1 w2 bd bs S S2 D D2 1000
 ask:xY M w2 bs bd h D D2 V
 pg:Paged W1 w2 S2 V.vs od.P od.S od.B od.C v0 more cc
 bb:X bs/\¬S bs/\¬R bs/\bs≠bo
theorem Jp.laid{w0 i:World}{s:List zw}{m:Int}{c:Int}{b:Nat}(l:Jp W1 w2 s m v0 more c)(k1:Kept (λ_=>False) w0 W1)(r:w0.heap.size<=b)(t:b<W1.heap.size\/w2.heap.size<=b)(o:Kept (λk=>k=b) w2 i):
 Jp w0 i s m v0 more c/\∀j,v0.ownBlock=some j->j≠b:=by
 have u:=k1.size
 have d:∀j,v0.ownBlock=some j->j≠b:=λj a=>by
  by_cases f:c=0
  .obtain⟨_,n,p,e,h,g⟩:=l.yes f;rw [e] at a;have v:=g j a;have x:=(h.lt j a).2;omega
  .rw [(l.no f).1] at a;cases a
 refine⟨⟨(k1.trans l.kept iL).trans o (λk w=>.inr (by omega)),λf=>?_,l.no⟩,d⟩;obtain⟨q,n,p,e,h,g⟩:=l.yes f;exact⟨q,n,p,e,o.owns h (λj a=>by rw [e] at d;exact d j a),λj a=>by have:=g j a;omega⟩
theorem Jp.form{w w':World}{g:List zw}{m:Int}{c:Int}(d:Jp w w' g m v0 more c):∃a n k,v0=.slice a n k:=by
 by_cases b:c=0
 .obtain⟨_,f,h,e,_⟩:=d.yes b;exact⟨_,_,_,e⟩
 .exact⟨_,_,_,(d.no b).1⟩
theorem gd.form{M:za}{X o:Nat->Prop}{bo bs bd:Nat}{h:qm}{D:Dk}{S:Nat->Prop}{V:zP}{i:yC}{b:Int}{j c:Value}{g:Dk}{f:Nat->Prop}(l:gd M X o bo bs bd h D S V i b W1 v0 j c w2 g f more):∃a n k,v0=.slice a n k:=by
 by_cases d:b=0
 .obtain⟨q,_,⟨_,m,p,e,_⟩,_⟩:=l.pg.yes d;exact⟨_,_,_,e⟩
 .exact⟨_,_,_,(l.pg.no d).1⟩
theorem gd.laid{M:za}{X L:Nat->Prop}{bo bs bd:Nat}{h:qm}{D:Dk}{S:Nat->Prop}{V:zP}{C:yC}{o:Int}{w0 u:World}{w c:Value}{x:Dk}{r:Nat->Prop}{a:Nat}(f:gd M X L bo bs bd h D S V C o W1 v0 w c w2 x r more)(v:∀k,X k->k<w0.heap.size)(H:∀k,S k->X k)(k1:Kept (λ_=>False) w0 W1)(I:w0.heap.size<=a)(A:a<W1.heap.size\/w2.heap.size<=a)(n:Kept (λk=>k=a) w2 u):
 gd M X L bo bs bd h D S V C o w0 v0 w c u x r more/\∀j,v0.ownBlock=some j->j≠a:=by
 have K:=k1.size
 have z:¬r a:=λd=>by
  rcases A with l|l
  .rcases f.aft.foot a d with g|g;.have:=v _ (H _ g);omega
   .omega
  .have:=f.aft.disk.lt a d;omega
 have hbs:¬bs=a:=λe=>by have:=v bs f.bb.1;omega
 have q:∀j,o=0->v0.ownBlock=some j->W1.heap.size<=j/\j≠a:=λj d b=>by obtain⟨J,_,⟨_,B,y,e,l,g⟩,_⟩:=f.pg.yes d;rw [e] at b;have s:=g j b;have N:=(l.lt j b).2;exact⟨s,by omega⟩
 have i:∀j,v0.ownBlock=some j->j≠a:=λj b=>by
  by_cases d:o=0;.exact(q j d b).2
  .rw [(f.pg.no d).1] at b;cases b
 refine⟨⟨f.v1,f.c,⟨f.aft.disk.kept n (λk p e=>z (by rw [<-e];exact p)),λk p=>(f.aft.foot k p).imp id (λh=>by omega),((k1.mono fE).trans f.aft.kept iL).trans n (λk p=>.inr (by omega)),f.aft.reads0,f.aft.reads1,f.aft.size,f.aft.fuse⟩,?_,⟨λd=>?_,f.pg.no⟩,f.bb⟩,i⟩
 .cases f.ask using xY.elim with
  |shut t m F=>exact .shut t (M.sto_kept _ _ _ _ _ m n hbs) F
  |live t m live=>exact .live t (M.sto_kept _ _ _ _ _ m n hbs) live
 .obtain⟨J,G,⟨E,B,y,e,l,g⟩,s⟩:=f.pg.yes d;exact⟨J,G,⟨E,B,y,e,n.owns l (λj b=>by rw [e] at i;exact i j b),λj b=>by have:=g j b;omega⟩,s⟩
theorem Kz(M:za)(A:yg M)(w:World)(X:Nat->Prop)(bo t:Nat)(h:qm)(bd:Nat)(D:Dk)(S bv:Nat->Prop)(ax:Nat)(V:zP)(ac:Int)(n:yY M w X bo t h bd D S bv ax V ac)(dn:t<=2199023255552)(bs:Nat)(hbs:h.s=yp bs)
 (d:yC) (Q:Nat->Prop) (ak:d.Ok w Q) (cN:∀k,Q k->¬X k/\k<w.heap.size) (aZ:d.kind=7)
 (O:Nat) (bm:Value) (F a4:Nat->Prop) (a b:Option Addr) (bf bH:Nat) (bj vs:List js) (z:jh w O bm F a4 a b bf bH bj vs) (dg:vs.length<=t) (N:∀k,X k->¬F k/\¬a4 k/\k≠O):
 Calls Tryz.prog 63 #[.pointer (some ⟨O,0,none⟩),.pointer (some ⟨bo,0,none⟩),.agg #[.int .i64 d.kind,.int .i64 d.A,.int .i64 d.B,.int .i64 d.C,.string d.S,.string d.P,.slice d.la d.l.length d.lc,.slice d.ka d.ks.length d.kc]] w λe w'=>Dy M w w' X bo t O bm F a4 a bf bj vs e:=by
 have aw:=n.xlt;have k0:Kept (λ_=>False) w (w.alloc (.cells #[.int .i64 d.kind,.int .i64 d.A,.int .i64 d.B,.int .i64 d.C,.string d.S,.string d.P,.slice d.la d.l.length d.lc,.slice d.ka d.ks.length d.kc] 81)):=Kept.alloc _ _ _;have ap:xj (w.alloc (.cells #[.int .i64 d.kind,.int .i64 d.A,.int .i64 d.B,.int .i64 d.C,.string d.S,.string d.P,.slice d.la d.l.length d.lc,.slice d.ka d.ks.length d.kc] 81)) w.heap.size d:=⟨heap_alloc_new w _⟩;have bt:=ak.kept k0 nF;have y:=n.kept k0 nF;have W:w.heap.size<(w.alloc (.cells #[.int .i64 d.kind,.int .i64 d.A,.int .i64 d.B,.int .i64 d.C,.string d.S,.string d.P,.slice d.la d.l.length d.lc,.slice d.ka d.ks.length d.kc] 81)).heap.size:=by simp
 have b2:=y.head.c0;rw [y.hd] at b2;unfold yp at b2;have bg:=y.head.c1;rw [hbs] at bg;unfold yp at bg;have cw:=ap.c4;have cC:=ap.c2;have cv:=ap.c3;have cU:=ap.c5;have di:=ap.c0.trans (et (λk=>some (Value.int .i64 k)) aZ);have c1:=aw bo n.bX;have cm:=n.good.few;change Hid _ at ap bt y n ak cN hbs aw k0 z N W;clear aZ;generalize dk:w.alloc (.cells #[.int .i64 d.kind,.int .i64 d.A,.int .i64 d.B,.int .i64 d.C,.string d.S,.string d.P,.slice d.la d.l.length d.lc,.slice d.ka d.ks.length d.kc] 81)=w0 at*;go_enter Tryz.func63,Tryz.ntmps63;go_wp2_with fail;obtain⟨db,c4,cI,cu,bS⟩:=y.disk;refine(ya _ bd S D db c4 cI cu bS).mono ?_;rintro e ch ⟨rfl,aI⟩;rw [aI];clear aI ch bS;go_wp2_with fail
 have ad:∀o,Kept (λ_=>False) w0 o->o.cell? ⟨bo,1,none⟩=some (.pointer (some ⟨bs,0,none⟩))/\o.cell? ⟨w.heap.size,5,none⟩=some (.string d.P)/\o.cell? ⟨w.heap.size,4,none⟩=some (.string d.S)/\o.cell? ⟨w.heap.size,2,none⟩=some (.int .i64 d.B)/\o.cell? ⟨w.heap.size,3,none⟩=some (.int .i64 d.C):=λo k=>by have x:=W.out;exact⟨(k.cell (a:=⟨bo,1,none⟩) (show bo<w0.heap.size by omega) id).trans bg,(k.cell (a:=⟨w.heap.size,5,none⟩) x id).trans cU,(k.cell (a:=⟨w.heap.size,4,none⟩) x id).trans cw,(k.cell (a:=⟨w.heap.size,2,none⟩) x id).trans cC,(k.cell (a:=⟨w.heap.size,3,none⟩) x id).trans cv⟩
 have cH:Hid (X bs):=by
  cases n.st using yj.elim with
  |live ba aN ca=>have e:ba=bs:=(by have s:=hbs.out;rw [aN] at s;unfold yp at s;simpa using s);rw [<-e];exact ca
  |shut ba aN ca=>have e:ba=bs:=(by have s:=hbs.out;rw [aN] at s;unfold yp at s;simpa using s);rw [<-e];exact ca
  |gone aN=>have s:=hbs.out;rw [aN] at s;cases s
 have bU:∀k,(S k\/k=bs)->k<w0.heap.size:=λk l=>y.xlt k (l.elim (y.sX k) (λe=>by rw [e];exact cH));have cT:Hid (∀k,(S k\/k=bs)->k<w0.heap.size):=bU;clear bU;refine xR (by kernel_rfl) (by kernel_rfl) (λaf aW o=>∃B:Nat->Value,aW={tmps:=#[.pointer (some ⟨O,0,none⟩),.pointer (some ⟨bo,0,none⟩),.agg #[.int .i64 d.kind,.int .i64 d.A,.int .i64 d.B,.int .i64 d.C,.string d.S,.string d.P,.slice d.la d.l.length d.lc,.slice d.ka d.ks.length d.kc],undef,undef,.pointer (some ⟨w.heap.size,0,none⟩),.bool false,.int .i64 D.reads,undef,undef,undef,undef,undef,undef,undef,undef,undef,undef,undef,undef,undef,undef,B 16,B 18,undef,undef,undef,.pointer (some ⟨bo,0,none⟩),.pointer (some ⟨bo,0,none⟩),.pointer (some ⟨bo,0,none⟩),.pointer (some ⟨bd,0,none⟩),.int .i64 D.reads,.pointer (some ⟨w.heap.size,0,none⟩),.int .i64 7,.bool false,.bool false,undef,undef,undef,undef,undef,undef,undef,undef,undef,undef,undef,undef,undef,undef,undef,undef,undef,undef,undef,undef,undef,undef,undef,undef,undef,undef,undef,undef,undef,undef,undef,undef,undef,undef,undef,undef,undef,undef,undef,undef,undef,undef,undef,undef,undef,undef,undef,undef,undef,undef,undef,undef,undef,undef,undef,undef,undef,undef,undef,undef,undef,undef,undef,undef,undef,undef,undef,undef,undef,.bool false,.bool false,undef,undef,undef,undef,undef,undef,undef,undef,undef,undef,undef,undef,undef,undef,undef,undef,undef,undef,undef,undef,undef,undef,undef,undef,undef,undef,undef,undef,undef,undef,undef,undef,undef,undef,undef,undef,undef,undef,undef,undef,undef,undef,undef,undef,undef,undef,undef,undef,undef,undef,undef,undef,undef,undef,undef,undef,undef,undef,undef,undef,undef,undef,B 13,B 0,B 1,B 2,B 3,B 4,B 5,B 6,B 7,B 8,B 9,B 10,B 11,B 12,B 14,B 15,undef,undef,undef,undef,undef,undef,undef,undef,undef,undef,undef,undef,undef,undef,undef,undef,undef,undef,undef,undef,undef,undef,undef,undef,undef,undef,undef,undef,undef,undef,undef,undef,undef,undef,undef,undef,undef,undef,undef,undef,undef,undef,undef,undef,undef,undef,undef,undef,undef,undef],defers:=[]}/\ym w0 90 (fP bo 1 w.heap.size bs d) (λW1 v0 al c w2=>∃am Y more,gd M X bv bo bs bd h D S V d (yH h.shut (qR d.P d.S d.B d.C)) W1 v0 al c w2 am Y more) af B o) ?_ ?_ ?_;.exact⟨λ_=>undef,rfl,ym.start _⟩
 .rintro af aW o i dm a6 ai f ⟨B,rfl,g⟩;have aX:i<19:=(lT a6);rcases (by omega:(i=0\/i=1\/i=2\/i=4\/i=6\/i=8\/i=10)\/(i=3\/i=5\/i=7\/i=9\/i=11)\/i=12\/i=13\/i=14\/i=15\/i=16\/i=17\/i=18) with(rfl|rfl|rfl|rfl|rfl|rfl|rfl)|(rfl|rfl|rfl|rfl|rfl)|rfl|rfl|rfl|rfl|rfl|rfl|rfl;all_goals (have bi:=aK a6;subst bi)
  iterate 7
   .first|have e:=g.pv 0 (by decide) (f ⟨0,.data⟩ ⟨.head _⟩ rfl)|have e:=g.pv 1 (by decide) (f ⟨1,.data⟩ ⟨.head _⟩ rfl)|have e:=g
    (try simp only [fP] at e)
    refine wpOp_step rfl (λR p=>?_)
    (try simp only [e])
    go_simp;exact p _ _ ⟨_,(by first|simp [fP,e]|simp [fP]),g.pure _ (by decide)⟩
  iterate 5
   .obtain⟨cg,cq,c3,c9,df⟩:=ad o (g.early (g.l12 ai)).1
    first|have e:=g.pv 2 (by decide) (f ⟨2,.data⟩ ⟨.head _⟩ rfl)|have e:=g.pv 4 (by decide) (f ⟨4,.data⟩ ⟨.head _⟩ rfl)|have e:=g.pv 6 (by decide) (f ⟨6,.data⟩ ⟨.head _⟩ rfl)|have e:=g.pv 8 (by decide) (f ⟨8,.data⟩ ⟨.head _⟩ rfl)|have e:=g.pv 10 (by decide) (f ⟨10,.data⟩ ⟨.head _⟩ rfl)
    simp only [fP] at e;refine wpOp_step rfl (λR p=>?_)
    (try simp only [e])
    go_simp;exact p _ _ ⟨_,(by first|simp [fP,e]|simp [fP]),g.pure _ (by decide)⟩
  .have bb:af 3=true:=(f ⟨3,.data⟩ (by simp) rfl);have bK:B 3=.pointer (some ⟨bs,0,none⟩):=g.pv 3 (by omega) bb;have bw:af 5=true:=(f ⟨5,.data⟩ (by simp) rfl);have bq:B 5=.string d.P:=g.pv 5 (by omega) bw;have a5:af 7=true:=(f ⟨7,.data⟩ (by simp) rfl);have bc:B 7=.string d.S:=g.pv 7 (by omega) a5;have bn:af 9=true:=(f ⟨9,.data⟩ (by simp) rfl);have br:B 9=.int .i64 d.B:=g.pv 9 (by omega) bn;have aJ:af 11=true:=(f ⟨11,.data⟩ (by simp) rfl);have aQ:B 11=.int .i64 d.C:=g.pv 11 (by omega) aJ;have aL:=(g.early ai).1;refine wpOp_step rfl (λR p=>?_);simp only [bK,bq,bc,br,aQ];go_simp;refine(Dx M A o X bo t h bd D S bv ax V ac (y.kept aL nF) (by omega) bs hbs d.P d.S ak.out.P ak.out.S d.B d.C ak.out.B ak.out.C).mono ?_;rintro e w2 ⟨am,Y,v0,more,rfl,ah,ce,cO,cr⟩;exact p _ _ ⟨λj=>if j=12 then .tuple #[.agg #[v0,.bool more],.int .i64 (yH h.shut (qR d.P d.S d.B d.C))] else B j,by simp [bK,bq,bc,br,aQ],g.call ai v0 (.bool more) _ w2 (λk=>S k\/k=bs) cT ah.kept ⟨am,Y,more,rfl,rfl,ah,ce,cO,cr⟩ ⟨bb,bw,a5,bn,aJ⟩⟩
  .have bF:af 12=true:=(f ⟨12,.data⟩ (by simp) rfl);refine wpOp_step rfl (λR p=>?_);go_simp;exact p _ _ ⟨λj=>if j=13 then B 12 else B j,by simp,g.part13 bF ai⟩
  .have C:af 13=true:=(f ⟨13,.data⟩ (by simp) rfl);have u:=g.t12 C;obtain⟨W1,w2,v0,al,c,q⟩:=g.late u;have E:=q.x13 C;refine wpOp_step rfl (λR p=>?_);simp only [E];go_simp;exact p _ _ ⟨λj=>if j=14 then .agg #[v0,al] else B j,by simp [E],g.part14 u _ (λ_ _ _ _ _ q'=>by have s:=q'.x13 C;rw [E] at s;simp at s;rw [s.1.1,s.1.2])⟩
  .have C:af 13=true:=(f ⟨13,.data⟩ (by simp) rfl);have u:=g.t12 C;obtain⟨W1,w2,v0,al,c,q⟩:=g.late u;have E:=q.x13 C;refine wpOp_step rfl (λR p=>?_);simp only [E];go_simp;exact p _ _ ⟨λj=>if j=15 then c else B j,by simp [E],g.part15 u _ (λ_ _ _ _ _ q'=>by have s:=q'.x13 C;rw [E] at s;simp at s;exact s.2)⟩
  .refine wpOp_step rfl (λR p=>?_);go_simp;exact p _ _ ⟨λj=>if j=16 then .pointer (some ⟨o.heap.size,0,none⟩) else B j,by simp,g.make ai _ _⟩
  .have a7:af 16=true:=(f ⟨16,.data⟩ (by simp) rfl);have aM:af 14=true:=(f ⟨14,.data⟩ (by simp) rfl);have u:=g.t12 aM;obtain⟨b,v0,al,P,ag,⟨u0,u1,aH⟩,⟨_,_,_,ab⟩,bh⟩:=g.lay u a7 ai;obtain⟨am,Y,more,ab⟩:=ab;obtain⟨J,a3,K,rfl⟩:=ab.form;obtain rfl:=ab.v1;clear ab;have ag:=ag aM;have da:o.cell? ⟨b,0,none⟩=some u0:=cR aH rfl;have cg:o.cell? ⟨b,1,none⟩=some u1:=cR aH rfl;have dc:=aa o b 0 _ _ aH;have c5:=aa o b 1 _ _ aH;refine wpOp_step rfl (λR p=>?_);simp only [P,ag];go_simp;exact p _ _ ⟨λj=>if j=17 then undef else B j,by simp [P,ag],bh undef⟩
  .have aR:af 15=true:=(f ⟨15,.data⟩ (by simp) rfl);have u:=g.t12 aR;refine wpOp_step rfl (λR p=>?_);go_simp;exact p _ _ ⟨λj=>if j=18 then B 15 else B j,by simp,g.part18 u _ (λ_ _ _ _ _ q=>q.x15 aR)⟩
 .rintro af aW L G ⟨B,rfl,g⟩;obtain⟨W1,w2,v0,al,c,q⟩:=g.late (G 12 (by decide));obtain⟨am,Y,more,a9⟩:=q.post;obtain⟨H,P,cV,bx,b8,u0,u1,aF,cL⟩:=q.yes (G 16 (by decide));obtain⟨rfl,rfl⟩:=cL (G 17 (by decide));have an:=q.x18 (G 18 (by decide));obtain⟨I,bJ⟩:=a9.laid y.xlt y.sX q.k1 cV bx b8;rw [I.c] at an;rw [P,an];have cc:=(lT aF);clear ad g G a9 bx b8 P an q;obtain⟨J,a3,K,rfl⟩:=I.form;obtain rfl:=I.v1;have ah:xx M w0.drew L bd bs S Y D am 1000:=⟨I.aft.disk,I.aft.foot,⟨I.aft.kept.os,I.aft.kept.tape,I.aft.kept.output,I.aft.kept.size,I.aft.kept.block⟩,I.aft.reads0,I.aft.reads1,I.aft.size,I.aft.fuse⟩;have aq:Hid (UT w.heap.size L bo h bd am Y bv ax V ac d Q):=dC y aw ap bt cN W ah I.bb;have aj:Hid (xx M w0.drew L bd bs S Y D am 1000):=ah;have bE:Hid (xY M L bs bd h D am V):=I.ask;have b7:Hid (Paged w0 L Y V.vs d.P d.S d.B d.C (.slice J a3 K) more (yH h.shut (qR d.P d.S d.B d.C))):=I.pg;have av:Hid (X bs/\¬S bs/\¬bv bs/\bs≠bo):=I.bb;have cf:Hid (∀j,(Value.slice J a3 K).ownBlock=some j->j≠H):=bJ;have cj:Hid (L.heap[H]? =some (.cells #[.slice J a3 K,.bool more] 90 (0,0))):=aF;obtain⟨aY,bT⟩:∃aY,qB V.vs d.P d.S d.B aY:=⟨_,dP V.vs n.good.apart d.P d.S d.B⟩;have bP:Hid (qB V.vs d.P d.S d.B aY):=bT
  have ct:Hid (∀v∈V.vs,v.key.size<=9223372036854775807):=λv c8=>by
   have s:=n.good.key v c8;unfold zh at s;simp only [aS,aO] at s;have dv:v.key.data.toList.length=v.key.size:=by simp
   omega
  have bN:Hid (∀k,bv k->k<L.heap.size):=λk l=>by have:=aw.out k (n.rX k l).1;have:=W.out;omega
  generalize b6:yH h.shut (qR d.P d.S d.B d.C)=be at*;have b0:Hid (yH h.shut (qR d.P d.S d.B d.C)=be):=b6;have bM:=aq.head.c2;rw [n.his] at bM;unfold yp at bM;have cJ:=aq.box.c2;have cK:=aq.box.c3;have cD:=aq.box.c4;have cW:=aq.box.c5
  have ad:∀o,Kept (λ_=>False) L o->o.cell? ⟨bo,2,none⟩=some (.pointer (some ⟨ax,0,none⟩))/\o.cell? ⟨w.heap.size,5,none⟩=some (.string d.P)/\o.cell? ⟨w.heap.size,4,none⟩=some (.string d.S)/\o.cell? ⟨w.heap.size,2,none⟩=some (.int .i64 d.B)/\o.cell? ⟨w.heap.size,3,none⟩=some (.int .i64 d.C):=λo k=>by
   have x:=W.out;have az:w.heap.size<L.heap.size:=by omega
   exact⟨(k.cell (a:=⟨bo,2,none⟩) (show bo<L.heap.size by omega) id).trans bM,(k.cell (a:=⟨w.heap.size,5,none⟩) az id).trans cW,(k.cell (a:=⟨w.heap.size,4,none⟩) az id).trans cD,(k.cell (a:=⟨w.heap.size,2,none⟩) az id).trans cJ,(k.cell (a:=⟨w.heap.size,3,none⟩) az id).trans cK⟩
  clear I ah bJ aF bT b6 bM cJ cK cD cW;go_wp2_with fail;refine xR (by kernel_rfl) (by kernel_rfl) (λaf aW o=>∃U:Nat->Value,aW={tmps:=#[.pointer (some ⟨O,0,none⟩),.pointer (some ⟨bo,0,none⟩),.agg #[.int .i64 d.kind,.int .i64 d.A,.int .i64 d.B,.int .i64 d.C,.string d.S,.string d.P,.slice d.la d.l.length d.lc,.slice d.ka d.ks.length d.kc],undef,undef,.pointer (some ⟨w.heap.size,0,none⟩),.bool false,.int .i64 D.reads,undef,undef,undef,undef,undef,undef,undef,undef,undef,undef,undef,undef,undef,undef,.pointer (some ⟨H,0,none⟩),.int .i64 be,U 16,U 18,undef,.pointer (some ⟨bo,0,none⟩),.pointer (some ⟨bo,0,none⟩),.pointer (some ⟨bo,0,none⟩),.pointer (some ⟨bd,0,none⟩),.int .i64 D.reads,.pointer (some ⟨w.heap.size,0,none⟩),.int .i64 7,.bool false,.bool false,undef,undef,undef,undef,undef,undef,undef,undef,undef,undef,undef,undef,undef,undef,undef,undef,undef,undef,undef,undef,undef,undef,undef,undef,undef,undef,undef,undef,undef,undef,undef,undef,undef,undef,undef,undef,undef,undef,undef,undef,undef,undef,undef,undef,undef,undef,undef,undef,undef,undef,undef,undef,undef,undef,undef,undef,undef,undef,undef,undef,undef,undef,undef,undef,undef,undef,undef,undef,undef,.bool false,.bool false,undef,undef,undef,undef,undef,undef,undef,undef,undef,undef,undef,undef,undef,undef,undef,undef,undef,undef,undef,undef,undef,undef,undef,undef,undef,undef,undef,undef,undef,undef,undef,undef,undef,undef,undef,undef,undef,undef,undef,undef,undef,undef,undef,undef,undef,undef,undef,undef,undef,undef,undef,undef,undef,undef,undef,undef,undef,undef,undef,undef,undef,undef,B 13,B 0,B 1,B 2,B 3,B 4,B 5,B 6,B 7,B 8,B 9,B 10,B 11,B 12,B 14,B 15,U 13,U 0,U 1,U 2,U 3,U 4,U 5,U 6,U 7,U 8,U 9,U 10,U 11,U 12,U 14,U 15,undef,undef,undef,undef,undef,undef,undef,undef,undef,undef,undef,undef,undef,undef,undef,undef,undef,undef,undef,undef,undef,undef,undef,undef,undef,undef,undef,undef,undef,undef,undef,undef,undef,undef],defers:=[]}/\ym L 90 (fP bo 2 w.heap.size ax d) (λW1 v0 al c w2=>∃r,al=.bool r/\c=.int .i64 (qR d.P d.S d.B d.C)/\Jp W1 w2 aY d.C v0 r (qR d.P d.S d.B d.C)) af U o) ?_ ?_ ?_;.exact⟨λ_=>undef,rfl,ym.start _⟩
  .rintro af aW o i dm a6 ai f ⟨U,rfl,g⟩;have aX:i<19:=(lT a6);rcases (by omega:(i=0\/i=1\/i=2\/i=4\/i=6\/i=8\/i=10)\/(i=3\/i=5\/i=7\/i=9\/i=11)\/i=12\/i=13\/i=14\/i=15\/i=16\/i=17\/i=18) with(rfl|rfl|rfl|rfl|rfl|rfl|rfl)|(rfl|rfl|rfl|rfl|rfl)|rfl|rfl|rfl|rfl|rfl|rfl|rfl;all_goals (have bi:=aK a6;subst bi)
   iterate 7
    .first|have e:=g.pv 0 (by decide) (f ⟨0,.data⟩ ⟨.head _⟩ rfl)|have e:=g.pv 1 (by decide) (f ⟨1,.data⟩ ⟨.head _⟩ rfl)|have e:=g
     (try simp only [fP] at e)
     refine wpOp_step rfl (λR p=>?_)
     (try simp only [e])
     go_simp;exact p _ _ ⟨_,(by first|simp [fP,e]|simp [fP]),g.pure _ (by decide)⟩
   iterate 5
    .obtain⟨cg,cq,c3,c9,df⟩:=ad o (g.early (g.l12 ai)).1
     first|have e:=g.pv 2 (by decide) (f ⟨2,.data⟩ ⟨.head _⟩ rfl)|have e:=g.pv 4 (by decide) (f ⟨4,.data⟩ ⟨.head _⟩ rfl)|have e:=g.pv 6 (by decide) (f ⟨6,.data⟩ ⟨.head _⟩ rfl)|have e:=g.pv 8 (by decide) (f ⟨8,.data⟩ ⟨.head _⟩ rfl)|have e:=g.pv 10 (by decide) (f ⟨10,.data⟩ ⟨.head _⟩ rfl)
     simp only [fP] at e;refine wpOp_step rfl (λR p=>?_)
     (try simp only [e])
     go_simp;exact p _ _ ⟨_,(by first|simp [fP,e]|simp [fP]),g.pure _ (by decide)⟩
   .have bb:af 3=true:=(f ⟨3,.data⟩ (by simp) rfl);have bK:U 3=.pointer (some ⟨ax,0,none⟩):=g.pv 3 (by omega) bb;have bw:af 5=true:=(f ⟨5,.data⟩ (by simp) rfl);have bq:U 5=.string d.P:=g.pv 5 (by omega) bw;have a5:af 7=true:=(f ⟨7,.data⟩ (by simp) rfl);have bc:U 7=.string d.S:=g.pv 7 (by omega) a5;have bn:af 9=true:=(f ⟨9,.data⟩ (by simp) rfl);have br:U 9=.int .i64 d.B:=g.pv 9 (by omega) bn;have aJ:af 11=true:=(f ⟨11,.data⟩ (by simp) rfl);have aQ:U 11=.int .i64 d.C:=g.pv 11 (by omega) aJ;have aL:=(g.early ai).1;refine wpOp_step rfl (λR p=>?_);simp only [bK,bq,bc,br,aQ];go_simp;refine(UE o bv bv ax V.vs ac (aq.ref.kept aL nF nF) (λk l=>au (bN k l) aL.size) (λk l=>au (bN k l) aL.size) n.good.apart cm ct d.P d.S d.B d.C ak.out.P ak.out.S aY bP).mono ?_;rintro e w2 ⟨ci,r,rfl,ae⟩;exact p _ _ ⟨λj=>if j=12 then .tuple #[.agg #[ci,.bool r],.int .i64 (qR d.P d.S d.B d.C)] else U j,by simp [bK,bq,bc,br,aQ],g.call ai ci (.bool r) _ w2 (λ_=>False) fE ae.kept ⟨r,rfl,rfl,ae⟩ ⟨bb,bw,a5,bn,aJ⟩⟩
   .have bF:af 12=true:=(f ⟨12,.data⟩ (by simp) rfl);refine wpOp_step rfl (λR p=>?_);go_simp;exact p _ _ ⟨λj=>if j=13 then U 12 else U j,by simp,g.part13 bF ai⟩
   .have C:af 13=true:=(f ⟨13,.data⟩ (by simp) rfl);have u:=g.t12 C;obtain⟨W1,w2,v0,al,c,q⟩:=g.late u;have E:=q.x13 C;refine wpOp_step rfl (λR p=>?_);simp only [E];go_simp;exact p _ _ ⟨λj=>if j=14 then .agg #[v0,al] else U j,by simp [E],g.part14 u _ (λ_ _ _ _ _ q'=>by have s:=q'.x13 C;rw [E] at s;simp at s;rw [s.1.1,s.1.2])⟩
   .have C:af 13=true:=(f ⟨13,.data⟩ (by simp) rfl);have u:=g.t12 C;obtain⟨W1,w2,v0,al,c,q⟩:=g.late u;have E:=q.x13 C;refine wpOp_step rfl (λR p=>?_);simp only [E];go_simp;exact p _ _ ⟨λj=>if j=15 then c else U j,by simp [E],g.part15 u _ (λ_ _ _ _ _ q'=>by have s:=q'.x13 C;rw [E] at s;simp at s;exact s.2)⟩
   .refine wpOp_step rfl (λR p=>?_);go_simp;exact p _ _ ⟨λj=>if j=16 then .pointer (some ⟨o.heap.size,0,none⟩) else U j,by simp,g.make ai _ _⟩
   .have a7:af 16=true:=(f ⟨16,.data⟩ (by simp) rfl);have aM:af 14=true:=(f ⟨14,.data⟩ (by simp) rfl);have u:=g.t12 aM;obtain⟨b,v0,al,P,ag,⟨u0,u1,aH⟩,⟨_,_,_,ab⟩,bh⟩:=g.lay u a7 ai;obtain⟨r,rfl,_,ab⟩:=ab;obtain⟨aC,a1,aE,rfl⟩:=ab.form;clear ab;have ag:=ag aM;have da:o.cell? ⟨b,0,none⟩=some u0:=cR aH rfl;have cg:o.cell? ⟨b,1,none⟩=some u1:=cR aH rfl;have dc:=aa o b 0 _ _ aH;have c5:=aa o b 1 _ _ aH;refine wpOp_step rfl (λR p=>?_);simp only [P,ag];go_simp;exact p _ _ ⟨λj=>if j=17 then undef else U j,by simp [P,ag],bh undef⟩
   .have aR:af 15=true:=(f ⟨15,.data⟩ (by simp) rfl);have u:=g.t12 aR;refine wpOp_step rfl (λR p=>?_);go_simp;exact p _ _ ⟨λj=>if j=18 then U 15 else U j,by simp,g.part18 u _ (λ_ _ _ _ _ q=>q.x15 aR)⟩
  .rintro af aW Z G ⟨U,rfl,g⟩;obtain⟨dw,dt,ci,dq,cq,bA⟩:=g.late (G 12 (by decide));obtain⟨r,cn,bY,bB⟩:=bA.post;obtain⟨ck,P,cB,bp,b4,u0,u1,aG,co⟩:=bA.yes (G 16 (by decide));obtain⟨rfl,rfl⟩:=co (G 17 (by decide));have an:=bA.x18 (G 18 (by decide));obtain⟨ae,cl⟩:=bB.laid bA.k1 cB bp b4;rw [bY] at an;rw [P,an];obtain⟨aC,a1,aE,rfl⟩:=ae.form;subst cn;have c0:=(lT aG);have cy:Hid (Jp L Z aY d.C (.slice aC a1 aE) r (qR d.P d.S d.B d.C)):=ae;have a8:Hid (Z.heap[ck]? =some (.cells #[.slice aC a1 aE,.bool r] 90 (0,0))):=aG;have bG:Hid (Z.heap[H]? =some (.cells #[.slice J a3 K,.bool more] 90 (0,0))):=(ae.kept.block _ cc id).trans cj.out;have cp:Hid (UT w.heap.size Z bo h bd am Y bv ax V ac d Q):=aq.kept ae.kept fE;have ar:Hid (Kept (λ_=>False) L Z):=ae.kept;clear ad g G bB bp b4 P an bA bY ae cl aG;have aU:Kept (λk=>S k\/k=bs) w L:=((k0.mono fE).trans (Kept.drew _ w0) iL).trans aj.kept iL;have bz:Hid (Kept (λk=>S k\/k=bs) w L):=aU
   have a0:Hid (jh Z O bm F a4 a b bf bH bj vs):=(z.kept aU (λi aX m=>by
    rcases m with m|m;.exact(N i (n.sX i m)).1 aX
    .exact(N i (by rw [m];exact av.1)).1 aX) (λi aX m=>by
    rcases m with m|m;.exact(N i (n.sX i m)).2.1 aX
    .exact(N i (by rw [m];exact av.1)).2.1 aX) (λm=>by
    rcases m with m|m;.exact(N O (n.sX O m)).2.2 rfl
    .exact(N bs av.1).2.2 m.symm)).kept ar nF nF (λaV=>aV)
   have bZ:∀k,(X k\/Y k)->¬F k/\¬a4 k/\k≠O:=λk l=>by
    rcases l with l|l;.exact N k l
    .rcases aj.foot k l with x|x;.exact N k (n.sX k x)
     .have az:w0.heap.size<=k:=x;have cs:=W.out;exact⟨λm=>by have:=z.flt k m;omega,λm=>by have:=z.hlt k m;omega,λm=>by have:=z.head.lt;omega⟩
   have aB:Hid (∀k,(X k\/Y k)->¬F k/\¬a4 k/\k≠O):=bZ
   have bO:Hid (∀k,(X k\/Y k)->X k\/w.heap.size<=k):=λk l=>by
    rcases l with l|l;.exact .inl l
    .rcases aj.foot k l with x|x;.exact .inl (n.sX k x)
     .have az:w0.heap.size<=k:=x;have cs:=W.out;exact .inr (by omega)
   have bQ:Hid (Kept (λ_=>False) w w0.drew):=k0.trans (Kept.drew _ w0) iL;clear aU bZ;go_wp2_with fail;refine(ug _ bo h (by exact cp.head) _).mono ?_;rintro e ch ⟨rfl,aI⟩;rw [aI,b0.out];clear aI ch;have cY:Z.cell? ⟨H,0,none⟩=some (.slice J a3 K):=cR bG.out rfl;have du:Z.cell? ⟨H,1,none⟩=some (.bool more):=cR bG.out rfl;have dy:Z.cell? ⟨ck,0,none⟩=some (.slice aC a1 aE):=cR a8.out rfl;have dr:Z.cell? ⟨ck,1,none⟩=some (.bool r):=cR a8.out rfl;by_cases m:be=0
   .obtain⟨cb,bV,⟨a2,ds,k1,bC,b3,bW⟩,bD⟩:=b7.yes m;have bl:=gT (b0.trans m);obtain⟨bX,dx,k2,cE,b1,cQ⟩:=cy.yes bl;obtain rfl:cb=aY:=bV.unique bP (eN _);obtain⟨dh,c2⟩:=ZE bl;have cM:r=more:=by rw [a2,bX]
    subst cM;have cX:(cb.take d.C.toNat).length<=50:=by rw [ay];omega
    cases bC;cases cE;clear a2 bX bV;generalize cb.take d.C.toNat=T at*;have bR:Hid (Z.ownsRow 0 94 4 (.slice J T.length K) T.length (zJ T)):=ar.owns b3 nF;have cz:Hid (Z.ownsRow 0 94 4 (.slice aC T.length aE) T.length (zJ T)):=b1
    have aP:Hid (∀k,(Value.slice J T.length K).ownBlock=some k->w.heap.size<k/\¬Y k):=λk l=>by have x:=bW k l;have cs:=W.out;exact⟨by omega,bD k l⟩
    have c6:(be !=0)=false:=by simpa using m
    clear b3 b1 bW cQ bD m bl;go_wp2_with fail;refine(Z9 Z J aC K aE T r (by omega) bR cz).mono ?_;rintro e ao ⟨rfl,aD⟩;have cP:Hid (Kept (λ_=>False) Z ao):=aD;have b9:Hid (jh ao.drew O bm F a4 a b bf bH bj vs):=(a0.kept aD nF nF (λaV=>aV)).kept (Kept.drew (λ_=>False) ao) nF nF (λaV=>aV);have cF:Hid (ao.drew.ownsRow 0 94 4 (.slice J T.length K) T.length (zJ T)):=(Kept.drew (λ_=>False) ao).owns (aD.owns bR nF) nF;have dd:=aD.size;have de:ao.cell? ⟨H,0,none⟩=some (.slice J T.length K):=(aD.cell (a:=⟨H,0,none⟩) (show H<Z.heap.size by omega) id).trans cY;have cd:H<ao.heap.size:=by omega
    have dj:w.heap.size<H:=by have:=W.out;omega
    have cA:Hid (∀k,(Value.slice J T.length K).ownBlock=some k->¬F k/\¬a4 k/\k≠O):=λk l=>by have x:=(aP k l).1;exact⟨λm=>by have:=z.flt k m;omega,λm=>by have:=z.hlt k m;omega,λm=>by have:=z.head.lt;omega⟩
    have cG:Hid (¬(a4 H\/(Value.slice J T.length K).ownBlock=some H\/H=O)):=λm=>by
     rcases m with m|m|m;.have:=z.hlt H m;omega
     .exact cf H m rfl
     .have:=z.head.lt;omega
    clear aD;go_wp2_with fail;go_region_held3 (λw'=>w'.cell? ⟨H,0,none⟩=some (.slice J T.length K)) (go_keep) ((go_at_call 110;refine(jW ao.drew O bm F a4 (λk=>(Value.slice J T.length K).ownBlock=some k) a b bf bH bj vs b9 (by omega) J T.length K (zJ T) cF (by omega) (λk l=>l) cA).mono ?_;rintro e bL ⟨rfl,⟨c7,cx,cS,cZ,bk,dl,bI⟩,aA⟩;have b5:Hid (Kept (λk=>a4 k\/(Value.slice J T.length K).ownBlock=some k\/k=O) ao bL):=⟨aA.os,aA.tape,aA.output,aA.size,aA.block⟩;have dp:bL.cell? ⟨H,0,none⟩=some (.slice J T.length K):=(b5.cell (a:=⟨H,0,none⟩) cd cG).trans de;change Hid _ at bk bI;clear aA));go_wp2;go_ret;have aT:=aw.out;have bu:Kept (λk=>a4 k\/(Value.slice J T.length K).ownBlock=some k\/k=O) L bL:=((ar.mono fE).trans cP fE).trans b5 iL;refine⟨rfl,⟨_,cZ,c7,cx,cS,vD M w w0.drew L bL X bo t h bd D am S Y bv ax V ac n bs hbs bQ (ly W) aj av bE _ bu (λk l=>?_),bk,by omega,bO,λk l=>?_,λk l=>⟨(aB k l).1,λaV=>?_,(aB k l).2.2⟩⟩,(bz.mono (λk l=>.inl (l.elim (n.sX k) (λe=>by rw [e];exact av.1)))).trans bu (λk l=>?_)⟩
    .rcases l with l|l|l;.exact⟨λm=>(N k m).2.1 l,λm=>(aB k (.inr m)).2.1 l⟩
     .have x:=aP.out k l;exact⟨λm=>by have:=aT k m;omega,x.2⟩
     .exact⟨λm=>(N k m).2.2 l,λm=>(aB k (.inr m)).2.2 l⟩
    .rcases bI k l with x|x|x;.exact .inl x
     .have:=(aP k x).1;exact .inr (by omega)
     .have az:ao.heap.size<=k:=x;exact .inr (by omega)
    .rcases bI k aV with x|x|x;.exact(aB k l).2.1 x
     .have az:=aP.out k x;rcases l with l|l;.have:=aT k l;omega
      .exact az.2 l
     .have az:ao.heap.size<=k:=x;rcases l with l|l;.have:=aT k l;omega
      .have:=aj.disk.lt k l;omega
    .rcases l with l|l|l;.exact .inl (.inr (.inl l))
     .have:=(aP k l).1;exact .inr (by omega)
     .exact .inl (.inr (.inr l))
   .obtain⟨bC,a2⟩:=b7.no m;cases bC;subst a2;have c6:(be !=0)=true:=by simpa using m
    clear m;go_wp2;go_ret
    exact⟨rfl,⟨_,a4,b,bH,vs,vD M w w0.drew L Z X bo t h bd D am S Y bv ax V ac n bs hbs bQ (ly W) aj av bE (λ_=>False) ar fE,a0,by omega,bO,λk l=>.inl l,aB⟩,
     (bz.mono (λk l=>.inl (l.elim (n.sX k) (λe=>by rw [e];exact av.1)))).trans ar fE⟩
end law
end Go.Proofs.YtcoengihaobddaaGreatDoor

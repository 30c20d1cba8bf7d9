/- Part 13 of 36 of a proof: Book6, Call1 -/
import Derived.Test.YtcoengihaobddaaGreatDoorJc12
set_option maxHeartbeats 8000000
set_option linter.unusedVariables false
set_option linter.unusedSimpArgs false
set_option maxRecDepth 8000
namespace Go.Proofs.YtcoengihaobddaaGreatDoor
namespace law
open Go.ChangeShapes Go.WideShapes Go.ChangeAt Go.RowKit disk ref book
open keys (zh ze zy zs)
variable {q g b4 m:Nat}{w:World}{P:Nat->Prop}{ss:List (Option Addr×Nat×Nat)}{a:Option Addr}
def fD(q m:Nat):List Value:=(List.replicate m (yv q)).flatten
def GO(W w:World)(X:Value)(n g c m:Nat):Prop:=(X=.slice (some ⟨g,0,none⟩) n c/\m<=c)\/(W.heap.size<=g/\∃cur,w.heap[g]? =some (.cells cur 94 (0,0))/\m*4<=cur.size)
structure GP (W:World) (X:Value) (n:Nat) (xs:List Value) (q:Nat) (L:Nat->Bool) (x:Nat->Value) (w:World):Prop where
 mv:∀i,(i=0\/i=1\/i=5\/i=10)->L i=true->x i=X
 ld:∀i,(i=2\/i=6\/i=7\/i=11\/i=12\/i=13)->L i=true->x i=.agg (yv q).toArray
 bs:∀i m,((i=3/\m=1)\/(i=8/\m=2)\/(i=14/\m=3))->L i=true->∃b,x i=.slice (some ⟨b,0,none⟩) m m/\W.heap.size<=b/\w.heap[b]? =some (.cells (fD q m).toArray 94 (0,0))
 ap:∀i m,((i=4/\m=1)\/(i=9/\m=2)\/(i=15/\m=3))->L i=true->∃g c,x i=.slice (some ⟨g,0,none⟩) (n+m) c/\GO W w X n g c (n+m)
 fin:L 16=true->L 4=true/\L 9=true/\L 15=true/\∃b,x 16=.slice (some ⟨b,0,none⟩) 4 4/\W.heap.size<=b/\w.heap[b]? =some (.cells #[X,x 4,x 9,x 15] 44 (0,0))
 asg:L 17=true->L 16=true/\x 17=x 16
 row:w.ownsRow 0 94 4 X n xs
 kept:za (λk=>X.ownBlock=some k) W w
theorem GP.step{W:World}{X:Value}{n:Nat}{u:List Value}{L:Nat->Bool}{x:Nat->Value}(h:GP W X n u q L x w)(i:Nat)(F:L i=false)(v:Value)(w':World)(B:za (λk=>X.ownBlock=some k) w w')(z:w'.ownsRow 0 94 4 X n u)(A:∀k,X.ownBlock=some k->k<W.heap.size)
 (hmv:(i=0\/i=1\/i=5\/i=10)->v=X:=by intros;omega)
 (hld:(i=2\/i=6\/i=7\/i=11\/i=12\/i=13)->v=.agg (yv q).toArray:=by intros;omega)
 (hbs:∀m,((i=3/\m=1)\/(i=8/\m=2)\/(i=14/\m=3))->∃b,v=.slice (some ⟨b,0,none⟩) m m/\W.heap.size<=b/\w'.heap[b]? =some (.cells (fD q m).toArray 94 (0,0)):=by intros;omega)
 (hap:∀m,((i=4/\m=1)\/(i=9/\m=2)\/(i=15/\m=3))->∃g c,v=.slice (some ⟨g,0,none⟩) (n+m) c/\GO W w' X n g c (n+m):=by intros;omega)
 (hfin:i=16->L 4=true/\L 9=true/\L 15=true/\∃b,v=.slice (some ⟨b,0,none⟩) 4 4/\W.heap.size<=b/\w'.heap[b]? =some (.cells #[X,x 4,x 9,x 15] 44 (0,0)):=by intros;omega)
 (hasg:i=17->L 16=true/\v=x 16:=by intros;omega):GP W X n u q (λj=>decide (j=i)||L j) (λj=>if j=i then v else x j) w':=by
 have o:∀j,¬j=i->(decide (j=i)||L j)=true->L j=true:=λj a f=>by simpa [a] using f
 have r:∀(b:Nat) (E:Obj),W.heap.size<=b->w.heap[b]? =some E->w'.heap[b]? =some E:=λb E H D=>(B.block b (lT D) (λG=>by have:=A b G;omega)).trans D;have t:∀j,L j=true->¬j=i:=λj a e=>by rw [e,F] at a;cases a
 refine⟨λj a f=>?_,λj a f=>?_,λj m a f=>?_,λj m a f=>?_,λf=>?_,λf=>?_,z,h.kept.trans B iL⟩
 .by_cases e:j=i;.subst e;simpa using hmv a
  .simpa [e] using h.mv j a (o j e f)
 .by_cases e:j=i;.subst e;simpa using hld a
  .simpa [e] using h.ld j a (o j e f)
 .by_cases e:j=i;.subst e;simpa using hbs m a
  .obtain⟨b,d,h2,l⟩:=h.bs j m a (o j e f);exact⟨b,by simpa [e] using d,h2,r b _ h2 l⟩
 .by_cases e:j=i;.subst e;simpa using hap m a
  .obtain⟨g,c,d,h2⟩:=h.ap j m a (o j e f);refine⟨g,c,by simpa [e] using d,h2.imp id (λl=>⟨l.1,?_⟩)⟩;obtain⟨C,s,p⟩:=l.2;exact⟨C,r g _ l.1 s,p⟩
 .by_cases e:16=i
  .subst e;obtain⟨d,h2,l,b,s,p,y⟩:=hfin rfl;exact⟨by simp [d],by simp [h2],by simp [l],b,by simpa using s,p,by simpa using y⟩
  .obtain⟨d,h2,l,b,s,p,y⟩:=h.fin (o 16 e f);refine⟨by simp [d],by simp [h2],by simp [l],b,by simpa [e] using s,p,?_⟩;rw [aw (t 4 d),aw (t 9 h2),aw (t 15 l)];exact r b _ p y
 .by_cases e:17=i
  .subst e;obtain⟨d,h2⟩:=hasg rfl;exact⟨by simp [d],by simpa using h2⟩
  .obtain⟨d,h2⟩:=h.asg (o 17 e f);exact⟨by simp [d],by rw [aw e,aw (t 16 d)];exact h2⟩
structure VL (w:World) (P:Nat->Prop) (g b4 q:Nat) (ss:List (Option Addr×Nat×Nat)):Prop where
 head:w.heap[g]? =some (.cells (ss.map gy).toArray 44 (0,0))
 room:∀s∈ss,s.2.1=0\/∃b cur,s.1=some ⟨b,0,none⟩/\P b/\w.heap[b]? =some (.cells cur 94 (0,0))/\s.2.1*4<=cur.size
 mine:w.heap[b4]? =some (.cells (yv q).toArray 94 (0,0))
 gP:¬P g
 bP:¬P b4
 few:∀s∈ss,s.2.1<=2000
theorem VL.set(h:VL w P g b4 q ss)(b j:Nat)(v:Value)(i:P b):VL (w.setCell ⟨b,j,none⟩ v) P g b4 q ss:=
 ⟨(ir w ⟨b,j,none⟩ g v (λe=>h.gP (by rw [e];exact i))).trans h.head,λs l=>by
   rcases h.room s l with k|⟨b',a,d,h2,f,c⟩;.exact .inl k
   .by_cases e:b'=b
    .subst e;exact .inr ⟨b',_,d,h2,heap_setCell_same w b' j _ _ _ f,by simpa using c⟩
    .exact .inr ⟨b',a,d,h2,(ir w ⟨b,j,none⟩ b' v e).trans f,c⟩,(ir w ⟨b,j,none⟩ b4 v (λe=>h.bP (by rw [e];exact i))).trans h.mine,h.gP,h.bP,h.few⟩
theorem VL.drew(h:VL w P g b4 q ss):VL w.drew P g b4 q ss:=⟨h.head,h.room,h.mine,h.gP,h.bP,h.few⟩
theorem VL.cell(h:VL w P g b4 q ss)(i:Nat)(a:i<ss.length):w.cell? ⟨g,i,none⟩=some (.slice ss[i].1 ss[i].2.1 ss[i].2.2):=by
 rw [aG w g i _ _ _ h.head];simp [a,gy]
def xt(w:World)(q:Nat)(a:Option Addr)(m:Nat):Prop:=∀j,j<m->∀b,a=some ⟨b,0,none⟩->w.rangeAt b (j*4) (yv q)
theorem ZK{t:Nat}{v:Value}(h:(yv q)[t]? =some v):t<4:=(et.1 h).1
theorem xt.set(h:xt w q a m)(b i t:Nat)(v:Value)(f:(yv q)[t]? =some v):xt (w.setCell ⟨b,i*4+t,none⟩ v) q a m:=by
 intro j g b' d s u c;rw [zM (h j g b' d s u c)];split
 .rename_i e
  have k:=ZK f;have h2:=ZK c;obtain rfl:s=t:=by omega
  rw [f] at c;exact c
 .rfl
theorem xt.drew(h:xt w q a m):xt w.drew q a m:=h
def wr4(w:World)(b i q:Nat):World:=(((w.setCell ⟨b,i*4,none⟩ (.string fx)).setCell ⟨b,i*4+1,none⟩ (.int .i64 (q:Int))).setCell ⟨b,i*4+2,none⟩ (.bool false)).setCell ⟨b,i*4+3,none⟩ (.int .i64 0)
theorem VL.wr4(h:VL w P g b4 q ss)(b i:Nat)(a:P b):VL (wr4 w b i q) P g b4 q ss:=(((h.set b _ _ a).set b _ _ a).set b _ _ a).set b _ _ a
theorem xt.wr4(h:xt w q a m)(b i:Nat):xt (wr4 w b i q) q a m:=(((h.set b i 0 _ rfl).set b i 1 _ rfl).set b i 2 _ rfl).set b i 3 _ rfl
theorem za.wr4(b i q:Nat)(a:P b):za P w (wr4 w b i q):=(((za.setCell w ⟨b,i*4,none⟩ _ a).trans (za.setCell _ ⟨b,i*4+1,none⟩ _ a) iL).trans (za.setCell _ ⟨b,i*4+2,none⟩ _ a) iL).trans (za.setCell _ ⟨b,i*4+3,none⟩ _ a) iL
theorem Vv{b i:Nat}{u0 u1 u2 u3:Value}(e:w.cell? ⟨b,i*4,none⟩=some u0)(d:w.cell? ⟨b,i*4+1,none⟩=some u1)(h2:w.cell? ⟨b,i*4+2,none⟩=some u2)(f:w.cell? ⟨b,i*4+3,none⟩=some u3):(wr4 w b i q).rangeAt b (i*4) (yv q):=by
 intro t v a;have g:=ZK a;unfold law.wr4;rcases (by omega:t=0\/t=1\/t=2\/t=3) with rfl|rfl|rfl|rfl
 .have c:w.cell? ⟨b,i*4+0,none⟩=some u0:=e;rw [zM (zM (zM (zM c)))];simpa [yv] using a
 .rw [zM (zM (zM (zM d)))];simpa [yv] using a
 .rw [zM (zM (zM (zM h2)))];simpa [yv] using a
 .rw [zM (zM (zM (zM f)))];simpa [yv] using a
theorem VL.vets(h:VL w P g b4 q ss)(k:ss.length<=100)(e:∀i (d:i<ss.length),xt w q ss[i].1 ss[i].2.1):Qr w P g ss q:=by
 refine⟨h.head,λs a j f=>?_,λs a=>by have:=h.few s a;omega,k⟩;rcases h.room s a with o|⟨b,m,c,h2,l,n⟩;.omega
 .obtain⟨i,d,rfl⟩:=ed a;exact⟨b,c,h2,(lT l),e i d j f b c⟩
theorem GP.vl{W:World}{j:Option Addr}{n i:Nat}{P:List Value}{L:Nat->Bool}{x:Nat->Value}{f:World}{t y u A v w z:Nat}(h:GP W (.slice j n i) n P q L x f)(o:∀k,(Value.slice j n i).ownBlock=some k->k<b4)(M:b4<W.heap.size)(R:W.heap[b4]? =some (.cells (yv q).toArray 94 (0,0)))(U:n<=1000)
 (T:W.heap.size<=t) (G:f.heap[t]? =some (.cells #[.slice j n i,.slice (some ⟨y,0,none⟩) (n+1) v,.slice (some ⟨u,0,none⟩) (n+2) w,.slice (some ⟨A,0,none⟩) (n+3) z] 44 (0,0))) (J:GO W f (.slice j n i) n y v (n+1)) (Q:GO W f (.slice j n i) n u w (n+2)) (I:GO W f (.slice j n i) n A z (n+3)):
 VL f (λk=>(Value.slice j n i).ownBlock=some k\/(W.heap.size<=k/\k≠t/\k<f.heap.size)) t b4 q [(j,n,i),(some ⟨y,0,none⟩,n+1,v),(some ⟨u,0,none⟩,n+2,w),(some ⟨A,0,none⟩,n+3,z)]:=by
 have D:∀g c m,GO W f (.slice j n i) n g c m->∃b a,(some (⟨g,0,none⟩:Addr))=some ⟨b,0,none⟩/\((Value.slice j n i).ownBlock=some b\/(W.heap.size<=b/\b≠t/\b<f.heap.size))/\f.heap[b]? =some (.cells a 94 (0,0))/\m*4<=a.size:=λg c m O=>by
  rcases O with⟨e,h2⟩|⟨C,a,h2,E⟩
  .rcases h.row.2 with⟨K,_⟩|⟨H,B,a,l,_,p,E,N,S,_⟩;.rw [K] at e;cases e
   .rw [l] at e;cases e;exact⟨g,a,rfl,.inl (by rw [l];rfl),p,by omega⟩
  .refine⟨g,a,rfl,.inr ⟨C,λe=>?_,(lT h2)⟩,h2,E⟩;rw [e,G] at h2;simp at h2
 refine⟨G,λs r=>?_,(h.kept.block _ M (λd=>by have:=o _ d;omega)).trans R,λd=>?_,λd=>?_,λs r=>?_⟩
 .simp only [ar,ic,or_false] at r;rcases r with rfl|rfl|rfl|rfl
  .rcases h.row.2 with⟨_,C⟩|⟨H,B,a,l,_,p,E,N,S,_⟩;.exact .inl C
   .have F:=l;cases l;exact .inr ⟨H,a,rfl,.inl (by rw [F];rfl),p,by show n*4<=a.size;omega⟩
  .exact .inr (D y v _ J)
  .exact .inr (D u w _ Q)
  .exact .inr (D A z _ I)
 .rcases d with d|d;.have:=o _ d;omega
  .exact d.2.1 rfl
 .rcases d with d|d;.have:=o _ d;omega
  .omega
 .simp only [ar,ic,or_false] at r;rcases r with rfl|rfl|rfl|rfl<;>simp<;>omega
theorem Tryz.infoRows:(Tryz.prog.info? 129).map (λi=>(i.zero,i.size,i.bytes))=some (some (.slice none 0 0),1,24):=by kernel_rfl
theorem Tryz.infoVe:(Tryz.prog.info? 94).map (λi=>(i.zero,i.size,i.bytes))=some (some (.agg #[.string ⟨#[]⟩,.int .i64 0,.bool false,.int .i64 0]),4,40):=by kernel_rfl
theorem jh(w:World)(v:Nat)(l:Value)(F bH S:Nat->Prop)(a b:Option Addr)(bl aQ:Nat)(bo vs:List xZ)(h:xx w v l F bH a b bl aQ bo vs)(bW:vs.length<=2199023255552)
 (A:Option Addr) (n z:Nat) (ay:List Value) (bg:w.ownsRow 0 94 4 (.slice A n z) n ay) (bU:n<=1000) (aC:∀k,(Value.slice A n z).ownBlock=some k->S k) (al:∀k,S k->¬F k/\¬bH k/\k≠v):
 Calls Tryz.prog 110 #[.pointer (some ⟨v,1,none⟩),.slice A n z] w λe w'=>e=.returned (.tuple #[])/\
  (∃b' bf aS bx,xx w' v l F bx a b' bl bf bo aS/\aS.length=vs.length+1/\∀k,bx k->bH k\/S k\/w.heap.size<=k)/\za (λk=>bH k\/S k\/k=v) w w':=by
 have aO:Hid _:=h;have bF:Hid (w.ownsRow 0 94 4 (.slice A n z) n ay):=bg;have bZ:=h.head.c.2.2.1;have b3:=h.head.lt;obtain⟨ah,Y,V,Z,J⟩:=yy Tryz.infoVe;have s:Hid (Tryz.prog.info? 94=some ah/\ah.zero=some (.agg #[.string ⟨#[]⟩,.int .i64 0,.bool false,.int .i64 0])/\ah.size=4/\ah.bytes=40):=⟨Y,V,Z,J⟩;clear Y V Z J;obtain⟨aE,Y,V,Z,J⟩:=yy Tryz.infoRows;have aw:Hid (Tryz.prog.info? 129=some aE/\aE.zero=some (.slice none 0 0)/\aE.size=1/\aE.bytes=24):=⟨Y,V,Z,J⟩;clear Y V Z J h bg;have ak:Hid (∀k,(Value.slice A n z).ownBlock=some k->k<w.heap.size):=λk ax=>(bF.lt k ax).2;go_enter Tryz.func110,Tryz.ntmps110;go_wp2_with fail;obtain⟨W,aM⟩:∃W,W=w.alloc (.cells #[.string fx,.int .i64 (vs.length:Int),.bool false,.int .i64 0] 94):=⟨_,rfl⟩;have a6:za (λ_=>False) w W:=by rw [aM];exact za.alloc _ _ _
 have cc:W.heap.size=w.heap.size+1:=by rw [aM];simp
 have bb:W.heap[w.heap.size]? =some (.cells (yv vs.length).toArray 94 (0,0)):=by rw [aM];exact ac w _
 have B:Hid (∀k,(Value.slice A n z).ownBlock=some k->k<W.heap.size):=λk ax=>by have:=ak.out k ax;omega
 have C:∀g,za (λk=>(Value.slice A n z).ownBlock=some k) W g->∀j u,(yv vs.length)[j]? =some u->g.cell? ⟨w.heap.size,j,none⟩=some u:=λg ax j u bR=>by rw [aG g _ j _ _ _ ((ax.block _ (by omega) (λy=>by have:=ak.out _ y;omega)).trans bb)];simpa using bR
 have a2:=a6.owns bF nF;rw [show w.alloc (.cells #[.string ⟨#[40,109,105,110,101,41]⟩,.int .i64 (vs.length:Int),.bool false,.int .i64 0] 94)=W from aM.symm];change Hid _ at a6;clear aM;refine xj (by kernel_rfl) (by kernel_rfl) (λL a8 g=>∃x:Nat->Value,a8={tmps:=#[.pointer (some ⟨v,1,none⟩),.slice A n z,undef,undef,.pointer (some ⟨w.heap.size,0,none⟩),x 17,undef,undef,.pointer (some ⟨v,1,none⟩),.pointer (some ⟨v,1,none⟩),.pointer (some ⟨v,2,none⟩),.slice b vs.length aQ,.int .i64 (vs.length:Int),.agg #[.string fx,.int .i64 (vs.length:Int),.bool false,.int .i64 0],x 0,x 1,x 2,x 3,x 4,x 5,x 6,x 7,x 8,x 9,x 10,x 11,x 12,x 13,x 14,x 15,x 16,undef,undef,undef,undef,undef,undef,undef,undef,undef,undef,undef,undef,undef,undef,undef,undef,undef,undef,undef,undef,undef,undef,undef,undef,undef,undef,undef,undef,undef,undef,undef,undef],defers:=[]}/\GP W (.slice A n z) n ay vs.length L x g) ?_ ?_ ?_;.exact⟨λ_=>undef,rfl,⟨λ_ _ h=>(by cases h),λ_ _ h=>(by cases h),λ_ _ _ h=>(by cases h),λ_ _ _ h=>(by cases h),λh=>(by cases h),λh=>(by cases h),(za.drew (λ_=>False) W).owns a2 nF,za.drew _ W⟩⟩
 .rintro L a8 g i co bd O d ⟨x,rfl,c⟩;have H:i<18:=(lT bd);rcases (by omega:(i=0\/i=1\/i=5\/i=10)\/(i=2\/i=6\/i=7\/i=11\/i=12\/i=13)\/i=3\/i=4\/i=8\/i=9\/i=14\/i=15\/i=16\/i=17) with(rfl|rfl|rfl|rfl)|(rfl|rfl|rfl|rfl|rfl|rfl)|rfl|rfl|rfl|rfl|rfl|rfl|rfl|rfl;all_goals (have bp:=eG bd;subst bp)
  iterate 4
   .refine wpOp_step rfl (λT q=>?_);go_simp;exact q _ _ ⟨_,(by simp),c.step _ O (.slice A n z) _ (za.refl _ _) c.row B (hmv:=λ_=>rfl)⟩
  iterate 6
   .have ck:=C g c.kept 0 _ rfl;have bm:=C g c.kept 1 _ rfl;have K:=C g c.kept 2 _ rfl;have bn:=C g c.kept 3 _ rfl;refine wpOp_step rfl (λT q=>?_);go_simp;exact q _ _ ⟨_,(by simp [yv]),c.step _ O (.agg (yv vs.length).toArray) _ (za.refl _ _) c.row B (hld:=λ_=>rfl)⟩
  .have aA:=c.ld 2 (by omega) (d ⟨2,.data⟩ (by simp) rfl);refine wpOp_step rfl (λT q=>?_);simp only [aA,yv];go_simp;exact q _ _ ⟨λj=>if j=3 then .slice (some ⟨g.heap.size,0,none⟩) 1 1 else x j,by simp [aA,yv],c.step 3 O _ _ (za.alloc _ _ _) (c.row.alloc _) B (hbs:=λm h=>by obtain rfl:m=1:=(by omega);exact⟨_,rfl,c.kept.size,ac g _⟩)⟩
  .have U:=c.mv 1 (by omega) (d ⟨1,.data⟩ (by simp) rfl);obtain⟨aD,ab,aW,ad⟩:=c.bs 3 1 (by omega) (d ⟨3,.data⟩ (by simp) rfl);refine wpOp_step rfl (λT q=>?_);refine xC rfl (.tmp 15) (.tmp 17) 44 rfl 94 ah _ 4 40 Tryz.underlying44 s.1 s.2.1 s.2.2.1 s.2.2.2 rfl (.slice A n z) n ay U c.row ⟨aD,0,none⟩ 1 1 (fD vs.length 1) ab rfl (World.news_of_block ad) (by simp [fD,yv,Value.oneCell']) (by omega) (by unfold maxLen;omega) (by omega) ?_;intro r bE o;obtain⟨M,K,rfl,aN⟩:=o.form;exact q _ _ ⟨λj=>if j=4 then .slice (some ⟨M,0,none⟩) (n+1) K else x j,by simp [Act.put],c.step 4 O _ _ o.kept o.keeps B (hap:=λm h=>by obtain rfl:m=1:=(by omega);exact⟨M,K,rfl,aN.imp id (λh=>⟨by have:=c.kept.size;omega,h.2⟩)⟩)⟩
  .have bk:=c.ld 6 (by omega) (d ⟨6,.data⟩ (by simp) rfl);have bi:=c.ld 7 (by omega) (d ⟨7,.data⟩ (by simp) rfl);refine wpOp_step rfl (λT q=>?_);simp only [bk,bi,yv];go_simp;exact q _ _ ⟨λj=>if j=8 then .slice (some ⟨g.heap.size,0,none⟩) 2 2 else x j,by simp [bk,bi,yv],c.step 8 O _ _ (za.alloc _ _ _) (c.row.alloc _) B (hbs:=λm h=>by obtain rfl:m=2:=(by omega);exact⟨_,rfl,c.kept.size,ac g _⟩)⟩
  .have U:=c.mv 5 (by omega) (d ⟨5,.data⟩ (by simp) rfl);obtain⟨aD,ab,aW,ad⟩:=c.bs 8 2 (by omega) (d ⟨8,.data⟩ (by simp) rfl);refine wpOp_step rfl (λT q=>?_);refine xC rfl (.tmp 19) (.tmp 22) 44 rfl 94 ah _ 4 40 Tryz.underlying44 s.1 s.2.1 s.2.2.1 s.2.2.2 rfl (.slice A n z) n ay U c.row ⟨aD,0,none⟩ 2 2 (fD vs.length 2) ab rfl (World.news_of_block ad) (by simp [fD,yv,Value.oneCell']) (by omega) (by unfold maxLen;omega) (by omega) ?_;intro r bE o;obtain⟨M,K,rfl,aN⟩:=o.form;exact q _ _ ⟨λj=>if j=9 then .slice (some ⟨M,0,none⟩) (n+2) K else x j,by simp [Act.put],c.step 9 O _ _ o.kept o.keeps B (hap:=λm h=>by obtain rfl:m=2:=(by omega);exact⟨M,K,rfl,aN.imp id (λh=>⟨by have:=c.kept.size;omega,h.2⟩)⟩)⟩
  .have a0:=c.ld 11 (by omega) (d ⟨11,.data⟩ (by simp) rfl);have aY:=c.ld 12 (by omega) (d ⟨12,.data⟩ (by simp) rfl);have aR:=c.ld 13 (by omega) (d ⟨13,.data⟩ (by simp) rfl);refine wpOp_step rfl (λT q=>?_);simp only [a0,aY,aR,yv];go_simp;exact q _ _ ⟨λj=>if j=14 then .slice (some ⟨g.heap.size,0,none⟩) 3 3 else x j,by simp [a0,aY,aR,yv],c.step 14 O _ _ (za.alloc _ _ _) (c.row.alloc _) B (hbs:=λm h=>by obtain rfl:m=3:=(by omega);exact⟨_,rfl,c.kept.size,ac g _⟩)⟩
  .have U:=c.mv 10 (by omega) (d ⟨10,.data⟩ (by simp) rfl);obtain⟨aD,ab,aW,ad⟩:=c.bs 14 3 (by omega) (d ⟨14,.data⟩ (by simp) rfl);refine wpOp_step rfl (λT q=>?_);refine xC rfl (.tmp 24) (.tmp 28) 44 rfl 94 ah _ 4 40 Tryz.underlying44 s.1 s.2.1 s.2.2.1 s.2.2.2 rfl (.slice A n z) n ay U c.row ⟨aD,0,none⟩ 3 3 (fD vs.length 3) ab rfl (World.news_of_block ad) (by simp [fD,yv,Value.oneCell']) (by omega) (by unfold maxLen;omega) (by omega) ?_;intro r bE o;obtain⟨M,K,rfl,aN⟩:=o.form;exact q _ _ ⟨λj=>if j=15 then .slice (some ⟨M,0,none⟩) (n+3) K else x j,by simp [Act.put],c.step 15 O _ _ o.kept o.keeps B (hap:=λm h=>by obtain rfl:m=3:=(by omega);exact⟨M,K,rfl,aN.imp id (λh=>⟨by have:=c.kept.size;omega,h.2⟩)⟩)⟩
  .have bq:=d ⟨4,.data⟩ (by simp) rfl;have bs:=d ⟨9,.data⟩ (by simp) rfl;have a5:=d ⟨15,.data⟩ (by simp) rfl;have bc:=c.mv 0 (by omega) (d ⟨0,.data⟩ (by simp) rfl);obtain⟨bA,k1,aB,_⟩:=c.ap 4 1 (by omega) bq;obtain⟨M,k2,az,_⟩:=c.ap 9 2 (by omega) bs;obtain⟨bu,k3,Q,_⟩:=c.ap 15 3 (by omega) a5;refine wpOp_step rfl (λT q=>?_);simp only [bc,aB,az,Q];go_simp;exact q _ _ ⟨λj=>if j=16 then .slice (some ⟨g.heap.size,0,none⟩) 4 4 else x j,by simp [bc,aB,az,Q],c.step 16 O _ _ (za.alloc _ _ _) (c.row.alloc _) B (hfin:=λ_=>⟨bq,bs,a5,g.heap.size,rfl,c.kept.size,by rw [aB,az,Q];exact ac g _⟩)⟩
  .have be:=d ⟨16,.data⟩ (by simp) rfl;refine wpOp_step rfl (λT q=>?_);go_simp;exact q _ _ ⟨λj=>if j=17 then x 16 else x j,by simp,c.step 17 O _ _ (za.refl _ _) c.row B (hasg:=λ_=>⟨be,rfl⟩)⟩
 .rintro L a8 g G ⟨x,rfl,c⟩;obtain⟨_,_,_,N,aU,bD,av⟩:=c.fin (G 16 (by decide));have a4:=(c.asg (G 17 (by decide))).2;obtain⟨bA,bm,aB,bz⟩:=c.ap 4 1 (by omega) (G 4 (by decide));obtain⟨M,K,az,bB⟩:=c.ap 9 2 (by omega) (G 9 (by decide));obtain⟨bu,bn,Q,bt⟩:=c.ap 15 3 (by omega) (G 15 (by decide));rw [aB,az,Q] at av;have aL:=c.vl (b4:=w.heap.size) ak (by omega) bb bU bD av bz bB bt;rw [a4,aU];obtain⟨P,aI⟩:∃P:Nat->Prop,P=λk=>(Value.slice A n z).ownBlock=some k\/(W.heap.size<=k/\k≠N/\k<g.heap.size):=⟨_,rfl⟩;obtain⟨ss,aH⟩:∃ss:List (Option Addr×Nat×Nat),ss=[(A,n,z),(some ⟨bA,0,none⟩,n+1,bm),(some ⟨M,0,none⟩,n+2,K),(some ⟨bu,0,none⟩,n+3,bn)]:=⟨_,rfl⟩;rw [<-aI,<-aH] at aL;have ar:Hid (ss.length=4):=(by rw [aH];rfl);have br:Hid _:=c.kept;have bG:=(lT av);change Hid _ at aI aL;clear c av bz bB bt aB az Q aU a4 aH C a2 bb G;go_wp2_with fail;go_loopw [6] (λt wr=>∃k:Nat,k<=4/\t=.int .i64 k/\VL wr P N w.heap.size vs.length ss/\(∀i (H:i<ss.length),i<k->xt wr vs.length ss[i].1 ss[i].2.1)/\za P g wr) (λt _=>4-(intOf t).toNat)
  case atStart=>exact⟨0,aj _,rfl,aL,λ_ _ h=>by omega,za.refl _ _⟩
  case round=>
   obtain⟨k,ax,rfl,a9,ba,am⟩:=hrel;have a7:Hid (za P g wr):=am;change Hid _ at a9 ba;clear am;by_cases bh:k<4
   .have af:k<ss.length:=by rw [ar.out];exact bh
    have bw:decide ((k:Int)<4)=true:=aJ (by omega);go_wp2;clear bw;have b2:(k:Int)<4:=by omega
    go_loopw [7] (λt aP=>∃m:Nat,m<=ss[k].2.1/\t=.int .i64 m/\VL aP P N w.heap.size vs.length ss/\(∀i (H:i<ss.length),i<k->xt aP vs.length ss[i].1 ss[i].2.1)/\xt aP vs.length ss[k].1 m/\za P g aP) (λt _=>ss[k].2.1-(intOf t).toNat)
    case atStart=>exact⟨0,aj _,rfl,a9,ba,λj f=>by omega,a7⟩
    case round=>
     obtain⟨m,cd,rfl,au,a3,J,X⟩:=hrel;have y:=au.cell k af;have bX:=au.few ss[k] (ai af);have D:Hid (VL wr P N w.heap.size vs.length ss):=au;have aV:Hid (∀i (H:i<ss.length),i<k->xt wr vs.length ss[i].1 ss[i].2.1):=a3;have aT:Hid (xt wr vs.length ss[k].1 m):=J;have aX:Hid (za P g wr):=X;clear au a3 J X;by_cases bV:m<ss[k].2.1
     .rcases D.room ss[k] (ai af) with cl|⟨b',I,ag,h2,R,ci⟩;.omega
      .have u0:wr.cell? ⟨b',m*4,none⟩=some I[m*4]:=by rw [aG wr b' _ _ _ _ R];simp
       have u1:wr.cell? ⟨b',m*4+1,none⟩=some I[m*4+1]:=by rw [aG wr b' _ _ _ _ R];simp
       have u2:wr.cell? ⟨b',m*4+2,none⟩=some I[m*4+2]:=by rw [aG wr b' _ _ _ _ R];simp
       have u3:wr.cell? ⟨b',m*4+3,none⟩=some I[m*4+3]:=by rw [aG wr b' _ _ _ _ R];simp
       have cm:=aa wr b' (m*4) _ _ R;have ch:=aa wr b' (m*4+1) _ _ R;have b9:=aa wr b' (m*4+2) _ _ R;have cn:=aa wr b' (m*4+3) _ _ R;have b8:wr.cell? ⟨w.heap.size,0,none⟩=some (.string fx):=cR D.mine rfl;have ce:wr.cell? ⟨w.heap.size,1,none⟩=some (.int .i64 (vs.length:Int)):=cR D.mine rfl;have cf:wr.cell? ⟨w.heap.size,2,none⟩=some (.bool false):=cR D.mine rfl;have cg:wr.cell? ⟨w.heap.size,3,none⟩=some (.int .i64 0):=cR D.mine rfl;have bC:¬b'=N:=λe=>D.gP (by rw [<-e];exact h2);have aq:¬b'=w.heap.size:=λe=>D.bP (by rw [<-e];exact h2);have bJ:¬N=b':=iw bC;have bK:¬w.heap.size=b':=iw aq;have bT:Hid ((wr4 wr b' m vs.length).rangeAt b' (m*4) (yv vs.length)):=Vv u0 u1 u2 u3;have bI:Hid (ss[k].1=some ⟨b',0,none⟩):=ag;have bv:Hid (P b'):=h2;rw [ag] at y;have bY:(m:Int)<(ss[k].2.1:Int):=by omega
       clear ag h2 R;generalize I[m*4]=ca at*;generalize I[m*4+1]=b7 at*;generalize I[m*4+2]=cj at*;generalize I[m*4+3]=cb at*;go_wp2_with fail;go_region_held3 (λw'=>w'.cell? ⟨N,k,none⟩=some (.slice (some ⟨b',0,none⟩) ss[k].2.1 ss[k].2.2)/\w'.cell? ⟨w.heap.size,0,none⟩=some (.string fx)/\w'.cell? ⟨w.heap.size,1,none⟩=some (.int .i64 (vs.length:Int))/\w'.cell? ⟨w.heap.size,2,none⟩=some (.bool false)/\w'.cell? ⟨w.heap.size,3,none⟩=some (.int .i64 0)) (go_keep) (fail);go_wp2;go_roundw
       case rel=>
        refine⟨m+1,by omega,by go_num,(D.wr4 b' m bv).drew,λi H a1=>((aV i H a1).wr4 b' m).drew,?_,(aX.trans (za.wr4 b' m vs.length bv) iL).trans (za.drew _ _) iL⟩;intro j f bS aq;by_cases aA:j=m
        .subst aA;have ab:=bI.out;rw [aq] at ab;cases ab;exact bT.out
        .exact(aT.wr4 b' m) j (by omega) bS aq
       case measure=>simp [intOf];omega
     .go_wp2;go_roundw
      case rel=>
       refine⟨k+1,by omega,by go_num,D,λi H a1=>?_,aX⟩;by_cases e:i=k
       .subst e;have aA:m=ss[i].2.1:=by omega
        rw [<-aA];exact aT.out
       .exact aV i H (by omega)
      case measure=>simp [intOf];omega
   .have aZ:=a9.vets (by rw [ar.out];omega) (λi H=>ba i H (by have:=ar.out;omega));have ap:∀j,P j->(Value.slice A n z).ownBlock=some j\/(W.heap.size<=j/\j≠N/\j<g.heap.size):=λj f=>by have e:=aI.out;rw [e] at f;exact f
    have aK:=((a6.mono fE).trans br iL).trans a7 (λj f=>(ap j f).imp id (λh=>by omega));have p:=aO.kept aK (λi H y=>(al i (aC i y)).1 H) (λi H y=>(al i (aC i y)).2.1 H) (λy=>(al v (aC v y)).2.2 rfl);have bM:=p.head.c.2.2.1;have bO:=p.head.lt;have b5:¬(k:Int)<4:=by omega
    have b1:=a7.size;change Hid _ at aZ ap p aK;go_wp2_with (refine wpList_append_lies _ rfl (.tmp 57) (.tmp 59) 75 rfl 0 129 aE _ 1 24 Tryz.underlying75 aw.1 aw.2.1 aw.2.2.1 aw.2.2.2 rfl (by omega) (.slice b vs.length aQ) vs.length (vs.map xZ.val) (by rfl) (by exact er p.rows.row _) ⟨wr.heap.size,0,none⟩ 1 1 [.slice (some ⟨N,0,none⟩) 4 4] (by rfl) (by rfl) (by exact World.news_of_block (ac wr _)) (by simp [Value.oneCell']) (by omega) (by unfold maxLen;omega) (by omega) (aj _) (wr.heap.size+1) (by simp) ?_;intro bL bP bj an E ae bQ;have b0:bj.cell? ⟨v,2,none⟩=some (.slice b vs.length aQ):=(E.cell_far ⟨v,2,none⟩ (by simp;omega) (λe=>p.hbp (p.rows.foot2 v e.symm))).trans (by simpa using p.kept (za.alloc (λ_=>False) wr _) nF nF (λaF=>aF) |>.head.c.2.2.1);have b6:bj.frozen? ⟨v,2,none⟩=false:=(E.frozen_far ⟨v,2,none⟩ (by simp;omega) (λe=>p.hbp (p.rows.foot2 v e.symm))).trans (by simpa using p.kept (za.alloc (λ_=>False) wr _) nF nF (λaF=>aF) |>.head.c.2.2.2 2);change Hid _ at an E ae);go_end0
    have ao:=p.pushV (by omega) ⟨N,ss,P⟩ ar aZ.out
     (λj f=>by
      have aF:=aO.flt j;have bN:=aO.hlt j;rcases ap j f with f|f;.have ag:=al j (aC j f);have h2:=ak.out j f;exact⟨ag.1,ag.2.1,ag.2.2,by omega⟩
      .exact⟨λy=>by have:=aF y;omega,λy=>by have:=bN y;omega,by omega,by omega⟩)
     ⟨λy=>by have:=aO.flt _ y;simp only at this;omega,λy=>by have:=aO.hlt _ y;simp only at this;omega,by simp only;omega,by simp only;omega⟩ _ bL bP an E ae.out
    refine⟨rfl,⟨_,_,_,_,ao.1,by simp,λj f=>?_⟩,(aK.mono (λj f=>.inr (.inl (aC j f)))).trans ao.2 (λj f=>?_)⟩
    .rcases f with f|f|f|f;.exact .inl f
     .rcases ap j f with f|f;.exact .inr (.inl (aC j f))
      .exact .inr (.inr (by omega))
     .exact .inr (.inr (by simp only at f;omega))
     .rcases ae.out with U|U;.exact .inl (p.rows.foot2 j (by rw [f];exact U))
      .exact .inr (.inr (by omega))
    .rcases f with f|f;.exact .inl (.inl (p.rows.foot2 j f))
     .exact .inl (.inr (.inr f))
end law
namespace book
open Go.RowKit disk ref
structure Jf (W:World) (ty:TypeId) (Pz:World->Value->Value->Value->World->Prop) (L:Nat->Bool) (x:Nat->Value) (w W1 w2:World) (v0 v1 c:Value):Prop where
 k1:za (λ_=>False) W W1
 post:Pz W1 v0 v1 c w2
 ge:W.heap.size<=w2.heap.size
 x12:x 12=.tuple #[.agg #[v0,v1],c]
 x13:L 13=true->x 13=.tuple #[.agg #[v0,v1],c]
 x14:L 14=true->x 14=.agg #[v0,v1]
 x15:L 15=true->x 15=c
 x18:L 18=true->x 18=c
 no:L 16=false->w=w2/\L 17=false
 yes:L 16=true->∃b,x 16=.pointer (some ⟨b,0,none⟩)/\W.heap.size<=b/\(b<W1.heap.size\/w2.heap.size<=b)/\za (λk=>k=b) w2 w/\∃u0 u1,w.heap[b]? =some (.cells #[u0,u1] ty (0,0))/\(L 17=true->u0=v0/\u1=v1)
structure qX (W:World) (ty:TypeId) (Z:Nat->Value) (Pz:World->Value->Value->Value->World->Prop) (L:Nat->Bool) (x:Nat->Value) (w:World):Prop where
 pv:∀i,i<12->L i=true->x i=Z i
 early:L 12=false->za (λ_=>False) W w/\L 13=false/\L 14=false/\L 15=false/\L 17=false/\L 18=false
 room:L 12=false->L 16=true->∃b,x 16=.pointer (some ⟨b,0,none⟩)/\W.heap.size<=b/\∃u0 u1,w.heap[b]? =some (.cells #[u0,u1] ty (0,0))
 late:L 12=true->∃W1 w2 v0 v1 c,Jf W ty Pz L x w W1 w2 v0 v1 c
 dep:L 12=true->L 3=true/\L 5=true/\L 7=true/\L 9=true/\L 11=true
section
variable {W:World} {ty:TypeId} {Z:Nat->Value} {Pz:World->Value->Value->Value->World->Prop} {L:Nat->Bool} {x:Nat->Value} {w:World}
theorem qX.start(x:Nat->Value):qX W ty Z Pz (λ_=>false) x W.drew:=⟨λ_ _ h=>(by cases h),λ_=>⟨za.drew _ W,rfl,rfl,rfl,rfl,rfl⟩,λ_ h=>(by cases h),λh=>(by cases h),λh=>(by cases h)⟩
theorem qX.l12(h:qX W ty Z Pz L x w){i:Nat}(f:L i=false)(j:i=3\/i=5\/i=7\/i=9\/i=11:=by decide):L 12=false:=by
 cases g:L 12 with
 |false=>rfl
 |true=>
  obtain⟨a,b,c,d,e⟩:=h.dep g;rcases j with rfl|rfl|rfl|rfl|rfl<;>first|cases a.symm.trans f|cases b.symm.trans f|cases c.symm.trans f|cases d.symm.trans f|cases e.symm.trans f
theorem qX.t12(h:qX W ty Z Pz L x w){i:Nat}(d:L i=true)(f:i=13\/i=14\/i=15:=by decide):L 12=true:=by
 cases e:L 12 with
 |true=>rfl
 |false=>
  obtain⟨_,a,b,c,_⟩:=h.early e;rcases f with rfl|rfl|rfl<;>first|cases a.symm.trans d|cases b.symm.trans d|cases c.symm.trans d
theorem qX.pure(h:qX W ty Z Pz L x w)(i:Nat)(n:i<12):qX W ty Z Pz (λj=>decide (j=i)||L j) (λj=>if j=i then Z i else x j) w:=by
 have a:∀j,12<=j->(decide (j=i)||L j)=L j/\(if j=i then Z i else x j)=x j:=λj d=>by
  have:¬j=i:=by omega
  simp [this]
 refine⟨λj d b=>?_,λb=>?_,λf h2=>?_,λb=>?_,λb=>by simp only [(a 12 (by omega)).1] at b;simp [h.dep b]⟩
 .by_cases e:j=i;.subst e;simp
  .simp only [e,if_false];exact h.pv j d (by simpa [e] using b)
 .simp only [(a 12 (by omega)).1,(a 13 (by omega)).1,(a 14 (by omega)).1,(a 15 (by omega)).1,(a 17 (by omega)).1,(a 18 (by omega)).1] at b ⊢;exact h.early b
 .simp only [(a 12 (by omega)).1,(a 16 (by omega)).1,(a 16 (by omega)).2] at f h2 ⊢;exact h.room f h2
 .simp only [(a 12 (by omega)).1] at b;obtain⟨m,l,k,g,c,q⟩:=h.late b;refine⟨m,l,k,g,c,q.k1,q.post,q.ge,?_,?_,?_,?_,?_,?_,?_⟩<;>simp only [(a 12 (by omega)).2,(a 13 (by omega)).1,(a 13 (by omega)).2,(a 14 (by omega)).1,(a 14 (by omega)).2,(a 15 (by omega)).1,(a 15 (by omega)).2,(a 16 (by omega)).1,(a 16 (by omega)).2,(a 17 (by omega)).1,(a 18 (by omega)).1,(a 18 (by omega)).2]
  .exact q.x12
  .exact q.x13
  .exact q.x14
  .exact q.x15
  .exact q.x18
  .exact q.no
  .exact q.yes
theorem qX.call(h:qX W ty Z Pz L x w)(a:L 12=false)(m l c:Value)(d:World)(T:Nat->Prop)(z:∀k,T k->k<W.heap.size)(r:za T w d)(u:Pz w m l c d)(v:L 3=true/\L 5=true/\L 7=true/\L 9=true/\L 11=true):qX W ty Z Pz (λj=>decide (j=12)||L j) (λj=>if j=12 then .tuple #[.agg #[m,l],c] else x j) d:=by
 obtain⟨k0,q,s,n,f,t⟩:=h.early a;refine⟨λj y a=>?_,λa=>?_,λi=>?_,λ_=>⟨w,d,m,l,c,k0,u,aD k0.size r.size,?_,?_,?_,?_,?_,?_,?_⟩,λ_=>by simp [v]⟩
 .have e:¬j=12:=by omega
  simp only [e,if_false];exact h.pv j y (by simpa [e] using a)
 .simp at a
 .simp at i
 .simp
 .simp [q]
 .simp [s]
 .simp [n]
 .simp [t]
 .intro g;simp [f]
 .intro g;obtain⟨b,i,h2,u0,u1,o⟩:=h.room a (by simpa using g);have p:=(lT o);exact⟨b,by simpa using i,h2,.inl p,za.refl _ _,u0,u1,(r.block b p (λA=>by have:=z b A;omega)).trans o,by simp [f]⟩
theorem qX.part13(h:qX W ty Z Pz L x w)(a:L 12=true)(l:L 13=false):qX W ty Z Pz (λj=>decide (j=13)||L j) (λj=>if j=13 then x 12 else x j) w:=by
 obtain⟨k,i,g,f,c,q⟩:=h.late a;refine⟨λj d a=>?_,λb=>?_,λb=>?_,λ_=>⟨k,i,g,f,c,q.k1,q.post,q.ge,?_,?_,?_,?_,?_,?_,?_⟩,λ_=>by simp [h.dep a]⟩
 .have e:¬j=13:=by omega
  simp only [e,if_false];exact h.pv j d (by simpa [e] using a)
 .simp [a] at b
 .simp [a] at b
 .simpa using q.x12
 .simpa using q.x12
 .simpa using q.x14
 .simpa using q.x15
 .simpa using q.x18
 .simpa using q.no
 .simpa using q.yes
theorem qX.part14(h:qX W ty Z Pz L x w)(a:L 12=true)(v:Value)(m:∀g f d b c,Jf W ty Pz L x w g f d b c->v=.agg #[d,b]):qX W ty Z Pz (λj=>decide (j=14)||L j) (λj=>if j=14 then v else x j) w:=by
 obtain⟨g,f,d,b,c,q⟩:=h.late a;have k:=m g f d b c q;refine⟨λj l a=>?_,λi=>?_,λi=>?_,λ_=>⟨g,f,d,b,c,q.k1,q.post,q.ge,?_,?_,?_,?_,?_,?_,?_⟩,λ_=>by simp [h.dep a]⟩
 .have e:¬j=14:=by omega
  simp only [e,if_false];exact h.pv j l (by simpa [e] using a)
 .simp [a] at i
 .simp [a] at i
 .simpa using q.x12
 .simpa using q.x13
 .simpa using k
 .simpa using q.x15
 .simpa using q.x18
 .simpa using q.no
 .simpa using q.yes
theorem qX.part15(h:qX W ty Z Pz L x w)(a:L 12=true)(v:Value)(m:∀g f d b c,Jf W ty Pz L x w g f d b c->v=c):qX W ty Z Pz (λj=>decide (j=15)||L j) (λj=>if j=15 then v else x j) w:=by
 obtain⟨g,f,d,b,c,q⟩:=h.late a;have k:=m g f d b c q;refine⟨λj l a=>?_,λi=>?_,λi=>?_,λ_=>⟨g,f,d,b,c,q.k1,q.post,q.ge,?_,?_,?_,?_,?_,?_,?_⟩,λ_=>by simp [h.dep a]⟩
 .have e:¬j=15:=by omega
  simp only [e,if_false];exact h.pv j l (by simpa [e] using a)
 .simp [a] at i
 .simp [a] at i
 .simpa using q.x12
 .simpa using q.x13
 .simpa using q.x14
 .simpa using k
 .simpa using q.x18
 .simpa using q.no
 .simpa using q.yes
theorem qX.part18(h:qX W ty Z Pz L x w)(a:L 12=true)(v:Value)(m:∀g f d b c,Jf W ty Pz L x w g f d b c->v=c):qX W ty Z Pz (λj=>decide (j=18)||L j) (λj=>if j=18 then v else x j) w:=by
 obtain⟨g,f,d,b,c,q⟩:=h.late a;have k:=m g f d b c q;refine⟨λj l a=>?_,λi=>?_,λi=>?_,λ_=>⟨g,f,d,b,c,q.k1,q.post,q.ge,?_,?_,?_,?_,?_,?_,?_⟩,λ_=>by simp [h.dep a]⟩
 .have e:¬j=18:=by omega
  simp only [e,if_false];exact h.pv j l (by simpa [e] using a)
 .simp [a] at i
 .simp [a] at i
 .simpa using q.x12
 .simpa using q.x13
 .simpa using q.x14
 .simpa using q.x15
 .simpa using k
 .simpa using q.no
 .simpa using q.yes
theorem qX.make(h:qX W ty Z Pz L x w)(g:L 16=false)(u0 u1:Value):qX W ty Z Pz (λj=>decide (j=16)||L j) (λj=>if j=16 then .pointer (some ⟨w.heap.size,0,none⟩) else x j) (w.alloc (.cells #[u0,u1] ty)):=by
 have b:∀j,j<12->(decide (j=16)||L j)=true->(if j=16 then Value.pointer (some ⟨w.heap.size,0,none⟩) else x j)=Z j:=λj i f=>by
  have e:¬j=16:=by omega
  simp only [e,if_false];exact h.pv j i (by simpa [e] using f)
 refine⟨b,λa=>?_,λa _=>?_,λa=>?_,λa=>by simp [h.dep (by simpa using a)]⟩
 .obtain⟨k0,l⟩:=h.early (by simpa using a);exact⟨k0.trans (za.alloc _ _ _) iL,by simpa using l⟩
 .obtain⟨k0,_⟩:=h.early (by simpa using a);exact⟨w.heap.size,by simp,k0.size,u0,u1,ac w _⟩
 .obtain⟨o,n,m,k,c,q⟩:=h.late (by simpa using a);obtain⟨e,d⟩:=q.no g;refine⟨o,n,m,k,c,q.k1,q.post,q.ge,by simpa using q.x12,by simpa using q.x13,by simpa using q.x14,by simpa using q.x15,by simpa using q.x18,λh2=>by simp at h2,λ_=>⟨w.heap.size,by simp,by rw [e];exact q.ge,.inr (by rw [e];exact aF _),by rw [e];exact za.alloc _ _ _,u0,u1,ac w _,by simp [d]⟩⟩
theorem qX.lay(h:qX W ty Z Pz L x w)(f:L 12=true)(m:L 16=true)(v:L 17=false):∃b d a,x 16=.pointer (some ⟨b,0,none⟩)/\(L 14=true->x 14=.agg #[d,a])/\(∃u0 u1,w.heap[b]? =some (.cells #[u0,u1] ty (0,0)))/\(∃l c i,Pz l d a c i)/\
 ∀u,qX W ty Z Pz (λj=>decide (j=17)||L j) (λj=>if j=17 then u else x j) ((w.setCell ⟨b,0,none⟩ d).setCell ⟨b,1,none⟩ a):=by
 obtain⟨l,i,d,a,c,q⟩:=h.late f;obtain⟨b,n,h2,p,t,u0,u1,o,y⟩:=q.yes m;refine⟨b,d,a,n,q.x14,⟨u0,u1,o⟩,⟨l,c,i,q.post⟩,λu=>⟨λj s f=>?_,λg=>?_,λg=>?_,λ_=>⟨l,i,d,a,c,q.k1,q.post,q.ge,by simpa using q.x12,by simpa using q.x13,by simpa using q.x14,by simpa using q.x15,by simpa using q.x18,λg=>by simp [m] at g,λ_=>⟨b,by simpa using n,h2,p,?_,d,a,?_,λ_=>⟨rfl,rfl⟩⟩⟩,λ_=>by simp [h.dep f]⟩⟩
 .have e:¬j=17:=by omega
  simp only [e,if_false];exact h.pv j s (by simpa [e] using f)
 .simp [f] at g
 .simp [f] at g
 .exact(t.trans (za.setCell (S:=λk=>k=b) w ⟨b,0,none⟩ d rfl) iL).trans (za.setCell (S:=λk=>k=b) _ ⟨b,1,none⟩ a rfl) iL
 .have r:=heap_setCell_same w b 0 _ _ d o;exact heap_setCell_same _ b 1 _ _ a r
end
end book
end Go.Proofs.YtcoengihaobddaaGreatDoor

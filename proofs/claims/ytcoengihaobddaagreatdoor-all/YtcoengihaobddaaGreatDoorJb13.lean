/- Part 13 of 36 of a proof: Book6, Call1 -/
import Derived.Test.YtcoengihaobddaaGreatDoorJb12
set_option maxHeartbeats 8000000
set_option linter.unusedVariables false
set_option linter.unusedSimpArgs false
set_option maxRecDepth 8000
namespace Go.Proofs.YtcoengihaobddaaGreatDoor
namespace law
open Go.ChangeShapes Go.WideShapes Go.ChangeAt Go.RowKit disk ref book
open keys (zh zd zx zq)
variable {q g b4 m:Nat}{w:World}{P:Nat->Prop}{ss:List (Option Addr×Nat×Nat)}{a:Option Addr}
def fF(q m:Nat):List Value:=(List.replicate m (yr q)).flatten
def GO(W w:World)(X:Value)(n g c m:Nat):Prop:=(X=.slice (some ⟨g,0,none⟩) n c/\m<=c)\/(W.heap.size<=g/\∃cur,w.heap[g]? =some (.cells cur 94 (0,0))/\m*4<=cur.size)
structure GP (W:World) (X:Value) (n:Nat) (xs:List Value) (q:Nat) (L:Nat->Bool) (x:Nat->Value) (w:World):Prop where
 mv:∀i,(i=0\/i=1\/i=5\/i=10)->L i=true->x i=X
 ld:∀i,(i=2\/i=6\/i=7\/i=11\/i=12\/i=13)->L i=true->x i=.agg (yr q).toArray
 bs:∀i m,((i=3/\m=1)\/(i=8/\m=2)\/(i=14/\m=3))->L i=true->∃b,x i=.slice (some ⟨b,0,none⟩) m m/\W.heap.size<=b/\w.heap[b]? =some (.cells (fF q m).toArray 94 (0,0))
 ap:∀i m,((i=4/\m=1)\/(i=9/\m=2)\/(i=15/\m=3))->L i=true->∃g c,x i=.slice (some ⟨g,0,none⟩) (n+m) c/\GO W w X n g c (n+m)
 fin:L 16=true->L 4=true/\L 9=true/\L 15=true/\∃b,x 16=.slice (some ⟨b,0,none⟩) 4 4/\W.heap.size<=b/\w.heap[b]? =some (.cells #[X,x 4,x 9,x 15] 44 (0,0))
 asg:L 17=true->L 16=true/\x 17=x 16
 row:w.ownsRow 0 94 4 X n xs
 kept:za (λk=>X.ownBlock=some k) W w
theorem GP.step{W:World}{X:Value}{n:Nat}{u:List Value}{L:Nat->Bool}{x:Nat->Value}(h:GP W X n u q L x w)(i:Nat)(G:L i=false)(v:Value)(w':World)(B:za (λk=>X.ownBlock=some k) w w')(z:w'.ownsRow 0 94 4 X n u)(A:∀k,X.ownBlock=some k->k<W.heap.size)
 (hmv:(i=0\/i=1\/i=5\/i=10)->v=X:=by intros;omega)
 (hld:(i=2\/i=6\/i=7\/i=11\/i=12\/i=13)->v=.agg (yr q).toArray:=by intros;omega)
 (hbs:∀m,((i=3/\m=1)\/(i=8/\m=2)\/(i=14/\m=3))->∃b,v=.slice (some ⟨b,0,none⟩) m m/\W.heap.size<=b/\w'.heap[b]? =some (.cells (fF q m).toArray 94 (0,0)):=by intros;omega)
 (hap:∀m,((i=4/\m=1)\/(i=9/\m=2)\/(i=15/\m=3))->∃g c,v=.slice (some ⟨g,0,none⟩) (n+m) c/\GO W w' X n g c (n+m):=by intros;omega)
 (hfin:i=16->L 4=true/\L 9=true/\L 15=true/\∃b,v=.slice (some ⟨b,0,none⟩) 4 4/\W.heap.size<=b/\w'.heap[b]? =some (.cells #[X,x 4,x 9,x 15] 44 (0,0)):=by intros;omega)
 (hasg:i=17->L 16=true/\v=x 16:=by intros;omega):GP W X n u q (λj=>decide (j=i)||L j) (λj=>if j=i then v else x j) w':=by
 have o:∀j,¬j=i->(decide (j=i)||L j)=true->L j=true:=λj a f=>by simpa [a] using f
 have r:∀(b:Nat) (F:Obj),W.heap.size<=b->w.heap[b]? =some F->w'.heap[b]? =some F:=λb F H D=>(B.block b (lT D) (λE=>by have:=A b E;omega)).trans D;have t:∀j,L j=true->¬j=i:=λj a e=>by rw [e,G] at a;cases a
 refine⟨λj a f=>?_,λj a f=>?_,λj m a f=>?_,λj m a f=>?_,λf=>?_,λf=>?_,z,h.kept.trans B iL⟩
 .by_cases e:j=i;.subst e;simpa using hmv a
  .simpa [e] using h.mv j a (o j e f)
 .by_cases e:j=i;.subst e;simpa using hld a
  .simpa [e] using h.ld j a (o j e f)
 .by_cases e:j=i;.subst e;simpa using hbs m a
  .obtain⟨b,d,h2,l⟩:=h.bs j m a (o j e f);exact⟨b,by simpa [e] using d,h2,r b _ h2 l⟩
 .by_cases e:j=i;.subst e;simpa using hap m a
  .obtain⟨g,c,d,h2⟩:=h.ap j m a (o j e f);refine⟨g,c,by simpa [e] using d,h2.imp id (λl=>⟨l.1,?_⟩)⟩;obtain⟨C,s,p⟩:=l.2;exact⟨C,r g _ l.1 s,p⟩
 .by_cases e:16=i
  .subst e;obtain⟨d,h2,l,b,s,p,y⟩:=hfin rfl;exact⟨by simp [d],by simp [h2],by simp [l],b,by simpa using s,p,by simpa using y⟩
  .obtain⟨d,h2,l,b,s,p,y⟩:=h.fin (o 16 e f);refine⟨by simp [d],by simp [h2],by simp [l],b,by simpa [e] using s,p,?_⟩;rw [aw (t 4 d),aw (t 9 h2),aw (t 15 l)];exact r b _ p y
 .by_cases e:17=i
  .subst e;obtain⟨d,h2⟩:=hasg rfl;exact⟨by simp [d],by simpa using h2⟩
  .obtain⟨d,h2⟩:=h.asg (o 17 e f);exact⟨by simp [d],by rw [aw e,aw (t 16 d)];exact h2⟩
structure VL (w:World) (P:Nat->Prop) (g b4 q:Nat) (ss:List (Option Addr×Nat×Nat)):Prop where
 head:w.heap[g]? =some (.cells (ss.map gx).toArray 44 (0,0))
 room:∀s∈ss,s.2.1=0\/∃b cur,s.1=some ⟨b,0,none⟩/\P b/\w.heap[b]? =some (.cells cur 94 (0,0))/\s.2.1*4<=cur.size
 mine:w.heap[b4]? =some (.cells (yr q).toArray 94 (0,0))
 gP:¬P g
 bP:¬P b4
 few:∀s∈ss,s.2.1<=2000
theorem VL.set(h:VL w P g b4 q ss)(b j:Nat)(v:Value)(a:P b):VL (w.setCell ⟨b,j,none⟩ v) P g b4 q ss:=
 ⟨(ir w ⟨b,j,none⟩ g v (λe=>h.gP (by rw [e];exact a))).trans h.head,λs k=>by
   rcases h.room s k with l|⟨b',f,d,h2,i,c⟩;.exact .inl l
   .by_cases e:b'=b
    .subst e;exact .inr ⟨b',_,d,h2,heap_setCell_same w b' j _ _ _ i,by simpa using c⟩
    .exact .inr ⟨b',f,d,h2,(ir w ⟨b,j,none⟩ b' v e).trans i,c⟩,(ir w ⟨b,j,none⟩ b4 v (λe=>h.bP (by rw [e];exact a))).trans h.mine,h.gP,h.bP,h.few⟩
theorem VL.drew(h:VL w P g b4 q ss):VL w.drew P g b4 q ss:=⟨h.head,h.room,h.mine,h.gP,h.bP,h.few⟩
theorem VL.cell(h:VL w P g b4 q ss)(i:Nat)(a:i<ss.length):w.cell? ⟨g,i,none⟩=some (.slice ss[i].1 ss[i].2.1 ss[i].2.2):=by
 rw [aG w g i _ _ _ h.head];simp [a,gx]
def xl(w:World)(q:Nat)(a:Option Addr)(m:Nat):Prop:=∀j,j<m->∀b,a=some ⟨b,0,none⟩->w.rangeAt b (j*4) (yr q)
theorem ZK{t:Nat}{v:Value}(h:(yr q)[t]? =some v):t<4:=(et.1 h).1
theorem xl.set(h:xl w q a m)(b i t:Nat)(v:Value)(d:(yr q)[t]? =some v):xl (w.setCell ⟨b,i*4+t,none⟩ v) q a m:=by
 intro j g b' f s u c;rw [zL (h j g b' f s u c)];split
 .rename_i e
  have k:=ZK d;have h2:=ZK c;obtain rfl:s=t:=by omega
  rw [d] at c;exact c
 .rfl
theorem xl.drew(h:xl w q a m):xl w.drew q a m:=h
def wr4(w:World)(b i q:Nat):World:=(((w.setCell ⟨b,i*4,none⟩ (.string fA)).setCell ⟨b,i*4+1,none⟩ (.int .i64 (q:Int))).setCell ⟨b,i*4+2,none⟩ (.bool false)).setCell ⟨b,i*4+3,none⟩ (.int .i64 0)
theorem VL.wr4(h:VL w P g b4 q ss)(b i:Nat)(a:P b):VL (wr4 w b i q) P g b4 q ss:=(((h.set b _ _ a).set b _ _ a).set b _ _ a).set b _ _ a
theorem xl.wr4(h:xl w q a m)(b i:Nat):xl (wr4 w b i q) q a m:=(((h.set b i 0 _ rfl).set b i 1 _ rfl).set b i 2 _ rfl).set b i 3 _ rfl
theorem za.wr4(b i q:Nat)(a:P b):za P w (wr4 w b i q):=(((za.setCell w ⟨b,i*4,none⟩ _ a).trans (za.setCell _ ⟨b,i*4+1,none⟩ _ a) iL).trans (za.setCell _ ⟨b,i*4+2,none⟩ _ a) iL).trans (za.setCell _ ⟨b,i*4+3,none⟩ _ a) iL
theorem Vv{b i:Nat}{u0 u1 u2 u3:Value}(d:w.cell? ⟨b,i*4,none⟩=some u0)(e:w.cell? ⟨b,i*4+1,none⟩=some u1)(h2:w.cell? ⟨b,i*4+2,none⟩=some u2)(f:w.cell? ⟨b,i*4+3,none⟩=some u3):(wr4 w b i q).rangeAt b (i*4) (yr q):=by
 intro t v a;have g:=ZK a;unfold law.wr4;rcases (by omega:t=0\/t=1\/t=2\/t=3) with rfl|rfl|rfl|rfl
 .have c:w.cell? ⟨b,i*4+0,none⟩=some u0:=d;rw [zL (zL (zL (zL c)))];simpa [yr] using a
 .rw [zL (zL (zL (zL e)))];simpa [yr] using a
 .rw [zL (zL (zL (zL h2)))];simpa [yr] using a
 .rw [zL (zL (zL (zL f)))];simpa [yr] using a
theorem VL.vets(h:VL w P g b4 q ss)(f:ss.length<=100)(l:∀i (d:i<ss.length),xl w q ss[i].1 ss[i].2.1):Qr w P g ss q:=by
 refine⟨h.head,λs a j e=>?_,λs a=>by have:=h.few s a;omega,f⟩;rcases h.room s a with n|⟨b,m,c,h2,k,o⟩;.omega
 .obtain⟨i,d,rfl⟩:=ed a;exact⟨b,c,h2,(lT k),l i d j e b c⟩
theorem GP.vl{W:World}{j:Option Addr}{n i:Nat}{J:List Value}{L:Nat->Bool}{x:Nat->Value}{f:World}{p y u A z w v:Nat}(h:GP W (.slice j n i) n J q L x f)(r:∀k,(Value.slice j n i).ownBlock=some k->k<b4)(P:b4<W.heap.size)(O:W.heap[b4]? =some (.cells (yr q).toArray 94 (0,0)))(T:n<=1000)
 (U:W.heap.size<=p) (F:f.heap[p]? =some (.cells #[.slice j n i,.slice (some ⟨y,0,none⟩) (n+1) z,.slice (some ⟨u,0,none⟩) (n+2) w,.slice (some ⟨A,0,none⟩) (n+3) v] 44 (0,0))) (I:GO W f (.slice j n i) n y z (n+1)) (S:GO W f (.slice j n i) n u w (n+2)) (Q:GO W f (.slice j n i) n A v (n+3)):
 VL f (λk=>(Value.slice j n i).ownBlock=some k\/(W.heap.size<=k/\k≠p/\k<f.heap.size)) p b4 q [(j,n,i),(some ⟨y,0,none⟩,n+1,z),(some ⟨u,0,none⟩,n+2,w),(some ⟨A,0,none⟩,n+3,v)]:=by
 have E:∀g c m,GO W f (.slice j n i) n g c m->∃b a,(some (⟨g,0,none⟩:Addr))=some ⟨b,0,none⟩/\((Value.slice j n i).ownBlock=some b\/(W.heap.size<=b/\b≠p/\b<f.heap.size))/\f.heap[b]? =some (.cells a 94 (0,0))/\m*4<=a.size:=λg c m N=>by
  rcases N with⟨e,h2⟩|⟨B,a,h2,C⟩
  .rcases h.row.2 with⟨K,_⟩|⟨H,D,a,l,_,t,C,R,M,_⟩;.rw [K] at e;cases e
   .rw [l] at e;cases e;exact⟨g,a,rfl,.inl (by rw [l];rfl),t,by omega⟩
  .refine⟨g,a,rfl,.inr ⟨B,λe=>?_,(lT h2)⟩,h2,C⟩;rw [e,F] at h2;simp at h2
 refine⟨F,λs o=>?_,(h.kept.block _ P (λd=>by have:=r _ d;omega)).trans O,λd=>?_,λd=>?_,λs o=>?_⟩
 .simp only [ar,ic,or_false] at o;rcases o with rfl|rfl|rfl|rfl
  .rcases h.row.2 with⟨_,B⟩|⟨H,D,a,l,_,t,C,R,M,_⟩;.exact .inl B
   .have G:=l;cases l;exact .inr ⟨H,a,rfl,.inl (by rw [G];rfl),t,by show n*4<=a.size;omega⟩
  .exact .inr (E y z _ I)
  .exact .inr (E u w _ S)
  .exact .inr (E A v _ Q)
 .rcases d with d|d;.have:=r _ d;omega
  .exact d.2.1 rfl
 .rcases d with d|d;.have:=r _ d;omega
  .omega
 .simp only [ar,ic,or_false] at o;rcases o with rfl|rfl|rfl|rfl<;>simp<;>omega
theorem Tryz.infoRows:(Tryz.prog.info? 129).map (λi=>(i.zero,i.size,i.bytes))=some (some (.slice none 0 0),1,24):=by kernel_rfl
theorem Tryz.infoVe:(Tryz.prog.info? 94).map (λi=>(i.zero,i.size,i.bytes))=some (some (.agg #[.string ⟨#[]⟩,.int .i64 0,.bool false,.int .i64 0]),4,40):=by kernel_rfl
theorem jc(w:World)(y:Nat)(l:Value)(F bG S:Nat->Prop)(a b:Option Addr)(bh aQ:Nat)(bo vs:List xU)(h:xq w y l F bG a b bh aQ bo vs)(bS:vs.length<=2199023255552)
 (z:Option Addr) (n A:Nat) (ay:List Value) (bp:w.ownsRow 0 94 4 (.slice z n A) n ay) (bV:n<=1000) (aA:∀k,(Value.slice z n A).ownBlock=some k->S k) (an:∀k,S k->¬F k/\¬bG k/\k≠y):
 Calls Tryz.prog 110 #[.pointer (some ⟨y,1,none⟩),.slice z n A] w λe w'=>e=.returned (.tuple #[])/\
  (∃b' bd a2 bi,xq w' y l F bi a b' bh bd bo a2/\a2.length=vs.length+1/\∀k,bi k->bG k\/S k\/w.heap.size<=k)/\za (λk=>bG k\/S k\/k=y) w w':=by
 have aM:Hid _:=h;have bc:Hid (w.ownsRow 0 94 4 (.slice z n A) n ay):=bp;have b2:=h.head.c.2.2.1;have b1:=h.head.lt;obtain⟨ah,Y,U,ad,J⟩:=yv Tryz.infoVe;have s:Hid (Tryz.prog.info? 94=some ah/\ah.zero=some (.agg #[.string ⟨#[]⟩,.int .i64 0,.bool false,.int .i64 0])/\ah.size=4/\ah.bytes=40):=⟨Y,U,ad,J⟩;clear Y U ad J;obtain⟨aF,Y,U,ad,J⟩:=yv Tryz.infoRows;have av:Hid (Tryz.prog.info? 129=some aF/\aF.zero=some (.slice none 0 0)/\aF.size=1/\aF.bytes=24):=⟨Y,U,ad,J⟩;clear Y U ad J h bp;have ap:Hid (∀k,(Value.slice z n A).ownBlock=some k->k<w.heap.size):=λk az=>(bc.lt k az).2;go_enter Tryz.func110,Tryz.ntmps110;go_wp2_with fail;obtain⟨W,aO⟩:∃W,W=w.alloc (.cells #[.string fA,.int .i64 (vs.length:Int),.bool false,.int .i64 0] 94):=⟨_,rfl⟩;have ba:za (λ_=>False) w W:=by rw [aO];exact za.alloc _ _ _
 have b9:W.heap.size=w.heap.size+1:=by rw [aO];simp
 have a7:W.heap[w.heap.size]? =some (.cells (yr vs.length).toArray 94 (0,0)):=by rw [aO];exact ac w _
 have B:Hid (∀k,(Value.slice z n A).ownBlock=some k->k<W.heap.size):=λk az=>by have:=ap.out k az;omega
 have D:∀g,za (λk=>(Value.slice z n A).ownBlock=some k) W g->∀j u,(yr vs.length)[j]? =some u->g.cell? ⟨w.heap.size,j,none⟩=some u:=λg az j u bW=>by rw [aG g _ j _ _ _ ((az.block _ (by omega) (λv=>by have:=ap.out _ v;omega)).trans a7)];simpa using bW
 have aS:=ba.owns bc nF;rw [show w.alloc (.cells #[.string ⟨#[40,109,105,110,101,41]⟩,.int .i64 (vs.length:Int),.bool false,.int .i64 0] 94)=W from aO.symm];change Hid _ at ba;clear aO;refine xf (by kernel_rfl) (by kernel_rfl) (λL a6 g=>∃x:Nat->Value,a6={tmps:=#[.pointer (some ⟨y,1,none⟩),.slice z n A,undef,undef,.pointer (some ⟨w.heap.size,0,none⟩),x 17,undef,undef,.pointer (some ⟨y,1,none⟩),.pointer (some ⟨y,1,none⟩),.pointer (some ⟨y,2,none⟩),.slice b vs.length aQ,.int .i64 (vs.length:Int),.agg #[.string fA,.int .i64 (vs.length:Int),.bool false,.int .i64 0],x 0,x 1,x 2,x 3,x 4,x 5,x 6,x 7,x 8,x 9,x 10,x 11,x 12,x 13,x 14,x 15,x 16,undef,undef,undef,undef,undef,undef,undef,undef,undef,undef,undef,undef,undef,undef,undef,undef,undef,undef,undef,undef,undef,undef,undef,undef,undef,undef,undef,undef,undef,undef,undef,undef],defers:=[]}/\GP W (.slice z n A) n ay vs.length L x g) ?_ ?_ ?_;.exact⟨λ_=>undef,rfl,⟨λ_ _ h=>(nomatch h),λ_ _ h=>(nomatch h),λ_ _ _ h=>(nomatch h),λ_ _ _ h=>(nomatch h),λh=>(nomatch h),λh=>(nomatch h),(za.drew (λ_=>False) W).owns aS nF,za.drew _ W⟩⟩
 .rintro L a6 g i co bv O d ⟨x,rfl,c⟩;have G:i<18:=(lT bv);rcases (by omega:(i=0\/i=1\/i=5\/i=10)\/(i=2\/i=6\/i=7\/i=11\/i=12\/i=13)\/i=3\/i=4\/i=8\/i=9\/i=14\/i=15\/i=16\/i=17) with(rfl|rfl|rfl|rfl)|(rfl|rfl|rfl|rfl|rfl|rfl)|rfl|rfl|rfl|rfl|rfl|rfl|rfl|rfl;all_goals (have be:=eG bv;subst be)
  iterate 4
   .refine wpOp_step rfl (λR q=>?_);go_simp;exact q _ _ ⟨_,(by simp),c.step _ O (.slice z n A) _ (za.refl _ _) c.row B (hmv:=λ_=>rfl)⟩
  iterate 6
   .have cg:=D g c.kept 0 _ rfl;have bz:=D g c.kept 1 _ rfl;have K:=D g c.kept 2 _ rfl;have bf:=D g c.kept 3 _ rfl;refine wpOp_step rfl (λR q=>?_);go_simp;exact q _ _ ⟨_,(by simp [yr]),c.step _ O (.agg (yr vs.length).toArray) _ (za.refl _ _) c.row B (hld:=λ_=>rfl)⟩
  .have aC:=c.ld 2 (by omega) (d ⟨2,.data⟩ (by simp) rfl);refine wpOp_step rfl (λR q=>?_);simp only [aC,yr];go_simp;exact q _ _ ⟨λj=>if j=3 then .slice (some ⟨g.heap.size,0,none⟩) 1 1 else x j,by simp [aC,yr],c.step 3 O _ _ (za.alloc _ _ _) (c.row.alloc _) B (hbs:=λm h=>by obtain rfl:m=1:=(by omega);exact⟨_,rfl,c.kept.size,ac g _⟩)⟩
  .have V:=c.mv 1 (by omega) (d ⟨1,.data⟩ (by simp) rfl);obtain⟨aK,ab,a0,Z⟩:=c.bs 3 1 (by omega) (d ⟨3,.data⟩ (by simp) rfl);refine wpOp_step rfl (λR q=>?_);refine xx rfl (.tmp 15) (.tmp 17) 44 rfl 94 ah _ 4 40 Tryz.underlying44 s.1 s.2.1 s.2.2.1 s.2.2.2 rfl (.slice z n A) n ay V c.row ⟨aK,0,none⟩ 1 1 (fF vs.length 1) ab rfl (World.news_of_block Z) (by simp [fF,yr,Value.oneCell']) (by omega) (by unfold maxLen;omega) (by omega) ?_;intro r bm o;obtain⟨M,K,rfl,aN⟩:=o.form;exact q _ _ ⟨λj=>if j=4 then .slice (some ⟨M,0,none⟩) (n+1) K else x j,by simp [Act.put],c.step 4 O _ _ o.kept o.keeps B (hap:=λm h=>by obtain rfl:m=1:=(by omega);exact⟨M,K,rfl,aN.imp id (λh=>⟨by have:=c.kept.size;omega,h.2⟩)⟩)⟩
  .have br:=c.ld 6 (by omega) (d ⟨6,.data⟩ (by simp) rfl);have bD:=c.ld 7 (by omega) (d ⟨7,.data⟩ (by simp) rfl);refine wpOp_step rfl (λR q=>?_);simp only [br,bD,yr];go_simp;exact q _ _ ⟨λj=>if j=8 then .slice (some ⟨g.heap.size,0,none⟩) 2 2 else x j,by simp [br,bD,yr],c.step 8 O _ _ (za.alloc _ _ _) (c.row.alloc _) B (hbs:=λm h=>by obtain rfl:m=2:=(by omega);exact⟨_,rfl,c.kept.size,ac g _⟩)⟩
  .have V:=c.mv 5 (by omega) (d ⟨5,.data⟩ (by simp) rfl);obtain⟨aK,ab,a0,Z⟩:=c.bs 8 2 (by omega) (d ⟨8,.data⟩ (by simp) rfl);refine wpOp_step rfl (λR q=>?_);refine xx rfl (.tmp 19) (.tmp 22) 44 rfl 94 ah _ 4 40 Tryz.underlying44 s.1 s.2.1 s.2.2.1 s.2.2.2 rfl (.slice z n A) n ay V c.row ⟨aK,0,none⟩ 2 2 (fF vs.length 2) ab rfl (World.news_of_block Z) (by simp [fF,yr,Value.oneCell']) (by omega) (by unfold maxLen;omega) (by omega) ?_;intro r bm o;obtain⟨M,K,rfl,aN⟩:=o.form;exact q _ _ ⟨λj=>if j=9 then .slice (some ⟨M,0,none⟩) (n+2) K else x j,by simp [Act.put],c.step 9 O _ _ o.kept o.keeps B (hap:=λm h=>by obtain rfl:m=2:=(by omega);exact⟨M,K,rfl,aN.imp id (λh=>⟨by have:=c.kept.size;omega,h.2⟩)⟩)⟩
  .have aW:=c.ld 11 (by omega) (d ⟨11,.data⟩ (by simp) rfl);have a3:=c.ld 12 (by omega) (d ⟨12,.data⟩ (by simp) rfl);have a4:=c.ld 13 (by omega) (d ⟨13,.data⟩ (by simp) rfl);refine wpOp_step rfl (λR q=>?_);simp only [aW,a3,a4,yr];go_simp;exact q _ _ ⟨λj=>if j=14 then .slice (some ⟨g.heap.size,0,none⟩) 3 3 else x j,by simp [aW,a3,a4,yr],c.step 14 O _ _ (za.alloc _ _ _) (c.row.alloc _) B (hbs:=λm h=>by obtain rfl:m=3:=(by omega);exact⟨_,rfl,c.kept.size,ac g _⟩)⟩
  .have V:=c.mv 10 (by omega) (d ⟨10,.data⟩ (by simp) rfl);obtain⟨aK,ab,a0,Z⟩:=c.bs 14 3 (by omega) (d ⟨14,.data⟩ (by simp) rfl);refine wpOp_step rfl (λR q=>?_);refine xx rfl (.tmp 24) (.tmp 28) 44 rfl 94 ah _ 4 40 Tryz.underlying44 s.1 s.2.1 s.2.2.1 s.2.2.2 rfl (.slice z n A) n ay V c.row ⟨aK,0,none⟩ 3 3 (fF vs.length 3) ab rfl (World.news_of_block Z) (by simp [fF,yr,Value.oneCell']) (by omega) (by unfold maxLen;omega) (by omega) ?_;intro r bm o;obtain⟨M,K,rfl,aN⟩:=o.form;exact q _ _ ⟨λj=>if j=15 then .slice (some ⟨M,0,none⟩) (n+3) K else x j,by simp [Act.put],c.step 15 O _ _ o.kept o.keeps B (hap:=λm h=>by obtain rfl:m=3:=(by omega);exact⟨M,K,rfl,aN.imp id (λh=>⟨by have:=c.kept.size;omega,h.2⟩)⟩)⟩
  .have bs:=d ⟨4,.data⟩ (by simp) rfl;have bE:=d ⟨9,.data⟩ (by simp) rfl;have aZ:=d ⟨15,.data⟩ (by simp) rfl;have bl:=c.mv 0 (by omega) (d ⟨0,.data⟩ (by simp) rfl);obtain⟨bx,k1,aB,_⟩:=c.ap 4 1 (by omega) bs;obtain⟨M,k2,ax,_⟩:=c.ap 9 2 (by omega) bE;obtain⟨bA,k3,Q,_⟩:=c.ap 15 3 (by omega) aZ;refine wpOp_step rfl (λR q=>?_);simp only [bl,aB,ax,Q];go_simp;exact q _ _ ⟨λj=>if j=16 then .slice (some ⟨g.heap.size,0,none⟩) 4 4 else x j,by simp [bl,aB,ax,Q],c.step 16 O _ _ (za.alloc _ _ _) (c.row.alloc _) B (hfin:=λ_=>⟨bs,bE,aZ,g.heap.size,rfl,c.kept.size,by rw [aB,ax,Q];exact ac g _⟩)⟩
  .have bg:=d ⟨16,.data⟩ (by simp) rfl;refine wpOp_step rfl (λR q=>?_);go_simp;exact q _ _ ⟨λj=>if j=17 then x 16 else x j,by simp,c.step 17 O _ _ (za.refl _ _) c.row B (hasg:=λ_=>⟨bg,rfl⟩)⟩
 .rintro L a6 g H ⟨x,rfl,c⟩;obtain⟨_,_,_,N,aY,bw,ar⟩:=c.fin (H 16 (by decide));have a1:=(c.asg (H 17 (by decide))).2;obtain⟨bx,bz,aB,bq⟩:=c.ap 4 1 (by omega) (H 4 (by decide));obtain⟨M,K,ax,bn⟩:=c.ap 9 2 (by omega) (H 9 (by decide));obtain⟨bA,bf,Q,bu⟩:=c.ap 15 3 (by omega) (H 15 (by decide));rw [aB,ax,Q] at ar;have aE:=c.vl (b4:=w.heap.size) ap (by omega) a7 bV bw ar bq bn bu;rw [a1,aY];obtain⟨P,aL⟩:∃P:Nat->Prop,P=λk=>(Value.slice z n A).ownBlock=some k\/(W.heap.size<=k/\k≠N/\k<g.heap.size):=⟨_,rfl⟩;obtain⟨ss,aH⟩:∃ss:List (Option Addr×Nat×Nat),ss=[(z,n,A),(some ⟨bx,0,none⟩,n+1,bz),(some ⟨M,0,none⟩,n+2,K),(some ⟨bA,0,none⟩,n+3,bf)]:=⟨_,rfl⟩;rw [<-aL,<-aH] at aE;have au:Hid (ss.length=4):=(by rw [aH];rfl);have bC:Hid _:=c.kept;have bH:=(lT ar);change Hid _ at aL aE;clear c ar bq bn bu aB ax Q aY a1 aH D aS a7 H;go_wp2_with fail;go_loopw [6] (λt wr=>∃k:Nat,k<=4/\t=.int .i64 k/\VL wr P N w.heap.size vs.length ss/\(∀i (G:i<ss.length),i<k->xl wr vs.length ss[i].1 ss[i].2.1)/\za P g wr) (λt _=>4-(intOf t).toNat)
  case atStart=>exact⟨0,aj _,rfl,aE,λ_ _ h=>by omega,za.refl _ _⟩
  case round=>
   obtain⟨k,az,rfl,a8,a9,al⟩:=hrel;have bb:Hid (za P g wr):=al;change Hid _ at a8 a9;clear al;by_cases bk:k<4
   .have ag:k<ss.length:=by rw [au.out];exact bk
    have bj:decide ((k:Int)<4)=true:=aJ (by omega);go_wp2;clear bj;have b3:(k:Int)<4:=by omega
    go_loopw [7] (λt aP=>∃m:Nat,m<=ss[k].2.1/\t=.int .i64 m/\VL aP P N w.heap.size vs.length ss/\(∀i (G:i<ss.length),i<k->xl aP vs.length ss[i].1 ss[i].2.1)/\xl aP vs.length ss[k].1 m/\za P g aP) (λt _=>ss[k].2.1-(intOf t).toNat)
    case atStart=>exact⟨0,aj _,rfl,a8,a9,λj f=>by omega,bb⟩
    case round=>
     obtain⟨m,ch,rfl,ao,aT,J,X⟩:=hrel;have v:=ao.cell k ag;have bZ:=ao.few ss[k] (ai ag);have C:Hid (VL wr P N w.heap.size vs.length ss):=ao;have aU:Hid (∀i (G:i<ss.length),i<k->xl wr vs.length ss[i].1 ss[i].2.1):=aT;have a5:Hid (xl wr vs.length ss[k].1 m):=J;have aX:Hid (za P g wr):=X;clear ao aT J X;by_cases bQ:m<ss[k].2.1
     .rcases C.room ss[k] (ai ag) with cm|⟨b',I,af,h2,T,ce⟩;.omega
      .have u0:wr.cell? ⟨b',m*4,none⟩=some I[m*4]:=by rw [aG wr b' _ _ _ _ T];simp
       have u1:wr.cell? ⟨b',m*4+1,none⟩=some I[m*4+1]:=by rw [aG wr b' _ _ _ _ T];simp
       have u2:wr.cell? ⟨b',m*4+2,none⟩=some I[m*4+2]:=by rw [aG wr b' _ _ _ _ T];simp
       have u3:wr.cell? ⟨b',m*4+3,none⟩=some I[m*4+3]:=by rw [aG wr b' _ _ _ _ T];simp
       have b8:=aa wr b' (m*4) _ _ T;have b7:=aa wr b' (m*4+1) _ _ T;have cn:=aa wr b' (m*4+2) _ _ T;have cf:=aa wr b' (m*4+3) _ _ T;have cb:wr.cell? ⟨w.heap.size,0,none⟩=some (.string fA):=cR C.mine rfl;have ca:wr.cell? ⟨w.heap.size,1,none⟩=some (.int .i64 (vs.length:Int)):=cR C.mine rfl;have cd:wr.cell? ⟨w.heap.size,2,none⟩=some (.bool false):=cR C.mine rfl;have cc:wr.cell? ⟨w.heap.size,3,none⟩=some (.int .i64 0):=cR C.mine rfl;have bB:¬b'=N:=λe=>C.gP (by rw [<-e];exact h2);have am:¬b'=w.heap.size:=λe=>C.bP (by rw [<-e];exact h2);have bO:¬N=b':=iw bB;have bN:¬w.heap.size=b':=iw am;have bP:Hid ((wr4 wr b' m vs.length).rangeAt b' (m*4) (yr vs.length)):=Vv u0 u1 u2 u3;have bT:Hid (ss[k].1=some ⟨b',0,none⟩):=af;have bt:Hid (P b'):=h2;rw [af] at v;have b0:(m:Int)<(ss[k].2.1:Int):=by omega
       clear af h2 T;generalize I[m*4]=ci at*;generalize I[m*4+1]=ck at*;generalize I[m*4+2]=cj at*;generalize I[m*4+3]=cl at*;go_wp2_with fail;go_region_held3 (λw'=>w'.cell? ⟨N,k,none⟩=some (.slice (some ⟨b',0,none⟩) ss[k].2.1 ss[k].2.2)/\w'.cell? ⟨w.heap.size,0,none⟩=some (.string fA)/\w'.cell? ⟨w.heap.size,1,none⟩=some (.int .i64 (vs.length:Int))/\w'.cell? ⟨w.heap.size,2,none⟩=some (.bool false)/\w'.cell? ⟨w.heap.size,3,none⟩=some (.int .i64 0)) (go_keep) (fail);go_wp2;go_roundw
       case rel=>
        refine⟨m+1,by omega,by go_num,(C.wr4 b' m bt).drew,λi G aV=>((aU i G aV).wr4 b' m).drew,?_,(aX.trans (za.wr4 b' m vs.length bt) iL).trans (za.drew _ _) iL⟩;intro j f bM am;by_cases aC:j=m
        .subst aC;have ab:=bT.out;rw [am] at ab;cases ab;exact bP.out
        .exact(a5.wr4 b' m) j (by omega) bM am
       case measure=>simp [intOf];omega
     .go_wp2;go_roundw
      case rel=>
       refine⟨k+1,by omega,by go_num,C,λi G aV=>?_,aX⟩;by_cases e:i=k
       .subst e;have aC:m=ss[i].2.1:=by omega
        rw [<-aC];exact a5.out
       .exact aU i G (by omega)
      case measure=>simp [intOf];omega
   .have aR:=a8.vets (by rw [au.out];omega) (λi G=>a9 i G (by have:=au.out;omega));have aq:∀j,P j->(Value.slice z n A).ownBlock=some j\/(W.heap.size<=j/\j≠N/\j<g.heap.size):=λj f=>by have e:=aL.out;rw [e] at f;exact f
    have aD:=((ba.mono fE).trans bC iL).trans bb (λj f=>(aq j f).imp id (λh=>by omega));have p:=aM.kept aD (λi G v=>(an i (aA i v)).1 G) (λi G v=>(an i (aA i v)).2.1 G) (λv=>(an y (aA y v)).2.2 rfl);have bU:=p.head.c.2.2.1;have bJ:=p.head.lt;have bX:¬(k:Int)<4:=by omega
    have b5:=bb.size;change Hid _ at aR aq p aD;go_wp2_with (refine wpList_append_lies _ rfl (.tmp 57) (.tmp 59) 75 rfl 0 129 aF _ 1 24 Tryz.underlying75 av.1 av.2.1 av.2.2.1 av.2.2.2 rfl (by omega) (.slice b vs.length aQ) vs.length (vs.map xU.val) (by rfl) (by exact er p.rows.row _) ⟨wr.heap.size,0,none⟩ 1 1 [.slice (some ⟨N,0,none⟩) 4 4] (by rfl) (by rfl) (by exact World.news_of_block (ac wr _)) (by simp [Value.oneCell']) (by omega) (by unfold maxLen;omega) (by omega) (aj _) (wr.heap.size+1) (by simp) ?_;intro bR bL bF ak E ae bK;have b6:bF.cell? ⟨y,2,none⟩=some (.slice b vs.length aQ):=(E.cell_far ⟨y,2,none⟩ (by simp;omega) (λe=>p.hbp (p.rows.foot2 y e.symm))).trans (by simpa using p.kept (za.alloc (λ_=>False) wr _) nF nF (λaI=>aI) |>.head.c.2.2.1);have bY:bF.frozen? ⟨y,2,none⟩=false:=(E.frozen_far ⟨y,2,none⟩ (by simp;omega) (λe=>p.hbp (p.rows.foot2 y e.symm))).trans (by simpa using p.kept (za.alloc (λ_=>False) wr _) nF nF (λaI=>aI) |>.head.c.2.2.2 2);change Hid _ at ak E ae);go_end0
    have aw:=p.pushV (by omega) ⟨N,ss,P⟩ au aR.out
     (λj f=>by
      have aI:=aM.flt j;have bI:=aM.hlt j;rcases aq j f with f|f;.have af:=an j (aA j f);have h2:=ap.out j f;exact⟨af.1,af.2.1,af.2.2,by omega⟩
      .exact⟨λv=>by have:=aI v;omega,λv=>by have:=bI v;omega,by omega,by omega⟩)
     ⟨λv=>by have:=aM.flt _ v;simp only at this;omega,λv=>by have:=aM.hlt _ v;simp only at this;omega,by simp only;omega,by simp only;omega⟩ _ bR bL ak E ae.out
    refine⟨rfl,⟨_,_,_,_,aw.1,by simp,λj f=>?_⟩,(aD.mono (λj f=>.inr (.inl (aA j f)))).trans aw.2 (λj f=>?_)⟩
    .rcases f with f|f|f|f;.exact .inl f
     .rcases aq j f with f|f;.exact .inr (.inl (aA j f))
      .exact .inr (.inr (by omega))
     .exact .inr (.inr (by simp only at f;omega))
     .rcases ae.out with V|V;.exact .inl (p.rows.foot2 j (by rw [f];exact V))
      .exact .inr (.inr (by omega))
    .rcases f with f|f;.exact .inl (.inl (p.rows.foot2 j f))
     .exact .inl (.inr (.inr f))
end law
namespace book
open Go.RowKit disk ref
structure Jf (W:World) (ty:TypeId) (Pz:World->Value->Value->Value->World->Prop) (L:Nat->Bool) (x:Nat->Value) (w W1 w2:World) (v0 v1 c:Value):Prop where
 k1:za (λ_=>False) W W1
 post:Pz W1 v0 v1 c w2
 ge:W.heap.size<=w2.heap.size
 x12:x 12=.tuple #[.agg #[v0,v1],c]
 x13:L 13=true->x 13=.tuple #[.agg #[v0,v1],c]
 x14:L 14=true->x 14=.agg #[v0,v1]
 x15:L 15=true->x 15=c
 x18:L 18=true->x 18=c
 no:L 16=false->w=w2/\L 17=false
 yes:L 16=true->∃b,x 16=.pointer (some ⟨b,0,none⟩)/\W.heap.size<=b/\(b<W1.heap.size\/w2.heap.size<=b)/\za (λk=>k=b) w2 w/\∃u0 u1,w.heap[b]? =some (.cells #[u0,u1] ty (0,0))/\(L 17=true->u0=v0/\u1=v1)
structure qV (W:World) (ty:TypeId) (Z:Nat->Value) (Pz:World->Value->Value->Value->World->Prop) (L:Nat->Bool) (x:Nat->Value) (w:World):Prop where
 pv:∀i,i<12->L i=true->x i=Z i
 early:L 12=false->za (λ_=>False) W w/\L 13=false/\L 14=false/\L 15=false/\L 17=false/\L 18=false
 room:L 12=false->L 16=true->∃b,x 16=.pointer (some ⟨b,0,none⟩)/\W.heap.size<=b/\∃u0 u1,w.heap[b]? =some (.cells #[u0,u1] ty (0,0))
 late:L 12=true->∃W1 w2 v0 v1 c,Jf W ty Pz L x w W1 w2 v0 v1 c
 dep:L 12=true->L 3=true/\L 5=true/\L 7=true/\L 9=true/\L 11=true
section
variable {W:World} {ty:TypeId} {Z:Nat->Value} {Pz:World->Value->Value->Value->World->Prop} {L:Nat->Bool} {x:Nat->Value} {w:World}
theorem qV.start(x:Nat->Value):qV W ty Z Pz (λ_=>false) x W.drew:=⟨λ_ _ h=>(nomatch h),λ_=>⟨za.drew _ W,rfl,rfl,rfl,rfl,rfl⟩,λ_ h=>(nomatch h),λh=>(nomatch h),λh=>(nomatch h)⟩
theorem qV.l12(h:qV W ty Z Pz L x w){i:Nat}(f:L i=false)(j:i=3\/i=5\/i=7\/i=9\/i=11:=by decide):L 12=false:=by
 cases g:L 12 with
 |false=>rfl
 |true=>
  obtain⟨a,b,c,d,e⟩:=h.dep g;rcases j with rfl|rfl|rfl|rfl|rfl<;>first|cases a.symm.trans f|cases b.symm.trans f|cases c.symm.trans f|cases d.symm.trans f|cases e.symm.trans f
theorem qV.t12(h:qV W ty Z Pz L x w){i:Nat}(d:L i=true)(f:i=13\/i=14\/i=15:=by decide):L 12=true:=by
 cases e:L 12 with
 |true=>rfl
 |false=>
  obtain⟨_,a,b,c,_⟩:=h.early e;rcases f with rfl|rfl|rfl<;>first|cases a.symm.trans d|cases b.symm.trans d|cases c.symm.trans d
theorem qV.pure(h:qV W ty Z Pz L x w)(i:Nat)(n:i<12):qV W ty Z Pz (λj=>decide (j=i)||L j) (λj=>if j=i then Z i else x j) w:=by
 have a:∀j,12<=j->(decide (j=i)||L j)=L j/\(if j=i then Z i else x j)=x j:=λj f=>by
  have:¬j=i:=by omega
  simp [this]
 refine⟨λj f b=>?_,λb=>?_,λd h2=>?_,λb=>?_,λb=>by simp only [(a 12 (by omega)).1] at b;simp [h.dep b]⟩
 .by_cases e:j=i;.subst e;simp
  .simp only [e,if_false];exact h.pv j f (by simpa [e] using b)
 .simp only [(a 12 (by omega)).1,(a 13 (by omega)).1,(a 14 (by omega)).1,(a 15 (by omega)).1,(a 17 (by omega)).1,(a 18 (by omega)).1] at b ⊢;exact h.early b
 .simp only [(a 12 (by omega)).1,(a 16 (by omega)).1,(a 16 (by omega)).2] at d h2 ⊢;exact h.room d h2
 .simp only [(a 12 (by omega)).1] at b;obtain⟨l,m,g,k,c,q⟩:=h.late b;refine⟨l,m,g,k,c,q.k1,q.post,q.ge,?_,?_,?_,?_,?_,?_,?_⟩<;>simp only [(a 12 (by omega)).2,(a 13 (by omega)).1,(a 13 (by omega)).2,(a 14 (by omega)).1,(a 14 (by omega)).2,(a 15 (by omega)).1,(a 15 (by omega)).2,(a 16 (by omega)).1,(a 16 (by omega)).2,(a 17 (by omega)).1,(a 18 (by omega)).1,(a 18 (by omega)).2]
  .exact q.x12
  .exact q.x13
  .exact q.x14
  .exact q.x15
  .exact q.x18
  .exact q.no
  .exact q.yes
theorem qV.call(h:qV W ty Z Pz L x w)(a:L 12=false)(l m c:Value)(d:World)(T:Nat->Prop)(A:∀k,T k->k<W.heap.size)(r:za T w d)(u:Pz w l m c d)(y:L 3=true/\L 5=true/\L 7=true/\L 9=true/\L 11=true):qV W ty Z Pz (λj=>decide (j=12)||L j) (λj=>if j=12 then .tuple #[.agg #[l,m],c] else x j) d:=by
 obtain⟨k0,s,p,q,f,o⟩:=h.early a;refine⟨λj v a=>?_,λa=>?_,λi=>?_,λ_=>⟨w,d,l,m,c,k0,u,aD k0.size r.size,?_,?_,?_,?_,?_,?_,?_⟩,λ_=>by simp [y]⟩
 .have e:¬j=12:=by omega
  simp only [e,if_false];exact h.pv j v (by simpa [e] using a)
 .simp at a
 .simp at i
 .simp
 .simp [s]
 .simp [p]
 .simp [q]
 .simp [o]
 .intro g;simp [f]
 .intro g;obtain⟨b,i,h2,u0,u1,t⟩:=h.room a (by simpa using g);have n:=(lT t);exact⟨b,by simpa using i,h2,.inl n,za.refl _ _,u0,u1,(r.block b n (λz=>by have:=A b z;omega)).trans t,by simp [f]⟩
theorem qV.part13(h:qV W ty Z Pz L x w)(a:L 12=true)(l:L 13=false):qV W ty Z Pz (λj=>decide (j=13)||L j) (λj=>if j=13 then x 12 else x j) w:=by
 obtain⟨i,k,d,f,c,q⟩:=h.late a;refine⟨λj g a=>?_,λb=>?_,λb=>?_,λ_=>⟨i,k,d,f,c,q.k1,q.post,q.ge,?_,?_,?_,?_,?_,?_,?_⟩,λ_=>by simp [h.dep a]⟩
 .have e:¬j=13:=by omega
  simp only [e,if_false];exact h.pv j g (by simpa [e] using a)
 .simp [a] at b
 .simp [a] at b
 .simpa using q.x12
 .simpa using q.x12
 .simpa using q.x14
 .simpa using q.x15
 .simpa using q.x18
 .simpa using q.no
 .simpa using q.yes
theorem qV.part14(h:qV W ty Z Pz L x w)(a:L 12=true)(v:Value)(k:∀f g b d c,Jf W ty Pz L x w f g b d c->v=.agg #[b,d]):qV W ty Z Pz (λj=>decide (j=14)||L j) (λj=>if j=14 then v else x j) w:=by
 obtain⟨f,g,b,d,c,q⟩:=h.late a;have l:=k f g b d c q;refine⟨λj m a=>?_,λi=>?_,λi=>?_,λ_=>⟨f,g,b,d,c,q.k1,q.post,q.ge,?_,?_,?_,?_,?_,?_,?_⟩,λ_=>by simp [h.dep a]⟩
 .have e:¬j=14:=by omega
  simp only [e,if_false];exact h.pv j m (by simpa [e] using a)
 .simp [a] at i
 .simp [a] at i
 .simpa using q.x12
 .simpa using q.x13
 .simpa using l
 .simpa using q.x15
 .simpa using q.x18
 .simpa using q.no
 .simpa using q.yes
theorem qV.part15(h:qV W ty Z Pz L x w)(a:L 12=true)(v:Value)(k:∀d g b f c,Jf W ty Pz L x w d g b f c->v=c):qV W ty Z Pz (λj=>decide (j=15)||L j) (λj=>if j=15 then v else x j) w:=by
 obtain⟨d,g,b,f,c,q⟩:=h.late a;have l:=k d g b f c q;refine⟨λj m a=>?_,λi=>?_,λi=>?_,λ_=>⟨d,g,b,f,c,q.k1,q.post,q.ge,?_,?_,?_,?_,?_,?_,?_⟩,λ_=>by simp [h.dep a]⟩
 .have e:¬j=15:=by omega
  simp only [e,if_false];exact h.pv j m (by simpa [e] using a)
 .simp [a] at i
 .simp [a] at i
 .simpa using q.x12
 .simpa using q.x13
 .simpa using q.x14
 .simpa using l
 .simpa using q.x18
 .simpa using q.no
 .simpa using q.yes
theorem qV.part18(h:qV W ty Z Pz L x w)(a:L 12=true)(v:Value)(k:∀d g b f c,Jf W ty Pz L x w d g b f c->v=c):qV W ty Z Pz (λj=>decide (j=18)||L j) (λj=>if j=18 then v else x j) w:=by
 obtain⟨d,g,b,f,c,q⟩:=h.late a;have l:=k d g b f c q;refine⟨λj m a=>?_,λi=>?_,λi=>?_,λ_=>⟨d,g,b,f,c,q.k1,q.post,q.ge,?_,?_,?_,?_,?_,?_,?_⟩,λ_=>by simp [h.dep a]⟩
 .have e:¬j=18:=by omega
  simp only [e,if_false];exact h.pv j m (by simpa [e] using a)
 .simp [a] at i
 .simp [a] at i
 .simpa using q.x12
 .simpa using q.x13
 .simpa using q.x14
 .simpa using q.x15
 .simpa using l
 .simpa using q.no
 .simpa using q.yes
theorem qV.make(h:qV W ty Z Pz L x w)(i:L 16=false)(u0 u1:Value):qV W ty Z Pz (λj=>decide (j=16)||L j) (λj=>if j=16 then .pointer (some ⟨w.heap.size,0,none⟩) else x j) (w.alloc (.cells #[u0,u1] ty)):=by
 have d:∀j,j<12->(decide (j=16)||L j)=true->(if j=16 then Value.pointer (some ⟨w.heap.size,0,none⟩) else x j)=Z j:=λj f g=>by
  have e:¬j=16:=by omega
  simp only [e,if_false];exact h.pv j f (by simpa [e] using g)
 refine⟨d,λa=>?_,λa _=>?_,λa=>?_,λa=>by simp [h.dep (by simpa using a)]⟩
 .obtain⟨k0,l⟩:=h.early (by simpa using a);exact⟨k0.trans (za.alloc _ _ _) iL,by simpa using l⟩
 .obtain⟨k0,_⟩:=h.early (by simpa using a);exact⟨w.heap.size,by simp,k0.size,u0,u1,ac w _⟩
 .obtain⟨o,k,m,n,c,q⟩:=h.late (by simpa using a);obtain⟨e,b⟩:=q.no i;refine⟨o,k,m,n,c,q.k1,q.post,q.ge,by simpa using q.x12,by simpa using q.x13,by simpa using q.x14,by simpa using q.x15,by simpa using q.x18,λh2=>by simp at h2,λ_=>⟨w.heap.size,by simp,by rw [e];exact q.ge,.inr (by rw [e];exact aF _),by rw [e];exact za.alloc _ _ _,u0,u1,ac w _,by simp [b]⟩⟩
theorem qV.lay(h:qV W ty Z Pz L x w)(f:L 12=true)(m:L 16=true)(v:L 17=false):∃b a d,x 16=.pointer (some ⟨b,0,none⟩)/\(L 14=true->x 14=.agg #[a,d])/\(∃u0 u1,w.heap[b]? =some (.cells #[u0,u1] ty (0,0)))/\(∃l c i,Pz l a d c i)/\
 ∀u,qV W ty Z Pz (λj=>decide (j=17)||L j) (λj=>if j=17 then u else x j) ((w.setCell ⟨b,0,none⟩ a).setCell ⟨b,1,none⟩ d):=by
 obtain⟨l,i,a,d,c,q⟩:=h.late f;obtain⟨b,n,h2,t,s,u0,u1,o,y⟩:=q.yes m;refine⟨b,a,d,n,q.x14,⟨u0,u1,o⟩,⟨l,c,i,q.post⟩,λu=>⟨λj p f=>?_,λg=>?_,λg=>?_,λ_=>⟨l,i,a,d,c,q.k1,q.post,q.ge,by simpa using q.x12,by simpa using q.x13,by simpa using q.x14,by simpa using q.x15,by simpa using q.x18,λg=>by simp [m] at g,λ_=>⟨b,by simpa using n,h2,t,?_,a,d,?_,λ_=>⟨rfl,rfl⟩⟩⟩,λ_=>by simp [h.dep f]⟩⟩
 .have e:¬j=17:=by omega
  simp only [e,if_false];exact h.pv j p (by simpa [e] using f)
 .simp [f] at g
 .simp [f] at g
 .exact(s.trans (za.setCell (S:=λk=>k=b) w ⟨b,0,none⟩ a rfl) iL).trans (za.setCell (S:=λk=>k=b) _ ⟨b,1,none⟩ d rfl) iL
 .have r:=heap_setCell_same w b 0 _ _ a o;exact heap_setCell_same _ b 1 _ _ d r
end
end book
end Go.Proofs.YtcoengihaobddaaGreatDoor

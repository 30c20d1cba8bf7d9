/- Part 10 of 36 of a proof: Law8, Play, Law9, Find8, Find9, Find10, Find11 -/
import Derived.Test.YtcoengihaobddaaGreatDoorJb09
import Derived.Deep.DeepCutAuto
set_option maxHeartbeats 8000000
set_option linter.unusedVariables false
set_option linter.unusedSimpArgs false
set_option maxRecDepth 8000
namespace Go.Proofs.YtcoengihaobddaaGreatDoor
namespace law
open Go.ChangeShapes Go.WideShapes Go.ChangeAt Go.RowKit disk ref book
open keys (zh zd zx zq zp)
theorem Vi(M:ze)(A:cI M)(w:World)(X:Nat->Prop)(bo t:Nat)(h:qg)(bd:Nat)(D:Dk)(S R:Nat->Prop)(ib:Nat)(V:qE)(last:Int)(j:yt M w X bo t h bd D S R ib V last)(bq:t<=2199023255552)(bs:Nat)(hbs:h.s=qz bs)
 (d:xg) (Q:Nat->Prop) (U:d.Ok w Q) (aX:∀k,Q k->¬X k/\k<w.heap.size) (ad:d.kind=6)
 (bp:Nat) (aw:Value) (F H:Nat->Prop) (a b:Option Addr) (ca cb:Nat) (es vs:List xU) (o:xq w bp aw F H a b ca cb es vs) (bi:es.length<=t) (q:∀k,X k->¬F k/\¬H k/\k≠bp):
 Calls Tryz.prog 63 #[.pointer (some ⟨bp,0,none⟩),.pointer (some ⟨bo,0,none⟩),.agg #[.int .i64 d.kind,.int .i64 d.A,.int .i64 d.B,.int .i64 d.C,.string d.S,.string d.P,.slice d.la d.l.length d.lc,.slice d.ka d.ks.length d.kc]] w λe w'=>Ve M w w' X bo t bp aw F H b cb es vs e:=by
 have K:=j.xlt;have k0:za (λ_=>False) w (w.alloc (.cells #[.int .i64 d.kind,.int .i64 d.A,.int .i64 d.B,.int .i64 d.C,.string d.S,.string d.P,.slice d.la d.l.length d.lc,.slice d.ka d.ks.length d.kc] 81)):=za.alloc _ _ _;have O:xc (w.alloc (.cells #[.int .i64 d.kind,.int .i64 d.A,.int .i64 d.B,.int .i64 d.C,.string d.S,.string d.P,.slice d.la d.l.length d.lc,.slice d.ka d.ks.length d.kc] 81)) w.heap.size d:=⟨ac w _⟩;have aj:=U.kept k0 nF;have n:=j.kept k0 nF;have x:w.heap.size<(w.alloc (.cells #[.int .i64 d.kind,.int .i64 d.A,.int .i64 d.B,.int .i64 d.C,.string d.S,.string d.P,.slice d.la d.l.length d.lc,.slice d.ka d.ks.length d.kc] 81)).heap.size:=by simp
 have N:=n.head.c0;rw [n.hd] at N;unfold qz at N;have aE:=n.head.c1;rw [hbs] at aE;unfold qz at aE;have bm:=O.c4;have bh:=O.c2;have bg:=O.c0.trans (congrArg (λk=>some (Value.int .i64 k)) ad);have bb:=j.good.few;change Hid _ at O aj n j U aX hbs K k0 o q x;clear ad;generalize bj:w.alloc (.cells #[.int .i64 d.kind,.int .i64 d.A,.int .i64 d.B,.int .i64 d.C,.string d.S,.string d.P,.slice d.la d.l.length d.lc,.slice d.ka d.ks.length d.kc] 81)=y at*;go_enter Tryz.func63,Tryz.ntmps63;go_wp2_with fail;obtain⟨ba,a6,aQ,a0,ay⟩:=n.disk;refine(qD _ bd S D ba a6 aQ a0 ay).mono ?_;rintro e P ⟨rfl,p⟩;rw [p];clear p P ay;go_wp2_with fail;go_region_held3 (λw'=>w'.cell? ⟨bo,1,none⟩=some (.pointer (some ⟨bs,0,none⟩))/\w'.cell? ⟨w.heap.size,4,none⟩=some (.string d.S)/\w'.cell? ⟨w.heap.size,2,none⟩=some (.int .i64 d.B)) (go_keep) ((go_at_call 42;refine(Gu M A _ X bo t h bd D S R ib V last (by exact n.kept (za.drew (λ_=>False) y) nF) (by omega) bs hbs d.S U.out.S d.B U.out.B).mono ?_;rintro e v ⟨ax,J,bu,rfl,ar,Y,L,aA,aF,aD,ag⟩;have m:Hid (yR M y.drew v bd bs S J D ax):=ar;have B:Hid _:=(⟨aA,aF,aD,ag⟩:X bs/\¬S bs/\¬R bs/\bs≠bo);change Hid _ at Y L;clear ar aA aF aD ag;have z:Hid _:=gz n K O aj aX x m B.out;have ae:=z.head.c1;rw [hbs.out] at ae;unfold qz at ae;have a5:=z.box.c4;have bc:=z.box.c2));have N:=z.head.c0;rw [j.hd] at N;unfold qz at N;have az:=z.head.c2;rw [j.his] at az;unfold qz at az;have a1:∀k,J k->k<w.heap.size\/y.heap.size<=k:=λk f=>(m.foot k f).imp (λh=>K k (n.sX k h)) (λh=>h);have am:∀k,J k->k<v.heap.size:=λk f=>m.disk.lt k f;have a3:y.heap.size<=v.heap.size:=m.kept.size;change Hid _ at a1 am;generalize au:ys h.shut (yD (zp d.S.data.toList) (yi V.vs d.S d.B))=c at*;change Hid _ at au;go_wp2_with fail;obtain⟨aT,aP,aN,aL,al⟩:=z.disk;refine(qD _ bd J ax aT aP aN aL al).mono ?_;rintro e P ⟨rfl,p⟩;rw [p];clear p P al;go_wp2_with fail;go_region_held3 (λw'=>w'.cell? ⟨bo,2,none⟩=some (.pointer (some ⟨ib,0,none⟩))/\w'.cell? ⟨w.heap.size,4,none⟩=some (.string d.S)/\w'.cell? ⟨w.heap.size,2,none⟩=some (.int .i64 d.B)) (go_keep) ((go_at_call 107;refine(Gt _ R R ib V.vs last (by exact(z.kept (za.drew (λ_=>False) v) fE).ref) (by omega) d.S U.out.S d.B).mono ?_;rintro e P ⟨⟨bt,rfl,aB⟩,p⟩;subst p;have aR:Hid (xV _ _ _ _ _):=aB;clear aB));have E:za (λ_=>False) v v.drew:=kD;have aS:Hid _:=z.kept E fE;have I:za (λk=>S k\/k=bs) w v:=((k0.mono fE).trans (za.drew _ y) iL).trans m.kept iL
 have Z:xq v.drew bp aw F H a b ca cb es vs:=(o.kept I (λi af g=>by
  rcases g with g|g;.exact(q i (j.sX i g)).1 af
  .exact(q i (by rw [g];exact B.1)).1 af) (λi af g=>by
  rcases g with g|g;.exact(q i (j.sX i g)).2.1 af
  .exact(q i (by rw [g];exact B.1)).2.1 af) (λg=>by
  rcases g with g|g;.exact(q bp (j.sX bp g)).2.2 rfl
  .exact(q bs B.1).2.2 g.symm)).kept E nF nF (λap=>ap)
 have C:∀k,(X k\/J k)->¬F k/\¬H k/\k≠bp:=λk f=>by
  rcases f with f|f;.exact q k f
  .rcases m.foot k f with l|l;.exact q k (j.sX k l)
   .have h2:y.heap.size<=k:=l;have av:=x.out;exact⟨λg=>by have:=o.flt k g;omega,λg=>by have:=o.hlt k g;omega,λg=>by have:=o.head.lt;omega⟩
 have ah:∀k,(X k\/J k)->X k\/w.heap.size<=k:=λk f=>by
  rcases f with f|f;.exact .inl f
  .rcases m.foot k f with l|l;.exact .inl (j.sX k l)
   .have h2:y.heap.size<=k:=l;have av:=x.out;exact .inr (by omega)
 have a7:=m.reads0;have be:=m.reads1;change Hid _ at E I Z C ah;go_wp2_with fail;refine(kV _ bo h (by exact aS.head) _).mono ?_;rintro e P ⟨rfl,p⟩;rw [p,au.out];clear p P;have an:za (λ_=>False) w y.drew:=k0.trans (za.drew _ y) iL;change Hid _ at an;by_cases g:c=0
 .obtain⟨u,aa,s,aO,aK,ai,W⟩:=L.yes g;have aC:=ua (au.trans g);obtain⟨u',aZ,aM,ao,a2,aI⟩:=aR.1 aC;have a9:u'=u:=by rw [aO] at ao;cases ao;rfl
  subst a9;have bf:u'.body.length<=300:=j.good.body u' (jQ aO).2.2;have aG:Hid (v.ownsRow 0 5 1 (.slice aa u'.body.length s) u'.body.length (u'.body.map qy)):=ai;have aU:Hid (zO _ R aZ u'.body):=aI;have bk:(c !=0)=false:=by simpa using g
  subst aK a2;change Hid _ at W;clear aO ai aC ao aI g;go_wp2_with fail;refine(vV _ (λk=>y.heap.size<=k) R aa aZ s aM u'.body (by exact(zO.of_own 5 aG rfl _ (λk f=>(W k f).1)).kept E nF) (by exact zO.kept aU (T:=λ_=>False) kD nF) (by omega)).mono ?_;rintro e P ⟨rfl,bn,p⟩;rw [p];clear p P;go_wp2_with fail
  have r:∀k,(Value.slice aa u'.body.length s).ownBlock=some k->w.heap.size<k/\¬J k:=λk f=>by have l:=W.out k f;have h2:y.heap.size<=k:=l.1;have av:=x.out;exact⟨by omega,l.2⟩
  change Hid _ at r
  refine(cH _ bp aw F H (λk=>(Value.slice aa u'.body.length s).ownBlock=some k) a b ca cb es vs (by exact Z.kept (T:=λ_=>False) kD nF nF (λap=>ap)) (by omega) aa u'.body.length s (u'.body.map qy) (by exact za.owns (S:=λ_=>False) kD aG nF) (by omega) (λk f=>f) (λk f=>by
   have l:=(r k f).1
   exact⟨λg=>by have:=o.flt k g;omega,λg=>by have:=o.hlt k g;omega,λg=>by have:=o.head.lt;omega⟩)).mono ?_
  rintro e aY ⟨rfl,⟨a4,aW,aV,a8,ak,bl,aq⟩,G⟩;have aH:Hid (za (λk=>F k\/(Value.slice aa u'.body.length s).ownBlock=some k\/k=bp) v aY):=⟨G.os,G.tape,G.output,G.size,G.block⟩;change Hid _ at ak aq;clear G;go_wp2;go_ret;have ab:=K.out;refine⟨zd (aJ (by omega)),⟨_,a8,a4,aW,aV,jV M w y.drew v aY X bo t h bd D ax S J R ib V last j bs hbs an (lh x) m B Y _ aH (λk f=>?_),ak,by omega,ah,λk f=>?_,λk f=>⟨λap=>?_,(C k f).2.1,(C k f).2.2⟩⟩,(I.mono (λk f=>.inl (f.elim (j.sX k) (λe=>by rw [e];exact B.1)))).trans aH (λk f=>?_)⟩
  .rcases f with f|f|f;.exact⟨λg=>(q k g).1 f,λg=>(C k (.inr g)).1 f⟩
   .have l:=r.out k f;exact⟨λg=>by have:=ab k g;omega,l.2⟩
   .exact⟨λg=>(q k g).2.2 f,λg=>(C k (.inr g)).2.2 f⟩
  .rcases aq k f with l|l|l;.exact .inl l
   .have:=(r k l).1;exact .inr (by omega)
   .have h2:v.heap.size<=k:=l;have av:=x.out;exact .inr (by omega)
  .rcases aq k ap with l|l|l;.exact(C k f).1 l
   .have h2:=r.out k l;rcases f with f|f;.have:=ab k f;omega
    .exact h2.2 f
   .have h2:v.heap.size<=k:=l;have av:=x.out;rcases f with f|f;.have:=ab k f;omega
    .have:=am.out k f;omega
  .rcases f with f|f|f;.exact .inl (.inr (.inl f))
   .have:=(r k f).1;exact .inr (by omega)
   .exact .inl (.inr (.inr f))
 .obtain⟨aa,s,aK⟩:=L.no g;have br:(c !=0)=true:=by simpa using g
  subst aK;clear g;go_wp2;go_ret
  exact⟨rfl,⟨_,F,a,ca,es,jV M w y.drew v _ X bo t h bd D ax S J R ib V last j bs hbs an (lh x) m B Y (λ_=>False) E fE,Z,by omega,ah,λk f=>.inl f,C⟩,
   (I.mono (λk f=>.inl (f.elim (j.sX k) (λe=>by rw [e];exact B.1)))).trans E fE⟩
end law
namespace law
open Go.RowKit disk ref book
variable {M:ze}{w w':World}{t base bp lc ca cb:Nat}{ones:List (Nat×(Nat->Prop))}{la a b:Option Addr}{F H:Nat->Prop}{es vs:List xU}
structure qt (M:ze) (w:World) (base bp t:Nat) (ones:List (Nat×(Nat->Prop))) (la:Option Addr) (lc:Nat) (F H:Nat->Prop) (a b:Option Addr) (ca cb:Nat) (es vs:List xU):Prop where
 row:w.ownsRow 0 120 1 (.slice la ones.length lc) ones.length (ones.map λo=>qz o.1)
 book:xq w bp (.slice la ones.length lc) F H a b ca cb es vs
 one:∀i (hi:i<ones.length),One M w ones[i].2 ones[i].1 t
 apart:∀i j (hi:i<ones.length) (hj:j<ones.length),i≠j->∀k,ones[i].2 k->¬ones[j].2 k
 sep:∀i (hi:i<ones.length) k,ones[i].2 k->¬F k/\¬H k/\k≠bp
 rsep:∀i (hi:i<ones.length) k,ones[i].2 k->(Value.slice la ones.length lc).ownBlock≠some k
 rowF:∀k,(Value.slice la ones.length lc).ownBlock=some k->¬F k/\¬H k/\k≠bp/\base<=k
 bX:∀i (hi:i<ones.length) k,ones[i].2 k->base<=k
 bF:∀k,F k->base<=k
 bH:∀k,H k->base<=k
 bP:base<=bp
 fewE:es.length<=t
 fewV:vs.length<=t
 fewO:ones.length<=t
def ja(M:ze)(w:World)(base bp t:Nat):Prop:=∃ones la lc F H a b ca cb es vs,qt M w base bp t ones la lc F H a b ca cb es vs
theorem One.lt{X:Nat->Prop}{bo:Nat}(a:One M w X bo t):∀k,X k->k<w.heap.size:=by
 obtain⟨h,bd,D,S,R,ib,V,last,a⟩:=a;exact a.xlt
theorem qt.moved{C:Nat}(p:qt M w base bp t ones la lc F H a b ca cb es vs)(Q:base<=w.heap.size)(i:Nat)(u:i<ones.length)(S:t<=C){X' F':Nat->Prop}{L:Option Addr}{E:Nat}{A:List xU}(G:One M w' X' ones[i].1 C)(D:xq w' bp (.slice la ones.length lc) F' H L b E cb A vs)(O:A.length<=C)(y:∀k,X' k->ones[i].2 k\/w.heap.size<=k)(B:∀k,F' k->F k\/w.heap.size<=k)(N:∀k,X' k->¬F' k/\¬H k/\k≠bp)(s:za (λk=>ones[i].2 k\/F k\/k=bp) w w'):ja M w' base bp C/\za (λk=>base<=k) w w':=by
 have x:∀j (l:j<ones.length) k,ones[j].2 k->k<w.heap.size:=λj l=>(p.one j l).lt;have z:∀k,(Value.slice la ones.length lc).ownBlock=some k->k<w.heap.size:=λk s=>(p.row.lt k s).2
 have m:∀j (l:j<(ones.set i (ones[i].1,X')).length),(j=i/\(ones.set i (ones[i].1,X'))[j]=(ones[i].1,X'))\/(∃d:j<ones.length,j≠i/\(ones.set i (ones[i].1,X'))[j]=ones[j]):=λj l=>by
  by_cases g:j=i;.subst g;exact .inl ⟨rfl,by simp⟩
  .exact .inr ⟨by simpa using l,g,List.getElem_set_ne (iw g) _⟩
 have o:(ones.set i (ones[i].1,X')).length=ones.length:=ew ..;refine⟨⟨ones.set i (ones[i].1,X'),la,lc,F',H,L,b,E,cb,A,vs,?_,?_,λj l=>?_,λj k l r J q f=>?_,λj l q f=>?_,λj l q f=>?_,λk r=>?_,λj l q f=>?_,λk r=>?_,p.bH,p.bP,?_,?_,?_⟩,⟨s.os,s.tape,s.output,s.size,λk n K=>s.block k n (λc=>K ?_)⟩⟩
 .rw [o]
  have g:(ones.set i (ones[i].1,X')).map (λR=>qz R.1)=ones.map λR=>qz R.1:=by
   rw [lU];apply mB (by simp);intro j e h2;simp only [mE,ia];split
   next h=>subst h;rfl
   next=>rfl
  rw [g]
  exact s.owns p.row (λk n c=>by
   have e:=p.rowF k n;rcases c with c|c|c;.exact p.rsep i u k c n
   .exact e.1 c
   .exact e.2.2.1 c)
 .rw [o];exact D
 .rcases m j l with⟨g,h⟩|⟨d,g,h⟩;.subst g;rw [h];exact G
  .rw [h];refine((p.one j d).kept s (λk n c=>?_)).later S;rcases c with c|c|c;.exact p.apart i j u d (iw g) k c n
   .exact(p.sep j d k n).1 c
   .exact(p.sep j d k n).2.2 c
 .rcases m j l with⟨g,h⟩|⟨d,g,h⟩<;>rcases m k r with⟨P,I⟩|⟨v,P,I⟩<;>rw [h] at f<;>rw [I]
  .omega
  .intro c;rcases y q f with e|e;.exact p.apart i k u v (iw P) q e c
   .have:=x k v q c;omega
  .intro c;rcases y q c with e|e;.exact p.apart j i d u g q f e
   .have:=x j d q f;omega
  .exact p.apart j k d v J q f
 .rcases m j l with⟨g,h⟩|⟨d,g,h⟩<;>rw [h] at f
  .exact N q f
  .refine⟨λc=>?_,(p.sep j d q f).2.1,(p.sep j d q f).2.2⟩;rcases B q c with e|e;.exact(p.sep j d q f).1 e
   .have:=x j d q f;omega
 .rw [o];intro c;rcases m j l with⟨g,h⟩|⟨d,g,h⟩<;>rw [h] at f
  .rcases y q f with e|e;.exact p.rsep i u q e c
   .have:=z q c;omega
  .exact p.rsep j d q f c
 .rw [o] at r;have e:=p.rowF k r;refine⟨λc=>?_,e.2⟩;rcases B k c with h2|h2;.exact e.1 h2
  .have:=z k r;omega
 .rcases m j l with⟨g,h⟩|⟨d,g,h⟩<;>rw [h] at f
  .rcases y q f with e|e;.exact p.bX i u q e
   .omega
  .exact p.bX j d q f
 .rcases B k r with e|e;.exact p.bF k e
  .omega
 .exact O
 .have:=p.fewV;omega
 .rw [o];have:=p.fewO;omega
 .rcases c with c|c|c;.exact p.bX i u k c
  .exact p.bF k c
  .rw [c];exact p.bP
theorem qt.asked(p:qt M w base bp t ones la lc F H a b ca cb es vs)(d:base<=w.heap.size)(i:Nat)(m:i<ones.length)
 {e:Ending} (s:Ve M w w' ones[i].2 ones[i].1 t bp (.slice la ones.length lc) F H b cb es vs e):e=.returned (.bool true)/\ja M w' base bp (t+1)/\za (λk=>base<=k) w w':=by
 obtain⟨f,⟨X',F',u,q,o,g,c,r,l,j,h⟩,n⟩:=s;exact⟨f,p.moved d i m (Nat.le_succ t) g c (by have:=p.fewE;omega) l j h n⟩
theorem qt.stepped(p:qt M w base bp t ones la lc F H a b ca cb es vs)(g:base<=w.heap.size)(i:Nat)(f:i<ones.length)
 {e:Ending} (s:Stepped M w w' ones[i].2 ones[i].1 t e):e=.returned (.bool true)/\ja M w' base bp (t+1)/\za (λk=>base<=k) w w':=by
 obtain⟨X',j,h⟩:=s.one;refine p.asked g i f ⟨s.ret,⟨X',F,a,ca,es,j,p.book.kept s.kept (λk d c=>(p.sep i f k c).1 d) (λk d c=>(p.sep i f k c).2.1 d) (λc=>(p.sep i f bp c).2.2 rfl),by omega,h,λk d=>.inl d,λk d=>?_⟩,s.kept.mono (λk d=>.inl d)⟩;rcases h k d with l|l;.exact p.sep i f k l
 .exact⟨λc=>by have:=p.book.flt k c;omega,λc=>by have:=p.book.hlt k c;omega,λc=>by have:=p.book.head.lt;omega⟩
theorem qt.idle(p:qt M w base bp t ones la lc F H a b ca cb es vs)(k:za (λ_=>False) w w'):ja M w' base bp (t+1)/\za (λk=>base<=k) w w':=
 ⟨⟨ones,la,lc,F,H,a,b,ca,cb,es,vs,k.owns p.row nF,p.book.kept k nF nF (λd=>d),λi c=>((p.one i c).kept k nF).later (by omega),p.apart,p.sep,p.rsep,p.rowF,p.bX,p.bF,p.bH,p.bP,by have:=p.fewE;omega,by have:=p.fewV;omega,by have:=p.fewO;omega⟩,k.mono fE⟩
theorem qt.push{v:World}(p:qt M w base bp t ones la lc F H a b ca cb es vs)(R:base<=w.heap.size)(bo:Nat)(X:Nat->Prop)(g c:Nat)
 (J:v.ownsRow 0 120 1 (.slice (some ⟨g,0,none⟩) (ones.length+1) c) (ones.length+1) (ones.map (λV=>qz V.1)++[qz bo])) (N:za (λk=>(Value.slice la ones.length lc).ownBlock=some k) w v) (D:(Value.slice la ones.length lc).ownBlock=some g\/w.heap.size<=g)
 (K:One M v X bo (t+1)) (B:∀k,X k->w.heap.size<=k/\k≠g):
 qt M (v.setCell ⟨bp,0,none⟩ (.slice (some ⟨g,0,none⟩) (ones.length+1) c)) base bp (t+1) (ones++[(bo,X)]) (some ⟨g,0,none⟩) c F H a b ca cb es vs/\za (λk=>base<=k) w (v.setCell ⟨bp,0,none⟩ (.slice (some ⟨g,0,none⟩) (ones.length+1) c)):=by
 have z:=za.setCell (S:=λk=>k=bp) v ⟨bp,0,none⟩ (.slice (some ⟨g,0,none⟩) (ones.length+1) c) rfl;have U:=p.book.head.lt;have A:∀j (o:j<ones.length) k,ones[j].2 k->k<w.heap.size:=λj o=>(p.one j o).lt;have q:(ones++[(bo,X)]).length=ones.length+1:=by simp
 have G:=p.book.flt;have I:=p.book.hlt
 have E:¬F g/\¬H g/\g≠bp/\base<=g:=by
  rcases D with s|s;.exact p.rowF g s
  .exact⟨λd=>by have:=G g d;omega,λd=>by have:=I g d;omega,by omega,by omega⟩
 have l:∀i (u:i<(ones++[(bo,X)]).length),(∃T:i<ones.length,(ones++[(bo,X)])[i]=ones[i])\/(i=ones.length/\(ones++[(bo,X)])[i]=(bo,X)):=λi u=>by
  by_cases s:i<ones.length;.exact .inl ⟨s,iH s⟩
  .right;have r:i=ones.length:=by omega
   subst r;exact⟨rfl,by simp⟩
 have f:=p.book.kept N (λk m d=>(p.rowF k d).1 m) (λk m d=>(p.rowF k d).2.1 m) (λd=>(p.rowF bp d).2.2.1 rfl)
 refine⟨⟨?_,?_,λj o=>?_,λj k o y O x h=>?_,λj o x h=>?_,λj o x h=>?_,λk y=>?_,λj o x h=>?_,p.bF,p.bH,p.bP,by have:=p.fewE;omega,by have:=p.fewV;omega,by rw [q];have:=p.fewO;omega⟩,
  ((N.mono (λk m=>(p.rowF k m).2.2.2)).trans z (λk m=>.inl (by rw [m];exact p.bP)))⟩
 .rw [q,eh];exact z.owns J (λk m r=>by simp [Value.ownBlock] at m;have:=E.2.2.1;omega)
 .rw [q];have P:yk (v.setCell ⟨bp,0,none⟩ (.slice (some ⟨g,0,none⟩) (ones.length+1) c)) bp (.slice (some ⟨g,0,none⟩) (ones.length+1) c) (.slice a es.length ca) (.slice b vs.length cb):=⟨by rw [heap_setCell_same v bp 0 _ _ _ f.head.head];rfl⟩;exact⟨P,f.bytes.kept z (λi u r=>f.fbp (by rw [<-r];exact u)),f.rows.kept z (λi u r=>f.hbp (by rw [<-r];exact u)),f.fbp,f.hbp,f.apart,f.few,f.few2,λi u=>ay (f.flt i u) z.size,λi u=>ay (f.hlt i u) z.size⟩
 .rcases l j o with⟨e,n⟩|⟨r,n⟩<;>rw [n]
  .exact(((p.one j e).kept N (λk m d=>p.rsep j e k m d)).kept z (λk m d=>(p.sep j e k m).2.2 d)).later (by omega)
  .exact K.kept z (λk m d=>by have:=(B k m).1;omega)
 .rcases l j o with⟨e,n⟩|⟨r,n⟩<;>rcases l k y with⟨C,Q⟩|⟨L,Q⟩<;>rw [n] at h<;>rw [Q]
  .exact p.apart j k e C O x h
  .intro d;have:=(B x d).1;have:=A j e x h;omega
  .intro d;have:=(B x h).1;have:=A k C x d;omega
  .omega
 .rcases l j o with⟨e,n⟩|⟨r,n⟩<;>rw [n] at h
  .exact p.sep j e x h
  .have s:=(B x h).1;exact⟨λd=>by have:=G x d;omega,λd=>by have:=I x d;omega,by omega⟩
 .rw [q];simp only [Value.ownBlock,ne_eq,ij];intro L;rcases l j o with⟨e,n⟩|⟨r,n⟩<;>rw [n] at h
  .rcases D with s|s;.exact p.rsep j e x h (by rw [<-L];exact s)
   .have:=A j e x h;omega
  .exact(B x h).2 L.symm
 .rw [q] at y;simp only [Value.ownBlock,ij] at y;rw [<-y];exact E
 .rcases l j o with⟨e,n⟩|⟨r,n⟩<;>rw [n] at h
  .exact p.bX j e x h
  .have:=(B x h).1;omega
end law
namespace law
open Go.ChangeShapes Go.WideShapes Go.ChangeAt Go.RowKit disk ref book
open keys (zh zd zx zq zp)
theorem Tryz.infoPone:(Tryz.prog.info? 120).map (λi=>(i.zero,i.size,i.bytes))=some (some (.pointer none),1,8):=by kernel_rfl
theorem fV(w:World)(a b c:Obj):(((w.alloc a).alloc b).alloc c).heap[w.heap.size+1+1]? =some c:=by
 have:=ac ((w.alloc a).alloc b) c;simpa using this
theorem xO(S:Nat->Prop)(w:World)(a b c:Obj):za S w (((w.alloc a).alloc b).alloc c):=((za.alloc S w a).trans (za.alloc S _ b) iL).trans (za.alloc S _ c) iL
def cM(c n:Int):Int:=if c<0 then (-(c+1)).tmod n else c.tmod n
theorem Vj(c n:Int)(a:0<n):0<=cM c n/\cM c n<n:=by
 unfold cM;split;.exact⟨Int.tmod_nonneg n (by omega),Int.tmod_lt_of_pos _ a⟩
 .exact⟨Int.tmod_nonneg n (by omega),Int.tmod_lt_of_pos _ a⟩
theorem Qu(w:World)(c n:Int)(g:zD c)(k:0<n)(i:n<=9223372036854775807):
 Calls Tryz.prog 58 #[.int .i64 c,.int .i64 n] w λe w'=>e=.returned (.int .i64 (cM c n))/\w'=w:=by
 obtain⟨j,h2⟩:=g;by_cases h:c<0
 .have a:cM c n=(-(c+1)).tmod n:=aB h;have d:(-(c+1)).tmod n= -((c+1).tmod n):=Int.neg_tmod ..;have b:Hid _:=a;have f:Hid _:=d;clear a d;go_enter Tryz.func58,Tryz.ntmps58;go_wp2;go_ret;exact⟨zh (by rw [b.out];first|rfl|rw [f.out]),rfl⟩
 .have a:cM c n=c.tmod n:=aw h;have d:c.tmod n=c%n:=Int.tmod_eq_emod_of_nonneg (by omega);have b:Hid _:=a;have f:Hid _:=d;clear a d;go_enter Tryz.func58,Tryz.ntmps58;go_wp2;go_ret;exact⟨zh (by rw [b.out];first|rfl|rw [f.out]),rfl⟩
theorem Je(c n:Int)(d:zD c)(b:0<n)(a:n<=9223372036854775807):∃i:Nat,(i:Int)<n/\∀w,Calls Tryz.prog 58 #[.int .i64 c,.int .i64 n] w λe w'=>e=.returned (.int .i64 (i:Int))/\w'=w:=by
 obtain⟨f,h⟩:=Vj c n b;obtain⟨i,g⟩:=lw f;exact⟨i,by omega,λw=>by rw [<-g];exact Qu w c n d b a⟩
def Dq(bd bs rb:Nat):qg:=⟨qz bd,qz bs,qz rb,.pointer none,.string ByteArray.empty,.int .i64 0,.bool false,.slice none 0 0,0,0,false⟩
section
variable {M N:ze} {w w':World} {X S S' R R' T:Nat->Prop} {bo bd bs ib t:Nat} {h h':qg} {D D':Dk} {V U:qE} {last:Int} {P:qE->Prop}
theorem ZJ.kept(b:ZJ M w X bo t h bd D S R ib V last P)(k:za (λ_=>False) w w'):ZJ M w' X bo t h bd D S R ib V last P:=
 {b with head:=b.head.kept k (λc=>c),disk:=b.disk.kept k nF,ref:=b.ref.kept k nF nF,xlt:=λi a=>ay (b.xlt i a) k.size,torn:=b.torn.kept k nF}
theorem ZJ.disked(b:ZJ M w X bo t h bd D S R ib V last P)(k:za S w w')(f:zg w' bd S' D')(d:∀k,S' k->S k)(e:M.Fu D'.fuse)(c:M.Could D' P):ZJ M w' X bo t h bd D' S' R ib V last P:=
 {b with head:=b.head.kept k b.bS,disk:=f,ref:=b.ref.kept k (λi a=>(b.rX i a).2.1) (λi a=>(b.rX i a).2.1),sX:=λi a=>b.sX i (d i a),rX:=λi a=>⟨(b.rX i a).1,λc=>(b.rX i a).2.1 (d i c),(b.rX i a).2.2⟩,bS:=λc=>b.bS (d bo c),xlt:=λi a=>ay (b.xlt i a) k.size,fu:=e,torn:=b.torn.kept k (λi a=>(b.rX i a).2.1),could:=c}
theorem kI.fuse(y:kI M w X S R bo bd h D V last)(f:D'.bs=D.bs)(i:D'.ps=D.ps):kI M w X S R bo bd h D' V last:=by
 have t:vN M w R h D V last->vN M w R h D' V last:=λy=>by
  cases y with
  |put mb s d body a g c m k j h2 l u x could z=>exact .put mb s d body a g c m k j h2 l u x (could.as f i) z
  |erase mb us g d a n c m k j h2 l v A b could=>exact .erase mb us g d a n c m k j h2 l v A b (could.as f i)
 cases y with
 |live bs b p r o q e shut mb live=>exact .live bs b p r o q e shut mb ⟨by rw [i];exact live.ps,by rw [f];exact live.rest,by rw [f];exact live.big⟩
 |shut bs b p r o q e shut torn=>exact .shut bs b p r o q e shut (t torn)
 |gone b torn=>exact .gone b (torn.imp (λh=>⟨h.1,h.2.as f i⟩) t)
theorem yt.fused(l:yt M w X bo t h bd D S R ib V last)(k:za (λk=>k=bd) w w')(d:S bd)(f:Int)(s:zg w' bd S {D with fuse:=f })(r:M.Fu f):yt M w' X bo t h bd {D with fuse:=f} S R ib V last:=by
 have g:∀i,R i->¬i=bd:=λi n e=>(l.rX i n).2.1 (by rw [e];exact d);have p:¬bo=bd:=λe=>l.bS (by rw [e];exact d)
 have q:kI M w' X S R bo bd h D V last:=by
  cases l.st with
  |live bs b m a j o c shut mb live=>exact .live bs b m a j o (M.sto_kept _ _ _ _ _ c k (λe=>a (by rw [show bs=bd from e];exact d))) shut mb live
  |shut bs b m a j o c shut torn=>exact .shut bs b m a j o (M.sto_kept _ _ _ _ _ c k (λe=>a (by rw [show bs=bd from e];exact d))) shut (torn.kept k g)
  |gone b torn=>exact .gone b (torn.imp id (λh=>h.kept k g))
 exact {l with head:=l.head.kept k p,disk:=s,ref:=l.ref.kept k g g,xlt:=λi n=>ay (l.xlt i n) k.size,fu:=r,st:=q.fuse rfl rfl}
end
section
variable {M N:ze} {w w':World} {X S S' R R' T:Nat->Prop} {bo bd bs ib t:Nat} {h h':qg} {D D':Dk} {V U:qE} {last:Int} {P:qE->Prop}
set_option maxRecDepth 60000 in
theorem Xg(aq:q8 M)(ao:q8 N)(av:xk N)(ap:xy M)(Y:Vh M N)(J:yt M w X bo t h bd D S R ib V last)(bw:t<=2199023255552)(c:xg)(Q:Nat->Prop)(L:c.Ok w Q)(a3:∀k,Q k->¬X k/\k<w.heap.size)(n:c.kind=8\/c.kind=9\/c.kind=10\/c.kind=11):
 Calls Tryz.prog 59 #[.pointer (some ⟨bo,0,none⟩),.agg #[.int .i64 c.kind,.int .i64 c.A,.int .i64 c.B,.int .i64 c.C,.string c.S,.string c.P,.slice c.la c.l.length c.lc,.slice c.ka c.ks.length c.kc]] w λe w'=>Stepped M w w' X bo t e:=by
 have k0:za (λ_=>False) w (w.alloc (.cells #[.int .i64 c.kind,.int .i64 c.A,.int .i64 c.B,.int .i64 c.C,.string c.S,.string c.P,.slice c.la c.l.length c.lc,.slice c.ka c.ks.length c.kc] 81)):=za.alloc _ _ _;have C:xc (w.alloc (.cells #[.int .i64 c.kind,.int .i64 c.A,.int .i64 c.B,.int .i64 c.C,.string c.S,.string c.P,.slice c.la c.l.length c.lc,.slice c.ka c.ks.length c.kc] 81)) w.heap.size c:=⟨ac w _⟩;have ak:=L.kept k0 nF;have d:=J.kept k0 nF;have aC:=J.xlt;have br:=L.klen;obtain⟨aJ,az⟩:=L.B;go_enter Tryz.func59,Tryz.ntmps59
 go_upto_region 1 with fail
 generalize w.alloc (.cells #[.int .i64 c.kind,.int .i64 c.A,.int .i64 c.B,.int .i64 c.C,.string c.S,.string c.P,.slice c.la c.l.length c.lc,.slice c.ka c.ks.length c.kc] 81)=o at*;have z:=C.lt;have U:=C.c0;have aI:=C.c2;have ax:=C.c7;have aD:Hid (¬X w.heap.size):=λbb=>by have:=aC _ bb;omega
 obtain⟨P,g⟩:=d.bare;have Z:o.cell? ⟨bo,0,none⟩=some (.pointer (some ⟨bd,0,none⟩)):=d.head.c0.trans (congrArg some d.hd);have K:=d.head.lt;obtain⟨ad,ab,an,ah,aj⟩:=d.disk;have ae:Hid (zn o bd S D ad ab an ah):=aj;have r:S bd:=(aj.own bd).2 (.inl rfl);have aG:bo≠bd:=λe=>d.bS (by rw [e];exact r);have aK:w.heap.size≠bd:=λe=>aD (by rw [e];exact d.sX bd r);have F:Hid (¬S bo/\¬S w.heap.size):=⟨d.bS,λy=>aD (d.sX _ y)⟩
 have aB:Hid (∀j,j<c.ks.length->∃A au,c.ka=some ⟨A,au,none⟩/\¬S A/\A<o.heap.size/\o.cell? ⟨A,au+j,none⟩=some (.bool (c.ks.getD j false))):=λj aR=>by obtain⟨A,au,be,bi,bf,bg⟩:=ak.ks j aR;exact⟨A,au,be,λy=>(a3 A bi).1 (d.sX A y),bf,bg⟩
 change Hid _ at aC k0 d g r;clear C ak aj J L a3;generalize bk:w.heap.size=s at*;rcases n with n|n|n|n
 .rw [n] at U;go_wp2_with fail;go_region_held3 (λw'=>w'.cell? ⟨bo,0,none⟩=some (.pointer (some ⟨bd,0,none⟩))/\w'.cell? ⟨s,2,none⟩=some (.int .i64 c.B)) (go_keep) ((go_at_call 43;refine(ur o.drew bd S D ad ab an ah (by exact ae.kept (za.drew (λ_=>False) o) nF) c.B).mono ?_;rintro e u ⟨rfl,q,p⟩;have f:Hid (za (λk=>k=bd) o u):=(za.drew (λk=>k=bd) o).trans p iL;have aW:Hid (zn u bd S {D with fuse:=c.B} ad ab an ah):=q;have ag:u.cell? ⟨bo,0,none⟩=some (.pointer (some ⟨bd,0,none⟩)):=(f.cell (a:=⟨bo,0,none⟩) K aG).trans Z;have aF:u.cell? ⟨s,2,none⟩=some (.int .i64 c.B):=(f.cell (a:=⟨s,2,none⟩) z aK).trans aI;clear q p));go_wp2;go_ret;have a9:=d.fused f r c.B ⟨_,_,_,_,aW⟩ (Y.every _ ⟨aJ,az⟩);exact⟨rfl,⟨X,One.later ⟨_,_,_,_,_,_,_,_,a9⟩ (Nat.le_succ t),λk i=>.inl i⟩,(k0.mono fE).trans f (λk i=>.inl (by rw [show k=bd from i];exact d.sX bd r))⟩
 .rw [n] at U;go_wp2_with fail;go_region_held3 (λw'=>w'.cell? ⟨bo,0,none⟩=some (.pointer (some ⟨bd,0,none⟩))/\w'.cell? ⟨s,7,none⟩=some (.slice c.ka c.ks.length c.kc)) (go_keep) ((go_at_call 41;refine(di o.drew bd S D ad ab an ah (by exact ae.kept (za.drew (λ_=>False) o) nF) c.ka c.ks c.kc (by omega) (by exact aB)).mono ?_;rintro e u ⟨rfl,⟨aN,q,E⟩,p⟩;have f:Hid _:=(za.drew S o).trans p iL;have v:Hid _:=g.disked f q E M.fu_neg (g.could.fall c.ks);have ag:=(f.cell (a:=⟨bo,0,none⟩) K F.1).trans Z;have a4:=(f.cell (a:=⟨s,7,none⟩) z F.2).trans ax;clear q E p));go_wp2_with fail;refine(jp aq ao av ap Y v false (.inr rfl) (by omega)).mono ?_;rintro e aM l;have x:Hid _:=(l.before (f.mono (λk i=>g.sX k i)) (λk i=>.inl i)).before (k0.mono fE) (λk i=>.inl i);obtain rfl:=l.ret;clear l;go_wp2;go_ret;exact x.step
 .rw [n] at U;go_wp2_with fail;refine(jp aq ao av ap Y g true (.inl rfl) (by omega)).mono ?_;rintro e aM l;have x:Hid _:=l.before (k0.mono fE) (λk i=>.inl i);obtain rfl:=l.ret;clear l;go_wp2;go_ret;exact x.step
 .rw [n] at U;go_wp2_with fail;go_region_held3 (λw'=>w'.cell? ⟨bo,0,none⟩=some (.pointer (some ⟨bd,0,none⟩))/\w'.cell? ⟨s,7,none⟩=some (.slice c.ka c.ks.length c.kc)) (go_keep) ((go_at_call 41;refine(di o.drew bd S D ad ab an ah (by exact ae.kept (za.drew (λ_=>False) o) nF) c.ka c.ks c.kc (by omega) (by exact aB)).mono ?_;rintro e u ⟨rfl,⟨aN,q,E⟩,p⟩;have f:Hid _:=(za.drew S o).trans p iL;have v:Hid _:=g.disked f q E M.fu_neg (g.could.fall c.ks);have ag:=(f.cell (a:=⟨bo,0,none⟩) K F.1).trans Z;have a4:=(f.cell (a:=⟨s,7,none⟩) z F.2).trans ax;have aF:=(f.cell (a:=⟨s,2,none⟩) z F.2).trans aI;have aL:s<u.heap.size:=(by have:=f.size;omega);have aQ:bo<u.heap.size:=(by have:=f.size;omega);clear q E p));obtain⟨a2,aY,aP,aV,I⟩:=v.disk;have aa:Hid _:=(I.own bd).2 (.inl rfl);change Hid _ at I;obtain⟨ar,bj,O⟩:=Je c.B 40 ⟨aJ,az⟩ (by omega) (by omega);change Hid _ at O;go_wp2_with fail
  go_region_held3 (λw'=>w'.cell? ⟨bo,0,none⟩=some (.pointer (some ⟨bd,0,none⟩))/\w'.cell? ⟨s,2,none⟩=some (.int .i64 c.B)) (go_keep) (first
   |(go_at_call 58;refine(O _).mono ?_;rintro e bz ⟨rfl,rfl⟩)
   |(go_at_call 43;refine(ur u.drew bd aN _ a2 aY aP aV (by exact I.kept (za.drew (λ_=>False) u) nF) ar).mono ?_;rintro e aM ⟨rfl,aE,ay⟩;have W:Hid _:=(za.drew (λk=>k=bd) u).trans ay iL;have a0:Hid (ZJ M aM X bo t h bd {D with bs:=zm D.bs (sel D.ps c.ks),ps:=[],fuse:=(ar:Int)} aN R ib V last P):=v.disked (W.mono (λk i=>by rw [show k=bd from i];exact aa)) ⟨_,_,_,_,aE⟩ (λ_ h=>h) (Y.every _ ⟨by show _<=(ar:Int);omega,by show (ar:Int)<=_;omega⟩) (v.could.as rfl rfl);have bm:=(W.cell (a:=⟨bo,0,none⟩) aQ aG).trans ag;have bl:=(W.cell (a:=⟨s,2,none⟩) aL aK).trans aF;clear aE ay))
  have aS:Hid _:=((k0.mono fE).trans f (λk i=>.inl (g.sX k i))).trans W (λk i=>.inl (by rw [show k=bd from i];exact v.sX bd aa));go_wp2_with fail;refine(jp aq ao av ap Y a0 true (.inl rfl) (by omega)).mono ?_;rintro e bc l;have G:=l.before aS (λk i=>.inl i);have x:Hid _:=G;obtain rfl:=l.ret;obtain⟨bu,⟨a6,a1,bh,ba,bx,bq,bA,a8,m⟩,am⟩:=G.one;have ai:=m.head.c1;have bp:=m.head.c0.trans (congrArg some m.hd);change Hid _ at m am;clear l G;by_cases T:a6.s=.pointer none
  .rw [T] at ai;obtain⟨bv,B⟩:=m.bare;obtain⟨aT,a5,aX,aU,af⟩:=B.disk;change Hid _ at B af;clear T;go_wp2_with fail;refine(di bc a1 ba bh aT a5 aX aU af none [] 0 (by simp) (λj aR=>by simp at aR)).mono ?_;rintro e bB ⟨rfl,⟨bt,aA,aH⟩,al⟩;have aZ:Hid _:=B.disked al aA aH M.fu_neg (B.could.fall []);have a7:Hid _:=x.kept.trans al (λk i=>am k (B.sX k i));clear aA aH al;go_wp2_with fail;refine(jp aq ao av ap Y aZ false (.inr rfl) (by omega)).mono ?_;rintro e bC H;have aO:Hid _:=H.before a7 am.out;obtain rfl:=H.ret;clear H;go_wp2;go_ret;exact aO.step
  .obtain⟨bn,aw⟩:∃b,a6.s=qz b:=by
    cases m.st with
    |live bs y=>exact⟨bs,y⟩
    |shut bs y=>exact⟨bs,y⟩
    |gone y=>exact absurd y T
   rw [aw] at ai;unfold qz at ai;clear T aw;go_wp2;go_ret;exact x.step
end
def fW(bd:Nat)(sv:Value)(rb:Nat):qg:=⟨qz bd,sv,qz rb,.pointer none,.string ByteArray.empty,.int .i64 0,.bool false,.slice none 0 0,0,0,false⟩
def GU(M:ze)(w:World)(bd:Nat)(S:Nat->Prop)(D:Dk)(sv:Value)(ec:Int):Prop:=(∃bs,sv=qz bs/\ec=0/\¬S bs/\M.Sto w bs (some bd)/\M.Live D ⟨[],0⟩)\/(sv=.pointer none/\ec=7/\D.fuse=0/\M.Could D (λU=>U=⟨[],0⟩))
theorem Vk(M:ze)(a E:World)(bd B:Nat)(c:Value)(N:Int)(l T:Nat->Prop)(h:Dk)(s:Obj)(t:Nat)(D:zg a bd l h)(y:GU M a bd l h c N)(hbs:∀b,c=qz b->B<=b)(F:0<=h.reads)(R:h.reads<=2000)(fu:M.Fu h.fuse)(J:64<=h.bs.length)
 (q:za T (((a.alloc (.cells #[.slice none 0 0,.int .i64 0] 164)).alloc (.cells (fW bd c a.heap.size).cells 125)).alloc s) E) (m:∀k,T k->k<B) (P:∀k,l k->B<=k) (V:B<=a.heap.size):
 yt M E (λk=>l k\/c=qz k\/k=a.heap.size\/k=a.heap.size+1) (a.heap.size+1) t (fW bd c a.heap.size) bd h l (λk=>k=a.heap.size) a.heap.size ⟨[],0⟩ 0:=by
 have k3:=xO T a (.cells #[.slice none 0 0,.int .i64 0] 164) (.cells (fW bd c a.heap.size).cells 125) s;have u:=k3.trans q iL;have o:∀k,l k->k<a.heap.size:=λk d=>D.lt k d
 have r:∀b,c=qz b->b<a.heap.size/\¬l b/\M.Sto a b (some bd)/\M.Live h ⟨[],0⟩:=λb e=>by
  rcases y with⟨bs,f,_,L,h2,j⟩|⟨f,_⟩
  .have w:bs=b:=by rw [f] at e;unfold qz at e;simpa using e
   subst w;exact⟨M.sto_lt _ _ _ h2,L,h2,j⟩
  .rw [f] at e;unfold qz at e;simp at e
 have C:(((a.alloc (.cells #[.slice none 0 0,.int .i64 0] 164)).alloc (.cells (fW bd c a.heap.size).cells 125)).alloc s).heap[a.heap.size]? =some (.cells #[.slice none 0 0,.int .i64 0] 164 (0,0)):=by have f:=(za.alloc (λ_=>False) ((a.alloc (.cells #[.slice none 0 0,.int .i64 0] 164)).alloc (.cells (fW bd c a.heap.size).cells 125)) s).block a.heap.size (by simp;omega) (λn=>n);have w:=(za.alloc (λ_=>False) (a.alloc (.cells #[.slice none 0 0,.int .i64 0] 164)) (.cells (fW bd c a.heap.size).cells 125)).block a.heap.size (by simp) (λn=>n);rw [f,w];exact ac a _
 have H:(((a.alloc (.cells #[.slice none 0 0,.int .i64 0] 164)).alloc (.cells (fW bd c a.heap.size).cells 125)).alloc s).heap[a.heap.size+1]? =some (.cells (fW bd c a.heap.size).cells 125 (0,0)):=by have f:=(za.alloc (λ_=>False) ((a.alloc (.cells #[.slice none 0 0,.int .i64 0] 164)).alloc (.cells (fW bd c a.heap.size).cells 125)) s).block (a.heap.size+1) (by simp) (λn=>n);rw [f];have:=ac (a.alloc (.cells #[.slice none 0 0,.int .i64 0] 164)) (.cells (fW bd c a.heap.size).cells 125);simpa using this
 have Q:=q.size;have G:(((a.alloc (.cells #[.slice none 0 0,.int .i64 0] 164)).alloc (.cells (fW bd c a.heap.size).cells 125)).alloc s).heap.size=a.heap.size+3:=by simp
 have x:zJ (((a.alloc (.cells #[.slice none 0 0,.int .i64 0] 164)).alloc (.cells (fW bd c a.heap.size).cells 125)).alloc s) (λk=>k=a.heap.size) (λk=>k=a.heap.size) a.heap.size [] 0:=
  ⟨none,0,[],C,aV _ _ _ _,yY.nil _ _,rfl,λk d=>(by cases d),by simp [Value.ownBlock]⟩
 have p:Good ⟨[],0⟩:=by
  rcases y with⟨bs,_,_,_,_,j⟩|⟨_,_,_,j⟩;.exact j.good
  .obtain⟨U,O,I⟩:=j.all [];rw [O] at I;exact M.good _ _ I
 refine⟨⟨(q.block _ (by rw [G];omega) (λg=>by have:=m _ g;omega)).trans H⟩,rfl,rfl,D.kept u (λi A g=>by have:=m i g;have:=P i A;omega),
  x.kept q (λi A g=>by have:=m i g;omega) (λi A g=>by have:=m i g;omega),λk d=>.inl d,λk d=>⟨.inr (.inr (.inl d)),λg=>by have:=o k g;omega,by omega⟩,.inr (.inr (.inr rfl)),λg=>by have:=o _ g;omega,λk d=>?_,eb _,λv K=>(by cases K),eb _,eb _,eb _,?_,F,by omega,fu,p,J,?_⟩
 .rcases d with d|d|d|d;.have:=o k d;omega
  .have:=(r k d).1;omega
  .omega
  .omega
 .show (0:Int)+0<=(t:Int);omega
 .rcases y with⟨bs,f,_⟩|⟨f,_,_,j⟩
  .have z:=r bs f;have S:=hbs bs f;exact .live bs f (.inr (.inl f)) z.2.1 (by omega) (by omega) (M.sto_kept _ _ _ _ _ z.2.2.1 u (λg=>by have:=m _ g;omega)) rfl rfl z.2.2.2
  .exact .gone f (.inl ⟨rfl,j⟩)
theorem qt.swap{M:ze}{w w':World}{base bp t bo:Nat}{X:Nat->Prop}{ones:List (Nat×(Nat->Prop))}{la:Option Addr}{lc:Nat}{F H:Nat->Prop}{a b:Option Addr}{ca cb:Nat}{es vs:List xU}(p:qt M w base bp t ones la lc F H a b ca cb es vs)(h:base<=w.heap.size)(i:Nat)(j:i<ones.length)(g:ones[i]=(bo,X)){e:Ending}(s:uB M w w' X bo t e):ja M w' base bp t/\za (λk=>base<=k) w w':=by
 obtain⟨X',m,h2⟩:=s.one;have f:∀k,X k->¬F k/\¬H k/\k≠bp:=λk c=>p.sep i j k (by rw [g];exact c);refine p.moved h i j (aF t) (X':=X') (F':=F) (by rw [g];exact m) (p.book.kept s.kept (λk c d=>(f k d).1 c) (λk c d=>(f k d).2.1 c) (λd=>(f bp d).2.2 rfl)) p.fewE (λk c=>by rw [g];exact h2 k c) (λk c=>.inl c) (λk c=>?_) (s.kept.mono (λk c=>.inl (by rw [g];exact c)));rcases h2 k c with l|l;.exact f k l
 .exact⟨λd=>by have:=p.book.flt k d;omega,λd=>by have:=p.book.hlt k d;omega,λd=>by have:=p.book.head.lt;omega⟩
set_option maxRecDepth 60000 in
theorem Xh{M N:ze}(a1:q8 M)(bk:q8 N)(bI:xk N)(bB:xy M)(a0:Vh M N)(w:World)(base bp t:Nat)(ones:List (Nat×(Nat->Prop)))(la:Option Addr)(lc:Nat)(F H:Nat->Prop)(a b:Option Addr)(ca cb:Nat)(es vs:List xU)(p:qt M w base bp t ones la lc F H a b ca cb es vs)(aI:base<=w.heap.size)(b3:t<=2199023255552)
 (c:xg) (Q:Nat->Prop) (V:c.Ok w Q) (bl:∀k,Q k->k<base):
 Calls Tryz.prog 56 #[.pointer (some ⟨bp,0,none⟩),.agg #[.int .i64 c.kind,.int .i64 c.A,.int .i64 c.B,.int .i64 c.C,.string c.S,.string c.P,.slice c.la c.l.length c.lc,.slice c.ka c.ks.length c.kc]] w λe w'=>e=.returned (.bool true)/\ja M w' base bp (t+1)/\za (λk=>base<=k) w w':=by
 have k0:za (λ_=>False) w (w.alloc (.cells #[.int .i64 c.kind,.int .i64 c.A,.int .i64 c.B,.int .i64 c.C,.string c.S,.string c.P,.slice c.la c.l.length c.lc,.slice c.ka c.ks.length c.kc] 81)):=za.alloc _ _ _;have ao:xc (w.alloc (.cells #[.int .i64 c.kind,.int .i64 c.A,.int .i64 c.B,.int .i64 c.C,.string c.S,.string c.P,.slice c.la c.l.length c.lc,.slice c.ka c.ks.length c.kc] 81)) w.heap.size c:=⟨ac w _⟩;have bQ:=ao.c2;have aX:(w.alloc (.cells #[.int .i64 c.kind,.int .i64 c.A,.int .i64 c.B,.int .i64 c.C,.string c.S,.string c.P,.slice c.la c.l.length c.lc,.slice c.ka c.ks.length c.kc] 81)).heap.size=w.heap.size+1:=by simp
 obtain⟨bM,bT⟩:=V.C;change Hid _ at ao V p k0 bl aX;generalize bX:w.alloc (.cells #[.int .i64 c.kind,.int .i64 c.A,.int .i64 c.B,.int .i64 c.C,.string c.S,.string c.P,.slice c.la c.l.length c.lc,.slice c.ka c.ks.length c.kc] 81)=b2 at*;go_enter Tryz.func56,Tryz.ntmps56;go_wp2_with fail;refine(jD _ c.B V.out.B).mono ?_;rintro e ba ⟨rfl,ad,v⟩;rw [aX.out] at ad ⊢;have aA:=ao.kept v (λi=>i);have bZ:=aA.c3;change Hid _ at ad v aA
 go_upto_if 16 with fail
 go_cut [] (λwc=>∃f:Int,M.Fu f/\zg wc (w.heap.size+1+1) (λk=>k=w.heap.size+1+1\/k=w.heap.size+1) {Dk.fresh (jR c.B) with fuse:=f}/\za (λk=>k=w.heap.size+1+1) ba wc)
 case first=>
  by_cases bq:0<c.C
  .have bo:=aJ bq;have bN:IntKind.i64.wrap (c.C-1)=c.C-1:=IntWalk.i64_in _ (by omega);obtain⟨al,ah,B,E,x⟩:=ad.out;have I:Hid _:=x;clear x;go_wp2_with fail;refine(ur ba (w.heap.size+1+1) _ _ al ah B E I (c.C-1)).mono ?_;rintro e l ⟨rfl,s,r⟩;have z:Hid _:=s;have au:Hid _:=r;clear s r;go_wp2_with fail
   go_meet
   case rel=>exact⟨c.C-1,a0.every _ ⟨by omega,by omega⟩,⟨_,_,_,_,z⟩,au⟩
  .have bo:=decide_eq_false bq;go_wp2_with fail
   go_meet
   case rel=>exact⟨-1,M.fu_neg,ad,za.refl _ _⟩
 case rest=>
 obtain⟨f,i,ap,A⟩:=hcut;have br:Hid _:=i;have aN:Hid (za (λ_=>False) w wc):=⟨A.os.trans (v.os.trans k0.os),A.tape.trans (v.tape.trans k0.tape),A.output.trans (v.output.trans k0.output),aD k0.size (aD v.size A.size),λk d _=>(A.block k (by have:=k0.size;have:=v.size;omega) (by show ¬k=w.heap.size+1+1;omega)).trans ((v.block k (by have:=k0.size;omega) (λi=>i)).trans (k0.block k d (λi=>i)))⟩;have aQ:Hid _:=aA.kept A (by show ¬w.heap.size=w.heap.size+1+1;omega);have bV:w.heap.size+1<=wc.heap.size:=by have:=aQ.lt;omega
 change Hid _ at ap;clear i A;by_cases aW:jR c.B<64
 .go_wp2_with fail;refine(a1.small _ _ _ _ ap (by simpa [Dk.fresh] using aW)).mono ?_;rintro e l ⟨rfl,s,r⟩;have z:Hid _:=s;have au:Hid _:=r;clear s r;obtain⟨al,ah,B,E,x⟩:=z.out;have I:Hid _:=x;clear x;go_wp2_with fail;refine(jj _ _ _ _ al ah B E I).mono ?_;rintro e ak ⟨rfl,y⟩;rw [y];clear y ak;have bS:(((Dk.fresh (jR c.B)).bs.length:Nat):Int)<64:=by simp [Dk.fresh];omega
  generalize (Dk.fresh (jR c.B)).bs.length=b5 at*;go_wp2;go_ret;exact⟨rfl,p.idle (aN.trans au iL)⟩
 .have bc:jR c.B<=1000:=by unfold jR;split<;>omega
  have R:M.Could {Dk.fresh (jR c.B) with fuse:=f} (λU=>U=⟨[],0⟩):=
   ⟨by simp [Dk.fresh],by simp [Dk.fresh];omega,λks=>⟨_,rfl,M.zeros (jR c.B) (by omega) bc⟩⟩
  change Hid _ at R;go_wp2_with fail;refine(cL a1 bk a0 true ap R br (.inl rfl) rfl (λU a2=>by rw [show U=⟨[],0⟩ from a2];show (0:Int)<=_;omega)).mono ?_;rintro e l ⟨Y,ai,s,ay,r,bf,aY,aC,X,ab⟩
  obtain⟨q,aL,rfl,aa,av⟩:∃q aL,e=.returned (.tuple #[.pointer q,.int .i64 aL])/\GU M l (w.heap.size+1+1) ai Y (.pointer q) aL/\∀b,Value.pointer q=qz b->wc.heap.size<=b:=by
   rcases ab with⟨bs,U,rfl,hbs,a2,aH⟩|⟨_,rfl,bG,O⟩
   .rw [show U=⟨[],0⟩ from a2] at aH;exact⟨some ⟨bs,0,none⟩,0,rfl,.inl ⟨bs,rfl,rfl,aH.apart,aH.sto,aH.live⟩,λb e=>by unfold qz at e;simp at e;omega⟩
   .exact⟨none,7,rfl,.inr ⟨rfl,rfl,bG,O⟩,λb e=>by unfold qz at e;simp at e⟩
  have ax:∀k,ai k->w.heap.size+1<=k:=λk d=>(ay k d).elim (λh=>by rcases h with h|h<;>omega) (λh=>by omega);have W:Hid (∀k,ai k->w.heap.size+1<=k):=ax;have G:=aN.trans r (λk d=>.inr (by rcases d with d|d<;>omega));have bj:=(p.book.head.kept G (λi=>i)).c.1;have bt:=(p.book.head.kept G (λi=>i)).c.2.2.2 0;have aE:=(p.book.head.kept G (λi=>i)).lt;have bH:=s.ok.few;have bK:Y.reads<=2*(Y.bs.length:Int):=by rw [aC];exact aY
  have bP:(64:Int)<=Y.bs.length:=by rw [aC];simp [Dk.fresh];omega
  have be:Hid _:=G.owns p.row nF;have z:Hid (zg l (w.heap.size+1+1) ai Y):=s;have aO:Hid _:=aQ.kept r (by rintro(h|h)<;>omega);have a8:w.heap.size+1<=l.heap.size:=by have:=aO.lt;omega
  obtain⟨ar,aU,T,aZ,aq⟩:=yv Tryz.infoPone;have ag:Hid (Tryz.prog.info? 120=some ar/\ar.zero=some (.pointer none)/\ar.size=1/\ar.bytes=8):=⟨aU,T,aZ,aq⟩;have bL:=p.fewO;obtain⟨al,ah,B,E,x⟩:=z.out;have I:Hid _:=x;change Hid _ at aa av G X;clear aU T aZ aq s x aC aW ay r ab ax bc aY
  go_upto_region 11 with(first
   |(go_at_call 54;refine(jj _ _ _ _ al ah B E I).mono ?_;rintro e ak ⟨rfl,y⟩;rw [y];clear y ak)
   |(go_at_call 86;refine(qD _ _ _ _ al ah B E I).mono ?_;rintro e ak ⟨rfl,y⟩;rw [y];clear y ak)
   |(refine wpList_append_lies _ rfl (.tmp 52) (.tmp 54) 73 rfl 0 120 ar _ 1 8 Tryz.underlying73 ag.1 ag.2.1 ag.2.2.1 ag.2.2.2 rfl (by omega) (.slice la ones.length lc) ones.length (ones.map λb1=>qz b1.1) (by rfl) (by exact er (er (er be _) _) _) ⟨l.heap.size+1+1,0,none⟩ 1 1 [qz (l.heap.size+1)] (by rfl) (by rfl) (by exact World.news_of_block (fV l _ _ _)) (by simp [Value.oneCell',qz]) (by omega) (by unfold maxLen;omega) (by omega) (aj _) _ rfl ?_;intro g aG an L m K bE;have bR:an.cell? ⟨bp,0,none⟩=some (.slice la ones.length lc):=(m.cell_far ⟨bp,0,none⟩ (by simp;omega) (λe=>(p.rowF bp e.symm).2.2.1 rfl)).trans (((xO (λ_=>False) l _ _ _).cell (a:=⟨bp,0,none⟩) aE (λi=>i)).trans bj);have bW:an.frozen? ⟨bp,0,none⟩=false:=(m.frozen_far ⟨bp,0,none⟩ (by simp;omega) (λe=>(p.rowF bp e.symm).2.2.1 rfl)).trans (((xO (λ_=>False) l _ _ _).frozen (a:=⟨bp,0,none⟩) aE (λi=>i)).trans bt);change Hid _ at L m K))
  have J:∀k,(Value.slice la ones.length lc).ownBlock=some k->k<w.heap.size:=λk d=>(p.row.lt k d).2;have aM:=za.grown (S:=λk=>(Value.slice la ones.length lc).ownBlock=some k) m (λk d=>d);have aB:=Vk M l an (w.heap.size+1+1) (w.heap.size+1) (.pointer q) aL ai _ Y _ (t+1) z aa (λb e=>by have:=av.out b e;omega) bf (by omega) X (by omega) aM (λk d=>by have:=J k d;omega) W a8
  have ae:∀k,(ai k\/Value.pointer q=qz k\/k=l.heap.size\/k=l.heap.size+1)->w.heap.size+1<=k/\k<l.heap.size+2:=λk d=>by
   rcases d with d|d|d|d;.have:=W.out k d;have:=z.lt k d;omega
   .have bx:=av.out k d;rcases aa.out with⟨bs,n,_,_,h2,_⟩|⟨n,_⟩
    .have aK:k=bs:=by rw [d] at n;unfold qz at n;simpa using n
     have:=M.sto_lt _ _ _ h2;omega
    .rw [n] at d;unfold qz at d;simp at d
   .omega
   .omega
  have D:=p.push aI (l.heap.size+1) _ g aG L ((G.mono fE).trans ((xO _ l _ _ _).trans aM iL) iL) (K.imp id (λn=>by simp at n;omega)) ⟨_,_,_,_,_,_,_,_,aB⟩ (λk d=>⟨by have:=(ae k d).1;omega,λn=>by
   have bx:=ae k d;rcases K.out with aK|aK;.have:=J g aK;omega
   .simp at aK;omega⟩)
  have a6:=za.setCell (S:=λk=>k=bp) an ⟨bp,0,none⟩ (.slice (some ⟨g,0,none⟩) (ones.length+1) aG) rfl;have bu:=p.book.head.lt;have Z:=aB.kept a6 (λk d e=>by have:=(ae k d).1;omega);have aP:xc (an.setCell ⟨bp,0,none⟩ (.slice (some ⟨g,0,none⟩) (ones.length+1) aG)) w.heap.size c:=(((aO.kept (xO (λ_=>False) l _ _ _) (λi=>i)).kept aM (λO=>by have:=J _ O;omega)).kept a6 (λe=>by have b6:=e;omega));generalize an.setCell ⟨bp,0,none⟩ (.slice (some ⟨g,0,none⟩) (ones.length+1) aG)=a4 at*;have bv:l.heap.size+2<=a4.heap.size:=by have:=Z.xlt (l.heap.size+1) (.inr (.inr (.inr rfl)));omega
  change Hid _ at D Z ae aP;clear J aM aB a6 L m K;rcases aa.out with⟨bs,n,rfl,_⟩|⟨n,rfl,T,a5⟩
  .obtain rfl:q=some ⟨bs,0,none⟩:=by unfold qz at n;simpa using n
   clear n;go_wp2;go_ret;exact⟨rfl,⟨_,_,_,_,_,_,_,_,_,_,_,D.1⟩,D.2⟩
  .obtain rfl:q=none:=by simpa using n
   obtain⟨P,u⟩:=Z.bare;have aR:Hid _:=u.could;change Hid _ at T u;clear a5 n;go_wp2_with fail;refine(dB a4 _ _ u.head _ rfl _ _ u.disk T).mono ?_;rintro e a3 ⟨rfl,⟨a9,aV,af⟩,C⟩;have bd:Hid _:=u.disked C aV af X aR.out;have bO:=(aP.kept C (λO=>by have:=W.out _ O;omega)).c7;obtain⟨bw,bA,bg,bn,aF⟩:=aV;have bU:=V.klen;have bY:=C.size
   have bb:Hid (∀j,j<c.ks.length->∃o am,c.ka=some ⟨o,am,none⟩/\¬a9 o/\o<a3.heap.size/\a3.cell? ⟨o,am+j,none⟩=some (.bool (c.ks.getD j false))):=λj bJ=>by obtain⟨o,am,bC,bz,bD,bF⟩:=V.ks j bJ;have b0:=bl.out o bz;exact⟨o,am,bC,λO=>by have:=W.out o (af o O);omega,by omega,(C.cell (a:=⟨o,am+j,none⟩) (by show o<a4.heap.size;omega) (λO=>by have:=W.out o O;omega)).trans ((D.2.cell (a:=⟨o,am+j,none⟩) bD (by show ¬base<=o;omega)).trans bF)⟩
   change Hid _ at C aF af;go_wp2_with fail;refine(di a3 _ a9 Y bw bA bg bn aF c.ka c.ks c.kc (by omega) bb).mono ?_;rintro e b4 ⟨rfl,⟨b7,aT,aS⟩,az⟩;have bh:Hid _:=bd.disked az aT aS M.fu_neg (aR.fall c.ks);have a7:Hid _:=C.trans az (λk d=>.inl (af k d));clear aT aS az;go_wp2_with fail;refine(jp a1 bk bI bB a0 bh false (.inr rfl) (by omega)).mono ?_;rintro e ak aw;have bm:Hid _:=aw.before (a7.mono (λk d=>.inl d)) (λk d=>.inl d);obtain rfl:=aw.ret;clear aw;go_wp2;go_ret;have bi:=D.1.swap (by omega) ones.length (by simp) (by simp) bm.out;exact⟨rfl,bi.1,D.2.trans bi.2 iL⟩
end law
end Go.Proofs.YtcoengihaobddaaGreatDoor

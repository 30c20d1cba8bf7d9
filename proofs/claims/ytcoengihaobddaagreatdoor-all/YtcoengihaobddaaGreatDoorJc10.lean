/- Part 10 of 36 of a proof: Law8, Play, Law9, Find8, Find9, Find10, Find11 -/
import Derived.Test.YtcoengihaobddaaGreatDoorJc09
import Derived.Deep.DeepCutAuto
set_option maxHeartbeats 8000000
set_option linter.unusedVariables false
set_option linter.unusedSimpArgs false
set_option maxRecDepth 8000
namespace Go.Proofs.YtcoengihaobddaaGreatDoor
namespace law
open Go.ChangeShapes Go.WideShapes Go.ChangeAt Go.RowKit disk ref book
open keys (zh ze zy zs zq)
theorem Vi(M:zd)(A:cI M)(w:World)(X:Nat->Prop)(bo t:Nat)(h:zQ)(bd:Nat)(D:Dk)(S R:Nat->Prop)(ib:Nat)(V:qq)(last:Int)(j:yw M w X bo t h bd D S R ib V last)(bq:t<=2199023255552)(bs:Nat)(hbs:h.s=qu bs)
 (d:xk) (Q:Nat->Prop) (O:d.Ok w Q) (aW:∀k,Q k->¬X k/\k<w.heap.size) (ad:d.kind=6)
 (bp:Nat) (ax:Value) (F H:Nat->Prop) (a b:Option Addr) (ca cb:Nat) (es vs:List xZ) (o:xx w bp ax F H a b ca cb es vs) (bi:es.length<=t) (q:∀k,X k->¬F k/\¬H k/\k≠bp):
 Calls Tryz.prog 63 #[.pointer (some ⟨bp,0,none⟩),.pointer (some ⟨bo,0,none⟩),.agg #[.int .i64 d.kind,.int .i64 d.A,.int .i64 d.B,.int .i64 d.C,.string d.S,.string d.P,.slice d.la d.l.length d.lc,.slice d.ka d.ks.length d.kc]] w λe w'=>Ve M w w' X bo t bp ax F H b cb es vs e:=by
 have L:=j.xlt;have k0:za (λ_=>False) w (w.alloc (.cells #[.int .i64 d.kind,.int .i64 d.A,.int .i64 d.B,.int .i64 d.C,.string d.S,.string d.P,.slice d.la d.l.length d.lc,.slice d.ka d.ks.length d.kc] 81)):=za.alloc _ _ _;have P:xg (w.alloc (.cells #[.int .i64 d.kind,.int .i64 d.A,.int .i64 d.B,.int .i64 d.C,.string d.S,.string d.P,.slice d.la d.l.length d.lc,.slice d.ka d.ks.length d.kc] 81)) w.heap.size d:=⟨ac w _⟩;have af:=O.kept k0 nF;have n:=j.kept k0 nF;have v:w.heap.size<(w.alloc (.cells #[.int .i64 d.kind,.int .i64 d.A,.int .i64 d.B,.int .i64 d.C,.string d.S,.string d.P,.slice d.la d.l.length d.lc,.slice d.ka d.ks.length d.kc] 81)).heap.size:=by simp
 have N:=n.head.c0;rw [n.hd] at N;unfold qu at N;have aI:=n.head.c1;rw [hbs] at aI;unfold qu at aI;have bj:=P.c4;have bn:=P.c2;have bl:=P.c0.trans (congrArg (λk=>some (Value.int .i64 k)) ad);have bc:=j.good.few;change Hid _ at P af n j O aW hbs L k0 o q v;clear ad;generalize bg:w.alloc (.cells #[.int .i64 d.kind,.int .i64 d.A,.int .i64 d.B,.int .i64 d.C,.string d.S,.string d.P,.slice d.la d.l.length d.lc,.slice d.ka d.ks.length d.kc] 81)=y at*;go_enter Tryz.func63,Tryz.ntmps63;go_wp2_with fail;obtain⟨a7,a9,aV,aT,aA⟩:=n.disk;refine(qE _ bd S D a7 a9 aV aT aA).mono ?_;rintro e U ⟨rfl,p⟩;rw [p];clear p U aA;go_wp2_with fail;go_region_held3 (λw'=>w'.cell? ⟨bo,1,none⟩=some (.pointer (some ⟨bs,0,none⟩))/\w'.cell? ⟨w.heap.size,4,none⟩=some (.string d.S)/\w'.cell? ⟨w.heap.size,2,none⟩=some (.int .i64 d.B)) (go_keep) ((go_at_call 42;refine(Gu M A _ X bo t h bd D S R ib V last (by exact n.kept (za.drew (λ_=>False) y) nF) (by omega) bs hbs d.S O.out.S d.B O.out.B).mono ?_;rintro e x ⟨av,K,bu,rfl,ae,Z,I,aD,aE,aC,aq⟩;have m:Hid (yV M y.drew x bd bs S K D av):=ae;have B:Hid _:=(⟨aD,aE,aC,aq⟩:X bs/\¬S bs/\¬R bs/\bs≠bo);change Hid _ at Z I;clear ae aD aE aC aq;have z:Hid _:=gA n L P af aW v m B.out;have au:=z.head.c1;rw [hbs.out] at au;unfold qu at au;have be:=z.box.c4;have a4:=z.box.c2));have N:=z.head.c0;rw [j.hd] at N;unfold qu at N;have aG:=z.head.c2;rw [j.his] at aG;unfold qu at aG;have aS:∀k,K k->k<w.heap.size\/y.heap.size<=k:=λk f=>(m.foot k f).imp (λh=>L k (n.sX k h)) (λh=>h);have ah:∀k,K k->k<x.heap.size:=λk f=>m.disk.lt k f;have bb:y.heap.size<=x.heap.size:=m.kept.size;change Hid _ at aS ah;generalize am:yo h.shut (yG (zq d.S.data.toList) (yl V.vs d.S d.B))=c at*;change Hid _ at am;go_wp2_with fail;obtain⟨aZ,a2,aN,aM,ag⟩:=z.disk;refine(qE _ bd K av aZ a2 aN aM ag).mono ?_;rintro e U ⟨rfl,p⟩;rw [p];clear p U ag;go_wp2_with fail;go_region_held3 (λw'=>w'.cell? ⟨bo,2,none⟩=some (.pointer (some ⟨ib,0,none⟩))/\w'.cell? ⟨w.heap.size,4,none⟩=some (.string d.S)/\w'.cell? ⟨w.heap.size,2,none⟩=some (.int .i64 d.B)) (go_keep) ((go_at_call 107;refine(Gt _ R R ib V.vs last (by exact(z.kept (za.drew (λ_=>False) x) fE).ref) (by omega) d.S O.out.S d.B).mono ?_;rintro e U ⟨⟨bt,rfl,az⟩,p⟩;subst p;have a1:Hid (x8 _ _ _ _ _):=az;clear az));have G:za (λ_=>False) x x.drew:=kD;have aY:Hid _:=z.kept G fE;have J:za (λk=>S k\/k=bs) w x:=((k0.mono fE).trans (za.drew _ y) iL).trans m.kept iL
 have Y:xx x.drew bp ax F H a b ca cb es vs:=(o.kept J (λi aj g=>by
  rcases g with g|g;.exact(q i (j.sX i g)).1 aj
  .exact(q i (by rw [g];exact B.1)).1 aj) (λi aj g=>by
  rcases g with g|g;.exact(q i (j.sX i g)).2.1 aj
  .exact(q i (by rw [g];exact B.1)).2.1 aj) (λg=>by
  rcases g with g|g;.exact(q bp (j.sX bp g)).2.2 rfl
  .exact(q bs B.1).2.2 g.symm)).kept G nF nF (λap=>ap)
 have C:∀k,(X k\/K k)->¬F k/\¬H k/\k≠bp:=λk f=>by
  rcases f with f|f;.exact q k f
  .rcases m.foot k f with l|l;.exact q k (j.sX k l)
   .have h2:y.heap.size<=k:=l;have aw:=v.out;exact⟨λg=>by have:=o.flt k g;omega,λg=>by have:=o.hlt k g;omega,λg=>by have:=o.head.lt;omega⟩
 have ao:∀k,(X k\/K k)->X k\/w.heap.size<=k:=λk f=>by
  rcases f with f|f;.exact .inl f
  .rcases m.foot k f with l|l;.exact .inl (j.sX k l)
   .have h2:y.heap.size<=k:=l;have aw:=v.out;exact .inr (by omega)
 have a8:=m.reads0;have a5:=m.reads1;change Hid _ at G J Y C ao;go_wp2_with fail;refine(kZ _ bo h (by exact aY.head) _).mono ?_;rintro e U ⟨rfl,p⟩;rw [p,am.out];clear p U;have al:za (λ_=>False) w y.drew:=k0.trans (za.drew _ y) iL;change Hid _ at al;by_cases g:c=0
 .obtain⟨u,ab,s,aK,aL,ak,aa⟩:=I.yes g;have aF:=ud (am.trans g);obtain⟨u',aU,aO,an,aP,aH⟩:=a1.1 aF;have a6:u'=u:=by rw [aK] at an;cases an;rfl
  subst a6;have bf:u'.body.length<=300:=j.good.body u' (jU aK).2.2;have ay:Hid (x.ownsRow 0 5 1 (.slice ab u'.body.length s) u'.body.length (u'.body.map qA)):=ak;have a0:Hid (zL _ R aU u'.body):=aH;have bk:(c !=0)=false:=by simpa using g
  subst aL aP;change Hid _ at aa;clear aK ak aF an aH g;go_wp2_with fail;refine(vY _ (λk=>y.heap.size<=k) R ab aU s aO u'.body (by exact(zL.of_own 5 ay rfl _ (λk f=>(aa k f).1)).kept G nF) (by exact zL.kept a0 (T:=λ_=>False) kD nF) (by omega)).mono ?_;rintro e U ⟨rfl,bm,p⟩;rw [p];clear p U;go_wp2_with fail
  have r:∀k,(Value.slice ab u'.body.length s).ownBlock=some k->w.heap.size<k/\¬K k:=λk f=>by have l:=aa.out k f;have h2:y.heap.size<=k:=l.1;have aw:=v.out;exact⟨by omega,l.2⟩
  change Hid _ at r
  refine(cH _ bp ax F H (λk=>(Value.slice ab u'.body.length s).ownBlock=some k) a b ca cb es vs (by exact Y.kept (T:=λ_=>False) kD nF nF (λap=>ap)) (by omega) ab u'.body.length s (u'.body.map qA) (by exact za.owns (S:=λ_=>False) kD ay nF) (by omega) (λk f=>f) (λk f=>by
   have l:=(r k f).1
   exact⟨λg=>by have:=o.flt k g;omega,λg=>by have:=o.hlt k g;omega,λg=>by have:=o.head.lt;omega⟩)).mono ?_
  rintro e aQ ⟨rfl,⟨a3,aX,aR,ba,ar,bh,ai⟩,E⟩;have aB:Hid (za (λk=>F k\/(Value.slice ab u'.body.length s).ownBlock=some k\/k=bp) x aQ):=⟨E.os,E.tape,E.output,E.size,E.block⟩;change Hid _ at ar ai;clear E;go_wp2;go_ret;have W:=L.out;refine⟨ze (aJ (by omega)),⟨_,ba,a3,aX,aR,jZ M w y.drew x aQ X bo t h bd D av S K R ib V last j bs hbs al (lh v) m B Z _ aB (λk f=>?_),ar,by omega,ao,λk f=>?_,λk f=>⟨λap=>?_,(C k f).2.1,(C k f).2.2⟩⟩,(J.mono (λk f=>.inl (f.elim (j.sX k) (λe=>by rw [e];exact B.1)))).trans aB (λk f=>?_)⟩
  .rcases f with f|f|f;.exact⟨λg=>(q k g).1 f,λg=>(C k (.inr g)).1 f⟩
   .have l:=r.out k f;exact⟨λg=>by have:=W k g;omega,l.2⟩
   .exact⟨λg=>(q k g).2.2 f,λg=>(C k (.inr g)).2.2 f⟩
  .rcases ai k f with l|l|l;.exact .inl l
   .have:=(r k l).1;exact .inr (by omega)
   .have h2:x.heap.size<=k:=l;have aw:=v.out;exact .inr (by omega)
  .rcases ai k ap with l|l|l;.exact(C k f).1 l
   .have h2:=r.out k l;rcases f with f|f;.have:=W k f;omega
    .exact h2.2 f
   .have h2:x.heap.size<=k:=l;have aw:=v.out;rcases f with f|f;.have:=W k f;omega
    .have:=ah.out k f;omega
  .rcases f with f|f|f;.exact .inl (.inr (.inl f))
   .have:=(r k f).1;exact .inr (by omega)
   .exact .inl (.inr (.inr f))
 .obtain⟨ab,s,aL⟩:=I.no g;have br:(c !=0)=true:=by simpa using g
  subst aL;clear g;go_wp2;go_ret
  exact⟨rfl,⟨_,F,a,ca,es,jZ M w y.drew x _ X bo t h bd D av S K R ib V last j bs hbs al (lh v) m B Z (λ_=>False) G fE,Y,by omega,ao,λk f=>.inl f,C⟩,
   (J.mono (λk f=>.inl (f.elim (j.sX k) (λe=>by rw [e];exact B.1)))).trans G fE⟩
end law
namespace law
open Go.RowKit disk ref book
variable {M:zd}{w w':World}{t base bp lc ca cb:Nat}{ones:List (Nat×(Nat->Prop))}{la a b:Option Addr}{F H:Nat->Prop}{es vs:List xZ}
structure qv (M:zd) (w:World) (base bp t:Nat) (ones:List (Nat×(Nat->Prop))) (la:Option Addr) (lc:Nat) (F H:Nat->Prop) (a b:Option Addr) (ca cb:Nat) (es vs:List xZ):Prop where
 row:w.ownsRow 0 120 1 (.slice la ones.length lc) ones.length (ones.map λo=>qu o.1)
 book:xx w bp (.slice la ones.length lc) F H a b ca cb es vs
 one:∀i (hi:i<ones.length),One M w ones[i].2 ones[i].1 t
 apart:∀i j (hi:i<ones.length) (hj:j<ones.length),i≠j->∀k,ones[i].2 k->¬ones[j].2 k
 sep:∀i (hi:i<ones.length) k,ones[i].2 k->¬F k/\¬H k/\k≠bp
 rsep:∀i (hi:i<ones.length) k,ones[i].2 k->(Value.slice la ones.length lc).ownBlock≠some k
 rowF:∀k,(Value.slice la ones.length lc).ownBlock=some k->¬F k/\¬H k/\k≠bp/\base<=k
 bX:∀i (hi:i<ones.length) k,ones[i].2 k->base<=k
 bF:∀k,F k->base<=k
 bH:∀k,H k->base<=k
 bP:base<=bp
 fewE:es.length<=t
 fewV:vs.length<=t
 fewO:ones.length<=t
def jf(M:zd)(w:World)(base bp t:Nat):Prop:=∃ones la lc F H a b ca cb es vs,qv M w base bp t ones la lc F H a b ca cb es vs
theorem One.lt{X:Nat->Prop}{bo:Nat}(a:One M w X bo t):∀k,X k->k<w.heap.size:=by
 obtain⟨h,bd,D,S,R,ib,V,last,a⟩:=a;exact a.xlt
theorem qv.moved{C:Nat}(p:qv M w base bp t ones la lc F H a b ca cb es vs)(Q:base<=w.heap.size)(i:Nat)(x:i<ones.length)(R:t<=C){X' F':Nat->Prop}{L:Option Addr}{E:Nat}{A:List xZ}(G:One M w' X' ones[i].1 C)(D:xx w' bp (.slice la ones.length lc) F' H L b E cb A vs)(O:A.length<=C)(y:∀k,X' k->ones[i].2 k\/w.heap.size<=k)(z:∀k,F' k->F k\/w.heap.size<=k)(J:∀k,X' k->¬F' k/\¬H k/\k≠bp)(s:za (λk=>ones[i].2 k\/F k\/k=bp) w w'):jf M w' base bp C/\za (λk=>base<=k) w w':=by
 have u:∀j (l:j<ones.length) k,ones[j].2 k->k<w.heap.size:=λj l=>(p.one j l).lt;have B:∀k,(Value.slice la ones.length lc).ownBlock=some k->k<w.heap.size:=λk s=>(p.row.lt k s).2
 have m:∀j (l:j<(ones.set i (ones[i].1,X')).length),(j=i/\(ones.set i (ones[i].1,X'))[j]=(ones[i].1,X'))\/(∃d:j<ones.length,j≠i/\(ones.set i (ones[i].1,X'))[j]=ones[j]):=λj l=>by
  by_cases g:j=i;.subst g;exact .inl ⟨rfl,by simp⟩
  .exact .inr ⟨by simpa using l,g,List.getElem_set_ne (iw g) _⟩
 have r:(ones.set i (ones[i].1,X')).length=ones.length:=ew ..;refine⟨⟨ones.set i (ones[i].1,X'),la,lc,F',H,L,b,E,cb,A,vs,?_,?_,λj l=>?_,λj k l o K q f=>?_,λj l q f=>?_,λj l q f=>?_,λk o=>?_,λj l q f=>?_,λk o=>?_,p.bH,p.bP,?_,?_,?_⟩,⟨s.os,s.tape,s.output,s.size,λk n I=>s.block k n (λc=>I ?_)⟩⟩
 .rw [r]
  have g:(ones.set i (ones[i].1,X')).map (λS=>qu S.1)=ones.map λS=>qu S.1:=by
   rw [lU];apply mB (by simp);intro j e h2;simp only [mE,ia];split
   next h=>subst h;rfl
   next=>rfl
  rw [g]
  exact s.owns p.row (λk n c=>by
   have e:=p.rowF k n;rcases c with c|c|c;.exact p.rsep i x k c n
   .exact e.1 c
   .exact e.2.2.1 c)
 .rw [r];exact D
 .rcases m j l with⟨g,h⟩|⟨d,g,h⟩;.subst g;rw [h];exact G
  .rw [h];refine((p.one j d).kept s (λk n c=>?_)).later R;rcases c with c|c|c;.exact p.apart i j x d (iw g) k c n
   .exact(p.sep j d k n).1 c
   .exact(p.sep j d k n).2.2 c
 .rcases m j l with⟨g,h⟩|⟨d,g,h⟩<;>rcases m k o with⟨N,P⟩|⟨v,N,P⟩<;>rw [h] at f<;>rw [P]
  .omega
  .intro c;rcases y q f with e|e;.exact p.apart i k x v (iw N) q e c
   .have:=u k v q c;omega
  .intro c;rcases y q c with e|e;.exact p.apart j i d x g q f e
   .have:=u j d q f;omega
  .exact p.apart j k d v K q f
 .rcases m j l with⟨g,h⟩|⟨d,g,h⟩<;>rw [h] at f
  .exact J q f
  .refine⟨λc=>?_,(p.sep j d q f).2.1,(p.sep j d q f).2.2⟩;rcases z q c with e|e;.exact(p.sep j d q f).1 e
   .have:=u j d q f;omega
 .rw [r];intro c;rcases m j l with⟨g,h⟩|⟨d,g,h⟩<;>rw [h] at f
  .rcases y q f with e|e;.exact p.rsep i x q e c
   .have:=B q c;omega
  .exact p.rsep j d q f c
 .rw [r] at o;have e:=p.rowF k o;refine⟨λc=>?_,e.2⟩;rcases z k c with h2|h2;.exact e.1 h2
  .have:=B k o;omega
 .rcases m j l with⟨g,h⟩|⟨d,g,h⟩<;>rw [h] at f
  .rcases y q f with e|e;.exact p.bX i x q e
   .omega
  .exact p.bX j d q f
 .rcases z k o with e|e;.exact p.bF k e
  .omega
 .exact O
 .have:=p.fewV;omega
 .rw [r];have:=p.fewO;omega
 .rcases c with c|c|c;.exact p.bX i x k c
  .exact p.bF k c
  .rw [c];exact p.bP
theorem qv.asked(p:qv M w base bp t ones la lc F H a b ca cb es vs)(c:base<=w.heap.size)(i:Nat)(m:i<ones.length)
 {e:Ending} (s:Ve M w w' ones[i].2 ones[i].1 t bp (.slice la ones.length lc) F H b cb es vs e):e=.returned (.bool true)/\jf M w' base bp (t+1)/\za (λk=>base<=k) w w':=by
 obtain⟨f,⟨X',F',u,q,r,g,d,o,l,h,j⟩,n⟩:=s;exact⟨f,p.moved c i m (Nat.le_succ t) g d (by have:=p.fewE;omega) l h j n⟩
theorem qv.stepped(p:qv M w base bp t ones la lc F H a b ca cb es vs)(g:base<=w.heap.size)(i:Nat)(f:i<ones.length)
 {e:Ending} (s:Stepped M w w' ones[i].2 ones[i].1 t e):e=.returned (.bool true)/\jf M w' base bp (t+1)/\za (λk=>base<=k) w w':=by
 obtain⟨X',j,h⟩:=s.one;refine p.asked g i f ⟨s.ret,⟨X',F,a,ca,es,j,p.book.kept s.kept (λk d c=>(p.sep i f k c).1 d) (λk d c=>(p.sep i f k c).2.1 d) (λc=>(p.sep i f bp c).2.2 rfl),by omega,h,λk d=>.inl d,λk d=>?_⟩,s.kept.mono (λk d=>.inl d)⟩;rcases h k d with l|l;.exact p.sep i f k l
 .exact⟨λc=>by have:=p.book.flt k c;omega,λc=>by have:=p.book.hlt k c;omega,λc=>by have:=p.book.head.lt;omega⟩
theorem qv.idle(p:qv M w base bp t ones la lc F H a b ca cb es vs)(k:za (λ_=>False) w w'):jf M w' base bp (t+1)/\za (λk=>base<=k) w w':=
 ⟨⟨ones,la,lc,F,H,a,b,ca,cb,es,vs,k.owns p.row nF,p.book.kept k nF nF (λc=>c),λi d=>((p.one i d).kept k nF).later (by omega),p.apart,p.sep,p.rsep,p.rowF,p.bX,p.bF,p.bH,p.bP,by have:=p.fewE;omega,by have:=p.fewV;omega,by have:=p.fewO;omega⟩,k.mono fE⟩
theorem qv.push{z:World}(p:qv M w base bp t ones la lc F H a b ca cb es vs)(R:base<=w.heap.size)(bo:Nat)(X:Nat->Prop)(g c:Nat)
 (J:z.ownsRow 0 120 1 (.slice (some ⟨g,0,none⟩) (ones.length+1) c) (ones.length+1) (ones.map (λV=>qu V.1)++[qu bo])) (K:za (λk=>(Value.slice la ones.length lc).ownBlock=some k) w z) (E:(Value.slice la ones.length lc).ownBlock=some g\/w.heap.size<=g)
 (L:One M z X bo (t+1)) (B:∀k,X k->w.heap.size<=k/\k≠g):
 qv M (z.setCell ⟨bp,0,none⟩ (.slice (some ⟨g,0,none⟩) (ones.length+1) c)) base bp (t+1) (ones++[(bo,X)]) (some ⟨g,0,none⟩) c F H a b ca cb es vs/\za (λk=>base<=k) w (z.setCell ⟨bp,0,none⟩ (.slice (some ⟨g,0,none⟩) (ones.length+1) c)):=by
 have y:=za.setCell (S:=λk=>k=bp) z ⟨bp,0,none⟩ (.slice (some ⟨g,0,none⟩) (ones.length+1) c) rfl;have U:=p.book.head.lt;have A:∀j (o:j<ones.length) k,ones[j].2 k->k<w.heap.size:=λj o=>(p.one j o).lt;have q:(ones++[(bo,X)]).length=ones.length+1:=by simp
 have G:=p.book.flt;have D:=p.book.hlt
 have I:¬F g/\¬H g/\g≠bp/\base<=g:=by
  rcases E with s|s;.exact p.rowF g s
  .exact⟨λd=>by have:=G g d;omega,λd=>by have:=D g d;omega,by omega,by omega⟩
 have l:∀i (u:i<(ones++[(bo,X)]).length),(∃T:i<ones.length,(ones++[(bo,X)])[i]=ones[i])\/(i=ones.length/\(ones++[(bo,X)])[i]=(bo,X)):=λi u=>by
  by_cases s:i<ones.length;.exact .inl ⟨s,iH s⟩
  .right;have r:i=ones.length:=by omega
   subst r;exact⟨rfl,by simp⟩
 have f:=p.book.kept K (λk m d=>(p.rowF k d).1 m) (λk m d=>(p.rowF k d).2.1 m) (λd=>(p.rowF bp d).2.2.1 rfl)
 refine⟨⟨?_,?_,λj o=>?_,λj k o v O x h=>?_,λj o x h=>?_,λj o x h=>?_,λk v=>?_,λj o x h=>?_,p.bF,p.bH,p.bP,by have:=p.fewE;omega,by have:=p.fewV;omega,by rw [q];have:=p.fewO;omega⟩,
  ((K.mono (λk m=>(p.rowF k m).2.2.2)).trans y (λk m=>.inl (by rw [m];exact p.bP)))⟩
 .rw [q,eh];exact y.owns J (λk m r=>by simp [Value.ownBlock] at m;have:=I.2.2.1;omega)
 .rw [q];have P:yn (z.setCell ⟨bp,0,none⟩ (.slice (some ⟨g,0,none⟩) (ones.length+1) c)) bp (.slice (some ⟨g,0,none⟩) (ones.length+1) c) (.slice a es.length ca) (.slice b vs.length cb):=⟨by rw [heap_setCell_same z bp 0 _ _ _ f.head.head];rfl⟩;exact⟨P,f.bytes.kept y (λi u r=>f.fbp (by rw [<-r];exact u)),f.rows.kept y (λi u r=>f.hbp (by rw [<-r];exact u)),f.fbp,f.hbp,f.apart,f.few,f.few2,λi u=>ay (f.flt i u) y.size,λi u=>ay (f.hlt i u) y.size⟩
 .rcases l j o with⟨e,n⟩|⟨r,n⟩<;>rw [n]
  .exact(((p.one j e).kept K (λk m d=>p.rsep j e k m d)).kept y (λk m d=>(p.sep j e k m).2.2 d)).later (by omega)
  .exact L.kept y (λk m d=>by have:=(B k m).1;omega)
 .rcases l j o with⟨e,n⟩|⟨r,n⟩<;>rcases l k v with⟨C,Q⟩|⟨N,Q⟩<;>rw [n] at h<;>rw [Q]
  .exact p.apart j k e C O x h
  .intro d;have:=(B x d).1;have:=A j e x h;omega
  .intro d;have:=(B x h).1;have:=A k C x d;omega
  .omega
 .rcases l j o with⟨e,n⟩|⟨r,n⟩<;>rw [n] at h
  .exact p.sep j e x h
  .have s:=(B x h).1;exact⟨λd=>by have:=G x d;omega,λd=>by have:=D x d;omega,by omega⟩
 .rw [q];simp only [Value.ownBlock,ne_eq,ij];intro N;rcases l j o with⟨e,n⟩|⟨r,n⟩<;>rw [n] at h
  .rcases E with s|s;.exact p.rsep j e x h (by rw [<-N];exact s)
   .have:=A j e x h;omega
  .exact(B x h).2 N.symm
 .rw [q] at v;simp only [Value.ownBlock,ij] at v;rw [<-v];exact I
 .rcases l j o with⟨e,n⟩|⟨r,n⟩<;>rw [n] at h
  .exact p.bX j e x h
  .have:=(B x h).1;omega
end law
namespace law
open Go.ChangeShapes Go.WideShapes Go.ChangeAt Go.RowKit disk ref book
open keys (zh ze zy zs zq)
theorem Tryz.infoPone:(Tryz.prog.info? 120).map (λi=>(i.zero,i.size,i.bytes))=some (some (.pointer none),1,8):=by kernel_rfl
theorem fU(w:World)(a b c:Obj):(((w.alloc a).alloc b).alloc c).heap[w.heap.size+1+1]? =some c:=by
 have:=ac ((w.alloc a).alloc b) c;simpa using this
theorem xU(S:Nat->Prop)(w:World)(a b c:Obj):za S w (((w.alloc a).alloc b).alloc c):=((za.alloc S w a).trans (za.alloc S _ b) iL).trans (za.alloc S _ c) iL
def cM(c n:Int):Int:=if c<0 then (-(c+1)).tmod n else c.tmod n
theorem Vj(c n:Int)(a:0<n):0<=cM c n/\cM c n<n:=by
 unfold cM;split;.exact⟨Int.tmod_nonneg n (by omega),Int.tmod_lt_of_pos _ a⟩
 .exact⟨Int.tmod_nonneg n (by omega),Int.tmod_lt_of_pos _ a⟩
theorem Qu(w:World)(c n:Int)(g:zD c)(k:0<n)(i:n<=9223372036854775807):
 Calls Tryz.prog 58 #[.int .i64 c,.int .i64 n] w λe w'=>e=.returned (.int .i64 (cM c n))/\w'=w:=by
 obtain⟨j,h2⟩:=g;by_cases h:c<0
 .have a:cM c n=(-(c+1)).tmod n:=aB h;have d:(-(c+1)).tmod n= -((c+1).tmod n):=Int.neg_tmod ..;have b:Hid _:=a;have f:Hid _:=d;clear a d;go_enter Tryz.func58,Tryz.ntmps58;go_wp2;go_ret;exact⟨zh (by rw [b.out];first|rfl|rw [f.out]),rfl⟩
 .have a:cM c n=c.tmod n:=aw h;have d:c.tmod n=c%n:=Int.tmod_eq_emod_of_nonneg (by omega);have b:Hid _:=a;have f:Hid _:=d;clear a d;go_enter Tryz.func58,Tryz.ntmps58;go_wp2;go_ret;exact⟨zh (by rw [b.out];first|rfl|rw [f.out]),rfl⟩
theorem Je(c n:Int)(g:zD c)(b:0<n)(a:n<=9223372036854775807):∃i:Nat,(i:Int)<n/\∀w,Calls Tryz.prog 58 #[.int .i64 c,.int .i64 n] w λe w'=>e=.returned (.int .i64 (i:Int))/\w'=w:=by
 obtain⟨d,h⟩:=Vj c n b;obtain⟨i,f⟩:=lw d;exact⟨i,by omega,λw=>by rw [<-f];exact Qu w c n g b a⟩
def Dq(bd bs rb:Nat):zQ:=⟨qu bd,qu bs,qu rb,.pointer none,.string ByteArray.empty,.int .i64 0,.bool false,.slice none 0 0,0,0,false⟩
section
variable {M N:zd} {w w':World} {X S S' R R' T:Nat->Prop} {bo bd bs ib t:Nat} {h h':zQ} {D D':Dk} {V U:qq} {last:Int} {P:qq->Prop}
theorem ZJ.kept(b:ZJ M w X bo t h bd D S R ib V last P)(k:za (λ_=>False) w w'):ZJ M w' X bo t h bd D S R ib V last P:=
 {b with head:=b.head.kept k (λa=>a),disk:=b.disk.kept k nF,ref:=b.ref.kept k nF nF,xlt:=λi c=>ay (b.xlt i c) k.size,torn:=b.torn.kept k nF}
theorem ZJ.disked(b:ZJ M w X bo t h bd D S R ib V last P)(k:za S w w')(e:zg w' bd S' D')(d:∀k,S' k->S k)(f:M.Fu D'.fuse)(c:M.Could D' P):ZJ M w' X bo t h bd D' S' R ib V last P:=
 {b with head:=b.head.kept k b.bS,disk:=e,ref:=b.ref.kept k (λi a=>(b.rX i a).2.1) (λi a=>(b.rX i a).2.1),sX:=λi a=>b.sX i (d i a),rX:=λi a=>⟨(b.rX i a).1,λc=>(b.rX i a).2.1 (d i c),(b.rX i a).2.2⟩,bS:=λc=>b.bS (d bo c),xlt:=λi a=>ay (b.xlt i a) k.size,fu:=f,torn:=b.torn.kept k (λi a=>(b.rX i a).2.1),could:=c}
theorem qI.fuse(u:qI M w X S R bo bd h D V last)(g:D'.bs=D.bs)(i:D'.ps=D.ps):qI M w X S R bo bd h D' V last:=by
 have t:xy M w R h D V last->xy M w R h D' V last:=λu=>by
  cases u using xy.elim with
  |put mb s b body a e c p j l h2 o x v could A=>exact .put mb s b body a e c p j l h2 o x v (could.as g i) A
  |erase mb us e b a n c p j l h2 o y z d could=>exact .erase mb us e b a n c p j l h2 o y z d (could.as g i)
 cases u using qI.elim with
 |live bs d k q r m f shut mb live=>exact .live bs d k q r m f shut mb ⟨by rw [i];exact live.ps,by rw [g];exact live.rest,by rw [g];exact live.big⟩
 |shut bs d k q r m f shut torn=>exact .shut bs d k q r m f shut (t torn)
 |gone d torn=>exact .gone d (torn.imp (λh=>⟨h.1,h.2.as g i⟩) t)
theorem yw.fused(l:yw M w X bo t h bd D S R ib V last)(k:za (λk=>k=bd) w w')(g:S bd)(f:Int)(p:zg w' bd S {D with fuse:=f })(q:M.Fu f):yw M w' X bo t h bd {D with fuse:=f} S R ib V last:=by
 have d:∀i,R i->¬i=bd:=λi n e=>(l.rX i n).2.1 (by rw [e];exact g);have r:¬bo=bd:=λe=>l.bS (by rw [e];exact g)
 have s:qI M w' X S R bo bd h D V last:=by
  cases l.st using qI.elim with
  |live bs b m a o j c shut mb live=>exact .live bs b m a o j (M.sto_kept _ _ _ _ _ c k (λe=>a (by rw [show bs=bd from e];exact g))) shut mb live
  |shut bs b m a o j c shut torn=>exact .shut bs b m a o j (M.sto_kept _ _ _ _ _ c k (λe=>a (by rw [show bs=bd from e];exact g))) shut (torn.kept k d)
  |gone b torn=>exact .gone b (torn.imp id (λh=>h.kept k d))
 exact {l with head:=l.head.kept k r,disk:=p,ref:=l.ref.kept k d d,xlt:=λi n=>ay (l.xlt i n) k.size,fu:=q,st:=s.fuse rfl rfl}
end
section
variable {M N:zd} {w w':World} {X S S' R R' T:Nat->Prop} {bo bd bs ib t:Nat} {h h':zQ} {D D':Dk} {V U:qq} {last:Int} {P:qq->Prop}
set_option maxRecDepth 60000 in
theorem Xg(av:yb M)(ar:yb N)(aq:xo N)(ao:xD M)(Y:Vh M N)(I:yw M w X bo t h bd D S R ib V last)(bt:t<=2199023255552)(c:xk)(Q:Nat->Prop)(U:c.Ok w Q)(a5:∀k,Q k->¬X k/\k<w.heap.size)(n:c.kind=8\/c.kind=9\/c.kind=10\/c.kind=11):
 Calls Tryz.prog 59 #[.pointer (some ⟨bo,0,none⟩),.agg #[.int .i64 c.kind,.int .i64 c.A,.int .i64 c.B,.int .i64 c.C,.string c.S,.string c.P,.slice c.la c.l.length c.lc,.slice c.ka c.ks.length c.kc]] w λe w'=>Stepped M w w' X bo t e:=by
 have k0:za (λ_=>False) w (w.alloc (.cells #[.int .i64 c.kind,.int .i64 c.A,.int .i64 c.B,.int .i64 c.C,.string c.S,.string c.P,.slice c.la c.l.length c.lc,.slice c.ka c.ks.length c.kc] 81)):=za.alloc _ _ _;have E:xg (w.alloc (.cells #[.int .i64 c.kind,.int .i64 c.A,.int .i64 c.B,.int .i64 c.C,.string c.S,.string c.P,.slice c.la c.l.length c.lc,.slice c.ka c.ks.length c.kc] 81)) w.heap.size c:=⟨ac w _⟩;have ag:=U.kept k0 nF;have d:=I.kept k0 nF;have aG:=I.xlt;have bl:=U.klen;obtain⟨ax,aK⟩:=U.B;go_enter Tryz.func59,Tryz.ntmps59
 go_upto_region 1 with fail
 generalize w.alloc (.cells #[.int .i64 c.kind,.int .i64 c.A,.int .i64 c.B,.int .i64 c.C,.string c.S,.string c.P,.slice c.la c.l.length c.lc,.slice c.ka c.ks.length c.kc] 81)=o at*;have y:=E.lt;have T:=E.c0;have aI:=E.c2;have aJ:=E.c7;have ay:Hid (¬X w.heap.size):=λba=>by have:=aG _ ba;omega
 obtain⟨P,g⟩:=d.bare;have Z:o.cell? ⟨bo,0,none⟩=some (.pointer (some ⟨bd,0,none⟩)):=d.head.c0.trans (congrArg some d.hd);have G:=d.head.lt;obtain⟨al,aj,ai,am,an⟩:=d.disk;have aa:Hid (zo o bd S D al aj ai am):=an;have s:S bd:=(an.own bd).2 (.inl rfl);have az:bo≠bd:=λe=>d.bS (by rw [e];exact s);have aB:w.heap.size≠bd:=λe=>ay (by rw [e];exact d.sX bd s);have C:Hid (¬S bo/\¬S w.heap.size):=⟨d.bS,λz=>ay (d.sX _ z)⟩
 have aE:Hid (∀j,j<c.ks.length->∃B ap,c.ka=some ⟨B,ap,none⟩/\¬S B/\B<o.heap.size/\o.cell? ⟨B,ap+j,none⟩=some (.bool (c.ks.getD j false))):=λj aO=>by obtain⟨B,ap,bg,be,bi,bb⟩:=ag.ks j aO;exact⟨B,ap,bg,λz=>(a5 B be).1 (d.sX B z),bi,bb⟩
 change Hid _ at aG k0 d g s;clear E ag an I U a5;generalize bn:w.heap.size=r at*;rcases n with n|n|n|n
 .rw [n] at T;go_wp2_with fail;go_region_held3 (λw'=>w'.cell? ⟨bo,0,none⟩=some (.pointer (some ⟨bd,0,none⟩))/\w'.cell? ⟨r,2,none⟩=some (.int .i64 c.B)) (go_keep) ((go_at_call 43;refine(uv o.drew bd S D al aj ai am (by exact aa.kept (za.drew (λ_=>False) o) nF) c.B).mono ?_;rintro e u ⟨rfl,p,q⟩;have f:Hid (za (λk=>k=bd) o u):=(za.drew (λk=>k=bd) o).trans q iL;have aV:Hid (zo u bd S {D with fuse:=c.B} al aj ai am):=p;have ak:u.cell? ⟨bo,0,none⟩=some (.pointer (some ⟨bd,0,none⟩)):=(f.cell (a:=⟨bo,0,none⟩) G az).trans Z;have aw:u.cell? ⟨r,2,none⟩=some (.int .i64 c.B):=(f.cell (a:=⟨r,2,none⟩) y aB).trans aI;clear p q));go_wp2;go_ret;have bf:=d.fused f s c.B ⟨_,_,_,_,aV⟩ (Y.every _ ⟨ax,aK⟩);exact⟨rfl,⟨X,One.later ⟨_,_,_,_,_,_,_,_,bf⟩ (Nat.le_succ t),λk i=>.inl i⟩,(k0.mono fE).trans f (λk i=>.inl (by rw [show k=bd from i];exact d.sX bd s))⟩
 .rw [n] at T;go_wp2_with fail;go_region_held3 (λw'=>w'.cell? ⟨bo,0,none⟩=some (.pointer (some ⟨bd,0,none⟩))/\w'.cell? ⟨r,7,none⟩=some (.slice c.ka c.ks.length c.kc)) (go_keep) ((go_at_call 41;refine(dh o.drew bd S D al aj ai am (by exact aa.kept (za.drew (λ_=>False) o) nF) c.ka c.ks c.kc (by omega) (by exact aE)).mono ?_;rintro e u ⟨rfl,⟨aR,p,A⟩,q⟩;have f:Hid _:=(za.drew S o).trans q iL;have v:Hid _:=g.disked f p A M.fu_neg (g.could.fall c.ks);have ak:=(f.cell (a:=⟨bo,0,none⟩) G C.1).trans Z;have aY:=(f.cell (a:=⟨r,7,none⟩) y C.2).trans aJ;clear p A q));go_wp2_with fail;refine(ju av ar aq ao Y v false (.inr rfl) (by omega)).mono ?_;rintro e aQ l;have x:Hid _:=(l.before (f.mono (λk i=>g.sX k i)) (λk i=>.inl i)).before (k0.mono fE) (λk i=>.inl i);obtain rfl:=l.ret;clear l;go_wp2;go_ret;exact x.step
 .rw [n] at T;go_wp2_with fail;refine(ju av ar aq ao Y g true (.inl rfl) (by omega)).mono ?_;rintro e aQ l;have x:Hid _:=l.before (k0.mono fE) (λk i=>.inl i);obtain rfl:=l.ret;clear l;go_wp2;go_ret;exact x.step
 .rw [n] at T;go_wp2_with fail;go_region_held3 (λw'=>w'.cell? ⟨bo,0,none⟩=some (.pointer (some ⟨bd,0,none⟩))/\w'.cell? ⟨r,7,none⟩=some (.slice c.ka c.ks.length c.kc)) (go_keep) ((go_at_call 41;refine(dh o.drew bd S D al aj ai am (by exact aa.kept (za.drew (λ_=>False) o) nF) c.ka c.ks c.kc (by omega) (by exact aE)).mono ?_;rintro e u ⟨rfl,⟨aR,p,A⟩,q⟩;have f:Hid _:=(za.drew S o).trans q iL;have v:Hid _:=g.disked f p A M.fu_neg (g.could.fall c.ks);have ak:=(f.cell (a:=⟨bo,0,none⟩) G C.1).trans Z;have aY:=(f.cell (a:=⟨r,7,none⟩) y C.2).trans aJ;have aw:=(f.cell (a:=⟨r,2,none⟩) y C.2).trans aI;have aP:r<u.heap.size:=(by have:=f.size;omega);have aM:bo<u.heap.size:=(by have:=f.size;omega);clear p A q));obtain⟨a0,a4,aS,a2,J⟩:=v.disk;have af:Hid _:=(J.own bd).2 (.inl rfl);change Hid _ at J;obtain⟨au,br,W⟩:=Je c.B 40 ⟨ax,aK⟩ (by omega) (by omega);change Hid _ at W;go_wp2_with fail
  go_region_held3 (λw'=>w'.cell? ⟨bo,0,none⟩=some (.pointer (some ⟨bd,0,none⟩))/\w'.cell? ⟨r,2,none⟩=some (.int .i64 c.B)) (go_keep) (first
   |(go_at_call 58;refine(W _).mono ?_;rintro e bC ⟨rfl,rfl⟩)
   |(go_at_call 43;refine(uv u.drew bd aR _ a0 a4 aS a2 (by exact J.kept (za.drew (λ_=>False) u) nF) au).mono ?_;rintro e aQ ⟨rfl,aA,aC⟩;have O:Hid _:=(za.drew (λk=>k=bd) u).trans aC iL;have aW:Hid (ZJ M aQ X bo t h bd {D with bs:=zn D.bs (sel D.ps c.ks),ps:=[],fuse:=(au:Int)} aR R ib V last P):=v.disked (O.mono (λk i=>by rw [show k=bd from i];exact af)) ⟨_,_,_,_,aA⟩ (λ_ h=>h) (Y.every _ ⟨by show _<=(au:Int);omega,by show (au:Int)<=_;omega⟩) (v.could.as rfl rfl);have bj:=(O.cell (a:=⟨bo,0,none⟩) aM az).trans ak;have bp:=(O.cell (a:=⟨r,2,none⟩) aP aB).trans aw;clear aA aC))
  have aN:Hid _:=((k0.mono fE).trans f (λk i=>.inl (g.sX k i))).trans O (λk i=>.inl (by rw [show k=bd from i];exact v.sX bd af));go_wp2_with fail;refine(ju av ar aq ao Y aW true (.inl rfl) (by omega)).mono ?_;rintro e a9 l;have K:=l.before aN (λk i=>.inl i);have x:Hid _:=K;obtain rfl:=l.ret;obtain⟨bu,⟨aX,a1,bc,bh,bB,bk,bv,a8,m⟩,ah⟩:=K.one;have ab:=m.head.c1;have bq:=m.head.c0.trans (congrArg some m.hd);change Hid _ at m ah;clear l K;by_cases L:aX.s=.pointer none
  .rw [L] at ab;obtain⟨bz,F⟩:=m.bare;obtain⟨a3,a7,aU,aT,ad⟩:=F.disk;change Hid _ at F ad;clear L;go_wp2_with fail;refine(dh a9 a1 bh bc a3 a7 aU aT ad none [] 0 (by simp) (λj aO=>by simp at aO)).mono ?_;rintro e bA ⟨rfl,⟨bw,aF,aD⟩,ae⟩;have a6:Hid _:=F.disked ae aF aD M.fu_neg (F.could.fall []);have aZ:Hid _:=x.kept.trans ae (λk i=>ah k (F.sX k i));clear aF aD ae;go_wp2_with fail;refine(ju av ar aq ao Y a6 false (.inr rfl) (by omega)).mono ?_;rintro e bx H;have aL:Hid _:=H.before aZ ah.out;obtain rfl:=H.ret;clear H;go_wp2;go_ret;exact aL.step
  .obtain⟨bm,aH⟩:∃b,aX.s=qu b:=by
    cases m.st using qI.elim with
    |live bs z=>exact⟨bs,z⟩
    |shut bs z=>exact⟨bs,z⟩
    |gone z=>exact absurd z L
   rw [aH] at ab;unfold qu at ab;clear L aH;go_wp2;go_ret;exact x.step
end
def fV(bd:Nat)(sv:Value)(rb:Nat):zQ:=⟨qu bd,sv,qu rb,.pointer none,.string ByteArray.empty,.int .i64 0,.bool false,.slice none 0 0,0,0,false⟩
def GU(M:zd)(w:World)(bd:Nat)(S:Nat->Prop)(D:Dk)(sv:Value)(ec:Int):Prop:=(∃bs,sv=qu bs/\ec=0/\¬S bs/\M.Sto w bs (some bd)/\M.Live D ⟨[],0⟩)\/(sv=.pointer none/\ec=7/\D.fuse=0/\M.Could D (λU=>U=⟨[],0⟩))
theorem Vk(M:zd)(a J:World)(bd B:Nat)(c:Value)(K:Int)(j T:Nat->Prop)(h:Dk)(s:Obj)(t:Nat)(C:zg a bd j h)(y:GU M a bd j h c K)(hbs:∀b,c=qu b->B<=b)(G:0<=h.reads)(R:h.reads<=2000)(fu:M.Fu h.fuse)(F:64<=h.bs.length)
 (q:za T (((a.alloc (.cells #[.slice none 0 0,.int .i64 0] 164)).alloc (.cells (fV bd c a.heap.size).cells 125)).alloc s) J) (n:∀k,T k->k<B) (P:∀k,j k->B<=k) (V:B<=a.heap.size):
 yw M J (λk=>j k\/c=qu k\/k=a.heap.size\/k=a.heap.size+1) (a.heap.size+1) t (fV bd c a.heap.size) bd h j (λk=>k=a.heap.size) a.heap.size ⟨[],0⟩ 0:=by
 have k3:=xU T a (.cells #[.slice none 0 0,.int .i64 0] 164) (.cells (fV bd c a.heap.size).cells 125) s;have r:=k3.trans q iL;have m:∀k,j k->k<a.heap.size:=λk d=>C.lt k d
 have u:∀b,c=qu b->b<a.heap.size/\¬j b/\M.Sto a b (some bd)/\M.Live h ⟨[],0⟩:=λb e=>by
  rcases y with⟨bs,f,_,L,h2,l⟩|⟨f,_⟩
  .have x:bs=b:=by rw [f] at e;unfold qu at e;simpa using e
   subst x;exact⟨M.sto_lt _ _ _ h2,L,h2,l⟩
  .rw [f] at e;unfold qu at e;simp at e
 have I:(((a.alloc (.cells #[.slice none 0 0,.int .i64 0] 164)).alloc (.cells (fV bd c a.heap.size).cells 125)).alloc s).heap[a.heap.size]? =some (.cells #[.slice none 0 0,.int .i64 0] 164 (0,0)):=by have f:=(za.alloc (λ_=>False) ((a.alloc (.cells #[.slice none 0 0,.int .i64 0] 164)).alloc (.cells (fV bd c a.heap.size).cells 125)) s).block a.heap.size (by simp;omega) (λo=>o);have x:=(za.alloc (λ_=>False) (a.alloc (.cells #[.slice none 0 0,.int .i64 0] 164)) (.cells (fV bd c a.heap.size).cells 125)).block a.heap.size (by simp) (λo=>o);rw [f,x];exact ac a _
 have H:(((a.alloc (.cells #[.slice none 0 0,.int .i64 0] 164)).alloc (.cells (fV bd c a.heap.size).cells 125)).alloc s).heap[a.heap.size+1]? =some (.cells (fV bd c a.heap.size).cells 125 (0,0)):=by have f:=(za.alloc (λ_=>False) ((a.alloc (.cells #[.slice none 0 0,.int .i64 0] 164)).alloc (.cells (fV bd c a.heap.size).cells 125)) s).block (a.heap.size+1) (by simp) (λo=>o);rw [f];have:=ac (a.alloc (.cells #[.slice none 0 0,.int .i64 0] 164)) (.cells (fV bd c a.heap.size).cells 125);simpa using this
 have Q:=q.size;have D:(((a.alloc (.cells #[.slice none 0 0,.int .i64 0] 164)).alloc (.cells (fV bd c a.heap.size).cells 125)).alloc s).heap.size=a.heap.size+3:=by simp
 have w:zG (((a.alloc (.cells #[.slice none 0 0,.int .i64 0] 164)).alloc (.cells (fV bd c a.heap.size).cells 125)).alloc s) (λk=>k=a.heap.size) (λk=>k=a.heap.size) a.heap.size [] 0:=
  ⟨none,0,[],I,aV _ _ _ _,y7.nil _ _,rfl,λk d=>(by cases d),by simp [Value.ownBlock]⟩
 have p:Good ⟨[],0⟩:=by
  rcases y with⟨bs,_,_,_,_,l⟩|⟨_,_,_,l⟩;.exact l.good
  .obtain⟨U,N,E⟩:=l.all [];rw [N] at E;exact M.good _ _ E
 refine⟨⟨(q.block _ (by rw [D];omega) (λg=>by have:=n _ g;omega)).trans H⟩,rfl,rfl,C.kept r (λi z g=>by have:=n i g;have:=P i z;omega),
  w.kept q (λi z g=>by have:=n i g;omega) (λi z g=>by have:=n i g;omega),λk d=>.inl d,λk d=>⟨.inr (.inr (.inl d)),λg=>by have:=m k g;omega,by omega⟩,.inr (.inr (.inr rfl)),λg=>by have:=m _ g;omega,λk d=>?_,eb _,λv O=>(by cases O),eb _,eb _,eb _,?_,G,by omega,fu,p,F,?_⟩
 .rcases d with d|d|d|d;.have:=m k d;omega
  .have:=(u k d).1;omega
  .omega
  .omega
 .show (0:Int)+0<=(t:Int);omega
 .rcases y with⟨bs,f,_⟩|⟨f,_,_,l⟩
  .have A:=u bs f;have S:=hbs bs f;exact .live bs f (.inr (.inl f)) A.2.1 (by omega) (by omega) (M.sto_kept _ _ _ _ _ A.2.2.1 r (λg=>by have:=n _ g;omega)) rfl rfl A.2.2.2
  .exact .gone f (.inl ⟨rfl,l⟩)
theorem qv.swap{M:zd}{w w':World}{base bp t bo:Nat}{X:Nat->Prop}{ones:List (Nat×(Nat->Prop))}{la:Option Addr}{lc:Nat}{F H:Nat->Prop}{a b:Option Addr}{ca cb:Nat}{es vs:List xZ}(p:qv M w base bp t ones la lc F H a b ca cb es vs)(h:base<=w.heap.size)(i:Nat)(l:i<ones.length)(g:ones[i]=(bo,X)){e:Ending}(s:uC M w w' X bo t e):jf M w' base bp t/\za (λk=>base<=k) w w':=by
 obtain⟨X',m,h2⟩:=s.one;have f:∀k,X k->¬F k/\¬H k/\k≠bp:=λk c=>p.sep i l k (by rw [g];exact c);refine p.moved h i l (aF t) (X':=X') (F':=F) (by rw [g];exact m) (p.book.kept s.kept (λk c d=>(f k d).1 c) (λk c d=>(f k d).2.1 c) (λd=>(f bp d).2.2 rfl)) p.fewE (λk c=>by rw [g];exact h2 k c) (λk c=>.inl c) (λk c=>?_) (s.kept.mono (λk c=>.inl (by rw [g];exact c)));rcases h2 k c with j|j;.exact f k j
 .exact⟨λd=>by have:=p.book.flt k d;omega,λd=>by have:=p.book.hlt k d;omega,λd=>by have:=p.book.head.lt;omega⟩
set_option maxRecDepth 60000 in
theorem Xh{M N:zd}(a1:yb M)(bi:yb N)(bE:xo N)(bA:xD M)(a3:Vh M N)(w:World)(base bp t:Nat)(ones:List (Nat×(Nat->Prop)))(la:Option Addr)(lc:Nat)(F H:Nat->Prop)(a b:Option Addr)(ca cb:Nat)(es vs:List xZ)(p:qv M w base bp t ones la lc F H a b ca cb es vs)(aH:base<=w.heap.size)(b0:t<=2199023255552)
 (c:xk) (Q:Nat->Prop) (W:c.Ok w Q) (bl:∀k,Q k->k<base):
 Calls Tryz.prog 56 #[.pointer (some ⟨bp,0,none⟩),.agg #[.int .i64 c.kind,.int .i64 c.A,.int .i64 c.B,.int .i64 c.C,.string c.S,.string c.P,.slice c.la c.l.length c.lc,.slice c.ka c.ks.length c.kc]] w λe w'=>e=.returned (.bool true)/\jf M w' base bp (t+1)/\za (λk=>base<=k) w w':=by
 have k0:za (λ_=>False) w (w.alloc (.cells #[.int .i64 c.kind,.int .i64 c.A,.int .i64 c.B,.int .i64 c.C,.string c.S,.string c.P,.slice c.la c.l.length c.lc,.slice c.ka c.ks.length c.kc] 81)):=za.alloc _ _ _;have ay:xg (w.alloc (.cells #[.int .i64 c.kind,.int .i64 c.A,.int .i64 c.B,.int .i64 c.C,.string c.S,.string c.P,.slice c.la c.l.length c.lc,.slice c.ka c.ks.length c.kc] 81)) w.heap.size c:=⟨ac w _⟩;have bR:=ay.c2;have aW:(w.alloc (.cells #[.int .i64 c.kind,.int .i64 c.A,.int .i64 c.B,.int .i64 c.C,.string c.S,.string c.P,.slice c.la c.l.length c.lc,.slice c.ka c.ks.length c.kc] 81)).heap.size=w.heap.size+1:=by simp
 obtain⟨bL,bO⟩:=W.C;change Hid _ at ay W p k0 bl aW;generalize bS:w.alloc (.cells #[.int .i64 c.kind,.int .i64 c.A,.int .i64 c.B,.int .i64 c.C,.string c.S,.string c.P,.slice c.la c.l.length c.lc,.slice c.ka c.ks.length c.kc] 81)=b7 at*;go_enter Tryz.func56,Tryz.ntmps56;go_wp2_with fail;refine(jH _ c.B W.out.B).mono ?_;rintro e bj ⟨rfl,ab,y⟩;rw [aW.out] at ab ⊢;have aF:=ay.kept y (λi=>i);have bM:=aF.c3;change Hid _ at ab y aF
 go_upto_if 16 with fail
 go_cut [] (λwc=>∃f:Int,M.Fu f/\zg wc (w.heap.size+1+1) (λk=>k=w.heap.size+1+1\/k=w.heap.size+1) {Dk.fresh (jV c.B) with fuse:=f}/\za (λk=>k=w.heap.size+1+1) bj wc)
 case first=>
  by_cases bk:0<c.C
  .have ba:=aJ bk;have bV:IntKind.i64.wrap (c.C-1)=c.C-1:=IntWalk.i64_in _ (by omega);obtain⟨am,ai,I,C,x⟩:=ab.out;have D:Hid _:=x;clear x;go_wp2_with fail;refine(uv bj (w.heap.size+1+1) _ _ am ai I C D (c.C-1)).mono ?_;rintro e l ⟨rfl,s,o⟩;have z:Hid _:=s;have aB:Hid _:=o;clear s o;go_wp2_with fail
   go_meet
   case rel=>exact⟨c.C-1,a3.every _ ⟨by omega,by omega⟩,⟨_,_,_,_,z⟩,aB⟩
  .have ba:=decide_eq_false bk;go_wp2_with fail
   go_meet
   case rel=>exact⟨-1,M.fu_neg,ab,za.refl _ _⟩
 case rest=>
 obtain⟨f,i,ap,A⟩:=hcut;have bt:Hid _:=i;have aU:Hid (za (λ_=>False) w wc):=⟨A.os.trans (y.os.trans k0.os),A.tape.trans (y.tape.trans k0.tape),A.output.trans (y.output.trans k0.output),aD k0.size (aD y.size A.size),λk d _=>(A.block k (by have:=k0.size;have:=y.size;omega) (by show ¬k=w.heap.size+1+1;omega)).trans ((y.block k (by have:=k0.size;omega) (λi=>i)).trans (k0.block k d (λi=>i)))⟩;have aQ:Hid _:=aF.kept A (by show ¬w.heap.size=w.heap.size+1+1;omega);have bU:w.heap.size+1<=wc.heap.size:=by have:=aQ.lt;omega
 change Hid _ at ap;clear i A;by_cases aO:jV c.B<64
 .go_wp2_with fail;refine(a1.small _ _ _ _ ap (by simpa [Dk.fresh] using aO)).mono ?_;rintro e l ⟨rfl,s,o⟩;have z:Hid _:=s;have aB:Hid _:=o;clear s o;obtain⟨am,ai,I,C,x⟩:=z.out;have D:Hid _:=x;clear x;go_wp2_with fail;refine(jq _ _ _ _ am ai I C D).mono ?_;rintro e ak ⟨rfl,v⟩;rw [v];clear v ak;have bN:(((Dk.fresh (jV c.B)).bs.length:Nat):Int)<64:=by simp [Dk.fresh];omega
  generalize (Dk.fresh (jV c.B)).bs.length=b3 at*;go_wp2;go_ret;exact⟨rfl,p.idle (aU.trans aB iL)⟩
 .have bn:jV c.B<=1000:=by unfold jV;split<;>omega
  have V:M.Could {Dk.fresh (jV c.B) with fuse:=f} (λU=>U=⟨[],0⟩):=
   ⟨by simp [Dk.fresh],by simp [Dk.fresh];omega,λks=>⟨_,rfl,M.zeros (jV c.B) (by omega) bn⟩⟩
  change Hid _ at V;go_wp2_with fail;refine(cL a1 bi a3 true ap V bt (.inl rfl) rfl (λU a4=>by rw [show U=⟨[],0⟩ from a4];show (0:Int)<=_;omega)).mono ?_;rintro e l ⟨Y,ah,s,au,o,bg,aP,aC,X,ad⟩
  obtain⟨q,aG,rfl,af,az⟩:∃q aG,e=.returned (.tuple #[.pointer q,.int .i64 aG])/\GU M l (w.heap.size+1+1) ah Y (.pointer q) aG/\∀b,Value.pointer q=qu b->wc.heap.size<=b:=by
   rcases ad with⟨bs,U,rfl,hbs,a4,aM⟩|⟨_,rfl,bG,J⟩
   .rw [show U=⟨[],0⟩ from a4] at aM;exact⟨some ⟨bs,0,none⟩,0,rfl,.inl ⟨bs,rfl,rfl,aM.apart,aM.sto,aM.live⟩,λb e=>by unfold qu at e;simp at e;omega⟩
   .exact⟨none,7,rfl,.inr ⟨rfl,rfl,bG,J⟩,λb e=>by unfold qu at e;simp at e⟩
  have aE:∀k,ah k->w.heap.size+1<=k:=λk d=>(au k d).elim (λh=>by rcases h with h|h<;>omega) (λh=>by omega);have T:Hid (∀k,ah k->w.heap.size+1<=k):=aE;have E:=aU.trans o (λk d=>.inr (by rcases d with d|d<;>omega));have bc:=(p.book.head.kept E (λi=>i)).c.1;have bm:=(p.book.head.kept E (λi=>i)).c.2.2.2 0;have ao:=(p.book.head.kept E (λi=>i)).lt;have bJ:=s.ok.few;have bv:Y.reads<=2*(Y.bs.length:Int):=by rw [aC];exact aP
  have bX:(64:Int)<=Y.bs.length:=by rw [aC];simp [Dk.fresh];omega
  have a7:Hid _:=E.owns p.row nF;have z:Hid (zg l (w.heap.size+1+1) ah Y):=s;have aR:Hid _:=aQ.kept o (by rintro(h|h)<;>omega);have a9:w.heap.size+1<=l.heap.size:=by have:=aR.lt;omega
  obtain⟨ax,aX,R,aY,aw⟩:=yy Tryz.infoPone;have ag:Hid (Tryz.prog.info? 120=some ax/\ax.zero=some (.pointer none)/\ax.size=1/\ax.bytes=8):=⟨aX,R,aY,aw⟩;have bP:=p.fewO;obtain⟨am,ai,I,C,x⟩:=z.out;have D:Hid _:=x;change Hid _ at af az E X;clear aX R aY aw s x aC aO au o ad aE bn aP
  go_upto_region 11 with(first
   |(go_at_call 54;refine(jq _ _ _ _ am ai I C D).mono ?_;rintro e ak ⟨rfl,v⟩;rw [v];clear v ak)
   |(go_at_call 86;refine(qE _ _ _ _ am ai I C D).mono ?_;rintro e ak ⟨rfl,v⟩;rw [v];clear v ak)
   |(refine wpList_append_lies _ rfl (.tmp 52) (.tmp 54) 73 rfl 0 120 ax _ 1 8 Tryz.underlying73 ag.1 ag.2.1 ag.2.2.1 ag.2.2.2 rfl (by omega) (.slice la ones.length lc) ones.length (ones.map λb1=>qu b1.1) (by rfl) (by exact er (er (er a7 _) _) _) ⟨l.heap.size+1+1,0,none⟩ 1 1 [qu (l.heap.size+1)] (by rfl) (by rfl) (by exact World.news_of_block (fU l _ _ _)) (by simp [Value.oneCell',qu]) (by omega) (by unfold maxLen;omega) (by omega) (aj _) _ rfl ?_;intro g aL an K m L bF;have bZ:an.cell? ⟨bp,0,none⟩=some (.slice la ones.length lc):=(m.cell_far ⟨bp,0,none⟩ (by simp;omega) (λe=>(p.rowF bp e.symm).2.2.1 rfl)).trans (((xU (λ_=>False) l _ _ _).cell (a:=⟨bp,0,none⟩) ao (λi=>i)).trans bc);have bQ:an.frozen? ⟨bp,0,none⟩=false:=(m.frozen_far ⟨bp,0,none⟩ (by simp;omega) (λe=>(p.rowF bp e.symm).2.2.1 rfl)).trans (((xU (λ_=>False) l _ _ _).frozen (a:=⟨bp,0,none⟩) ao (λi=>i)).trans bm);change Hid _ at K m L))
  have O:∀k,(Value.slice la ones.length lc).ownBlock=some k->k<w.heap.size:=λk d=>(p.row.lt k d).2;have aI:=za.grown (S:=λk=>(Value.slice la ones.length lc).ownBlock=some k) m (λk d=>d);have ar:=Vk M l an (w.heap.size+1+1) (w.heap.size+1) (.pointer q) aG ah _ Y _ (t+1) z af (λb e=>by have:=az.out b e;omega) bg (by omega) X (by omega) aI (λk d=>by have:=O k d;omega) T a9
  have aa:∀k,(ah k\/Value.pointer q=qu k\/k=l.heap.size\/k=l.heap.size+1)->w.heap.size+1<=k/\k<l.heap.size+2:=λk d=>by
   rcases d with d|d|d|d;.have:=T.out k d;have:=z.lt k d;omega
   .have bD:=az.out k d;rcases af.out with⟨bs,n,_,_,h2,_⟩|⟨n,_⟩
    .have aK:k=bs:=by rw [d] at n;unfold qu at n;simpa using n
     have:=M.sto_lt _ _ _ h2;omega
    .rw [n] at d;unfold qu at d;simp at d
   .omega
   .omega
  have G:=p.push aH (l.heap.size+1) _ g aL K ((E.mono fE).trans ((xU _ l _ _ _).trans aI iL) iL) (L.imp id (λn=>by simp at n;omega)) ⟨_,_,_,_,_,_,_,_,ar⟩ (λk d=>⟨by have:=(aa k d).1;omega,λn=>by
   have bD:=aa k d;rcases L.out with aK|aK;.have:=O g aK;omega
   .simp at aK;omega⟩)
  have a6:=za.setCell (S:=λk=>k=bp) an ⟨bp,0,none⟩ (.slice (some ⟨g,0,none⟩) (ones.length+1) aL) rfl;have bB:=p.book.head.lt;have Z:=ar.kept a6 (λk d e=>by have:=(aa k d).1;omega);have aV:xg (an.setCell ⟨bp,0,none⟩ (.slice (some ⟨g,0,none⟩) (ones.length+1) aL)) w.heap.size c:=(((aR.kept (xU (λ_=>False) l _ _ _) (λi=>i)).kept aI (λJ=>by have:=O _ J;omega)).kept a6 (λe=>by have b5:=e;omega));generalize an.setCell ⟨bp,0,none⟩ (.slice (some ⟨g,0,none⟩) (ones.length+1) aL)=a2 at*;have bu:l.heap.size+2<=a2.heap.size:=by have:=Z.xlt (l.heap.size+1) (.inr (.inr (.inr rfl)));omega
  change Hid _ at G Z aa aV;clear O aI ar a6 K m L;rcases af.out with⟨bs,n,rfl,_⟩|⟨n,rfl,R,a5⟩
  .obtain rfl:q=some ⟨bs,0,none⟩:=by unfold qu at n;simpa using n
   clear n;go_wp2;go_ret;exact⟨rfl,⟨_,_,_,_,_,_,_,_,_,_,_,G.1⟩,G.2⟩
  .obtain rfl:q=none:=by simpa using n
   obtain⟨P,r⟩:=Z.bare;have aT:Hid _:=r.could;change Hid _ at R r;clear a5 n;go_wp2_with fail;refine(dA a2 _ _ r.head _ rfl _ _ r.disk R).mono ?_;rintro e a0 ⟨rfl,⟨bo,aZ,ae⟩,B⟩;have bf:Hid _:=r.disked B aZ ae X aT.out;have bT:=(aV.kept B (λJ=>by have:=T.out _ J;omega)).c7;obtain⟨bz,bx,bh,be,aq⟩:=aZ;have bY:=W.klen;have bW:=B.size
   have a8:Hid (∀j,j<c.ks.length->∃u al,c.ka=some ⟨u,al,none⟩/\¬bo u/\u<a0.heap.size/\a0.cell? ⟨u,al+j,none⟩=some (.bool (c.ks.getD j false))):=λj bw=>by obtain⟨u,al,bI,bH,bK,bC⟩:=W.ks j bw;have b2:=bl.out u bH;exact⟨u,al,bI,λJ=>by have:=T.out u (ae u J);omega,by omega,(B.cell (a:=⟨u,al+j,none⟩) (by show u<a2.heap.size;omega) (λJ=>by have:=T.out u J;omega)).trans ((G.2.cell (a:=⟨u,al+j,none⟩) bK (by show ¬base<=u;omega)).trans bC)⟩
   change Hid _ at B aq ae;go_wp2_with fail;refine(dh a0 _ bo Y bz bx bh be aq c.ka c.ks c.kc (by omega) a8).mono ?_;rintro e b4 ⟨rfl,⟨b6,aS,aN⟩,aA⟩;have bd:Hid _:=bf.disked aA aS aN M.fu_neg (aT.fall c.ks);have bb:Hid _:=B.trans aA (λk d=>.inl (ae k d));clear aS aN aA;go_wp2_with fail;refine(ju a1 bi bE bA a3 bd false (.inr rfl) (by omega)).mono ?_;rintro e ak av;have br:Hid _:=av.before (bb.mono (λk d=>.inl d)) (λk d=>.inl d);obtain rfl:=av.ret;clear av;go_wp2;go_ret;have bq:=G.1.swap (by omega) ones.length (by simp) (by simp) br.out;exact⟨rfl,bq.1,G.2.trans bq.2 iL⟩
end law
end Go.Proofs.YtcoengihaobddaaGreatDoor

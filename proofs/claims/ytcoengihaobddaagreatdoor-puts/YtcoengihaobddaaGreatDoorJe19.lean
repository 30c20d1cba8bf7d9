/- Part 19 of 50 of a proof: Law7, Law10, Law11, Top1 -/
import Derived.Test.YtcoengihaobddaaGreatDoorJe18
import Derived.Deep.Slices
import Derived.ChangeArms
import Derived.SizedLaws
set_option maxHeartbeats 8000000
set_option linter.unusedVariables false
set_option linter.unusedSimpArgs false
set_option maxRecDepth 8000
namespace Go.Proofs.YtcoengihaobddaaGreatDoor
namespace law
open Go.ChangeShapes Go.WideShapes Go.ChangeAt Go.RowKit disk ref book
open keys (zg zd zq zl zh)
variable {M:za}{w w':World}{base bp t lc ca cb kb:Nat}{ones:List (Nat×(Nat->Prop))}{F H:Nat->Prop}{a b:Option Addr}{es vs:List js}{kl:List Int}
theorem Uo(M:za)(A:jp M)(w:World)(X:Nat->Prop)(bo t:Nat)(h:qm)(bd:Nat)(D:Dk)(S aA:Nat->Prop)(af:Nat)(V:zP)(C:Int)(j:yY M w X bo t h bd D S aA af V C)(bB:t<=2199023255552)(bs:Nat)(hbs:h.s=yp bs)
 (d:yC) (Q:Nat->Prop) (ac:d.Ok w Q) (a4:∀k,Q k->¬X k/\k<w.heap.size) (ab:d.kind=5)
 (bp:Nat) (aD:Value) (F H:Nat->Prop) (a b:Option Addr) (ca cb:Nat) (es vs:List js) (p:jh w bp aD F H a b ca cb es vs) (bv:es.length<=t) (q:∀k,X k->¬F k/\¬H k/\k≠bp):
 Calls Tryz.prog 63 #[.pointer (some ⟨bp,0,none⟩),.pointer (some ⟨bo,0,none⟩),.agg #[.int .i64 d.kind,.int .i64 d.A,.int .i64 d.B,.int .i64 d.C,.string d.S,.string d.P,.slice d.la d.l.length d.lc,.slice d.ka d.ks.length d.kc]] w λe w'=>G7 M w w' X bo t bp aD F H b cb es vs e:=by
 have O:=j.xlt;have k0:Kept (λ_=>False) w (w.alloc (.cells #[.int .i64 d.kind,.int .i64 d.A,.int .i64 d.B,.int .i64 d.C,.string d.S,.string d.P,.slice d.la d.l.length d.lc,.slice d.ka d.ks.length d.kc] 81)):=Kept.alloc _ _ _;have ad:xj (w.alloc (.cells #[.int .i64 d.kind,.int .i64 d.A,.int .i64 d.B,.int .i64 d.C,.string d.S,.string d.P,.slice d.la d.l.length d.lc,.slice d.ka d.ks.length d.kc] 81)) w.heap.size d:=⟨heap_alloc_new w _⟩;have ah:=ac.kept k0 nF;have o:=j.kept k0 nF;have y:w.heap.size<(w.alloc (.cells #[.int .i64 d.kind,.int .i64 d.A,.int .i64 d.B,.int .i64 d.C,.string d.S,.string d.P,.slice d.la d.l.length d.lc,.slice d.ka d.ks.length d.kc] 81)).heap.size:=by simp
 have P:=o.head.c0;rw [o.hd] at P;unfold yp at P;have aR:=o.head.c1;rw [hbs] at aR;unfold yp at aR;have bw:=ad.c4;have bz:=ad.c0.trans (et (λk=>some (Value.int .i64 k)) ab);have bm:=j.good.few;change Hid _ at ad ah o j ac a4 hbs O k0 p q y;clear ab;generalize bt:w.alloc (.cells #[.int .i64 d.kind,.int .i64 d.A,.int .i64 d.B,.int .i64 d.C,.string d.S,.string d.P,.slice d.la d.l.length d.lc,.slice d.ka d.ks.length d.kc] 81)=w0 at*;go_enter Tryz.func63,Tryz.ntmps63;go_wp2_with fail;obtain⟨bg,bi,a3,a1,aI⟩:=o.disk;refine(ya _ bd S D bg bi a3 a1 aI).mono ?_;rintro e R ⟨rfl,r⟩;rw [r];clear r R aI;go_wp2_with fail;go_region_held3 (λw'=>w'.cell? ⟨bo,1,none⟩=some (.pointer (some ⟨bs,0,none⟩))/\w'.cell? ⟨w.heap.size,4,none⟩=some (.string d.S)) (go_keep) ((go_at_call 26;refine(Bj M A _ X bo t h bd D S aA af V C (by exact o.kept (Kept.drew (λ_=>False) w0) nF) (by omega) bs hbs d.S ac.out.S).mono ?_;rintro e z ⟨aB,N,x,n,rfl,ag,Y,K,aF,aP,aL,aM,aK,ax⟩;have m:Hid (xx M w0.drew z bd bs S N D aB):=ag;have B:Hid _:=(⟨aL,aM,aK,ax⟩:X bs/\¬S bs/\¬aA bs/\bs≠bo);change Hid _ at Y K aF aP;clear ag aL aM aK ax;have E:Hid _:=dC o O ad ah a4 y m B.out;have az:=E.head.c1;rw [hbs.out] at az;unfold yp at az;have bq:=E.box.c4));have P:=E.head.c0;rw [j.hd] at P;unfold yp at P;have aN:=E.head.c2;rw [j.his] at aN;unfold yp at aN;have a0:∀k,N k->k<w.heap.size\/w0.heap.size<=k:=λk f=>(m.foot k f).imp (λh=>O k (o.sX k h)) (λh=>h);have aj:∀k,N k->k<z.heap.size:=λk f=>m.disk.lt k f;have bk:w0.heap.size<=z.heap.size:=m.kept.size;change Hid _ at a0 aj;generalize aq:yH h.shut (yF (zh d.S.data.toList) (zO V.vs d.S))=c at*;change Hid _ at aq;go_wp2_with fail;obtain⟨a8,bb,aV,aU,ai⟩:=E.disk;refine(ya _ bd N aB a8 bb aV aU ai).mono ?_;rintro e R ⟨rfl,r⟩;rw [r];clear r R ai;go_wp2_with fail;go_region_held3 (λw'=>w'.cell? ⟨bo,2,none⟩=some (.pointer (some ⟨af,0,none⟩))/\w'.cell? ⟨w.heap.size,4,none⟩=some (.string d.S)) (go_keep) ((go_at_call 103;refine(DY _ aA aA af V.vs C (by exact(E.kept (Kept.drew (λ_=>False) z) fE).ref) (by omega) d.S ac.out.S).mono ?_;rintro e R ⟨⟨bC,bn,rfl,aH,aQ⟩,a5,rfl⟩;have ba:Hid (jO _ _ _ _ _):=aH;change Hid _ at aQ;clear aH));have J:Kept (λ_=>False) z (z.drewN (1+a5)):=kD;have a7:Hid _:=E.kept J fE;have L:Kept (λk=>S k\/k=bs) w z:=((k0.mono fE).trans (Kept.drew _ w0) iL).trans m.kept iL
 have W:jh (z.drewN (1+a5)) bp aD F H a b ca cb es vs:=(p.kept L (λi am g=>by
  rcases g with g|g;.exact(q i (j.sX i g)).1 am
  .exact(q i (by rw [g];exact B.1)).1 am) (λi am g=>by
  rcases g with g|g;.exact(q i (j.sX i g)).2.1 am
  .exact(q i (by rw [g];exact B.1)).2.1 am) (λg=>by
  rcases g with g|g;.exact(q bp (j.sX bp g)).2.2 rfl
  .exact(q bs B.1).2.2 g.symm)).kept J nF nF (λav=>av)
 have G:∀k,(X k\/N k)->¬F k/\¬H k/\k≠bp:=λk f=>by
  rcases f with f|f;.exact q k f
  .rcases m.foot k f with l|l;.exact q k (j.sX k l)
   .have ae:w0.heap.size<=k:=l;have aC:=y.out;exact⟨λg=>by have:=p.flt k g;omega,λg=>by have:=p.hlt k g;omega,λg=>by have:=p.head.lt;omega⟩
 have au:∀k,(X k\/N k)->X k\/w.heap.size<=k:=λk f=>by
  rcases f with f|f;.exact .inl f
  .rcases m.foot k f with l|l;.exact .inl (j.sX k l)
   .have ae:w0.heap.size<=k:=l;have aC:=y.out;exact .inr (by omega)
 have bh:=m.reads0;have be:=m.reads1;change Hid _ at J L W G au;go_wp2_with fail;refine(ug _ bo h (by exact a7.head) _).mono ?_;rintro e R ⟨rfl,r⟩;rw [r,aq.out];clear r R;have ap:Kept (λ_=>False) w w0.drew:=k0.trans (Kept.drew _ w0) iL;change Hid _ at ap;by_cases g:c=0
 .obtain⟨u,aa,v,al,aT,ao,Z⟩:=K.yes g;have aw:=gT (aq.trans g);obtain⟨u',a2,aW,ar,aX,aO⟩:=ba.1 aw;have bf:u'=u:=by rw [al] at ar;cases ar;rfl
  subst bf;have an:=aP.out u' g al;have aS:=aQ.out aw u' al;have bl:(n==bn)=true:=by rw [an,aS];simp
  have br:u'.body.length<=300:=j.good.body u' (jc al).2.1;have aE:Hid (z.ownsRow 0 5 1 (.slice aa u'.body.length v) u'.body.length (u'.body.map qk)):=ao;have a9:Hid (zu _ aA a2 u'.body):=aO;have bx:(c !=0)=false:=by simpa using g
  subst aT aX;change Hid _ at Z;clear al ao aw ar aO an aS g;go_wp2_with fail;refine(gy _ (λk=>w0.heap.size<=k) aA aa a2 v aW u'.body (by exact(zu.of_own 5 aE rfl _ (λk f=>(Z k f).1)).kept J nF) (by exact zu.kept a9 (T:=λ_=>False) kD nF) (by omega)).mono ?_;rintro e R ⟨rfl,bA,r⟩;rw [r];clear r R;go_wp2_with fail
  have s:∀k,(Value.slice aa u'.body.length v).ownBlock=some k->w.heap.size<k/\¬N k:=λk f=>by have l:=Z.out k f;have ae:w0.heap.size<=k:=l.1;have aC:=y.out;exact⟨by omega,l.2⟩
  change Hid _ at s
  refine(Qr _ bp aD F H (λk=>(Value.slice aa u'.body.length v).ownBlock=some k) a b ca cb es vs (by exact W.kept (T:=λ_=>False) kD nF nF (λav=>av)) (by omega) aa u'.body.length v (u'.body.map qk) (by exact Kept.owns (S:=λ_=>False) kD aE nF) (by omega) (λk f=>f) (λk f=>by
   have l:=(s k f).1
   exact⟨λg=>by have:=p.flt k g;omega,λg=>by have:=p.hlt k g;omega,λg=>by have:=p.head.lt;omega⟩)).mono ?_
  rintro e aY ⟨rfl,⟨bc,a6,aZ,bj,ay,bu,ak⟩,I⟩;have aJ:Hid (Kept (λk=>F k\/(Value.slice aa u'.body.length v).ownBlock=some k\/k=bp) z aY):=⟨I.os,I.tape,I.output,I.size,I.block⟩;change Hid _ at ay ak;clear I;go_wp2;go_ret;have U:=O.out;refine⟨zd (aG (by omega)),⟨_,bj,bc,a6,aZ,vD M w w0.drew z aY X bo t h bd D aB S N aA af V C j bs hbs ap (ly y) m B Y _ aJ (λk f=>?_),ay,by omega,au,λk f=>?_,λk f=>⟨λav=>?_,(G k f).2.1,(G k f).2.2⟩⟩,(L.mono (λk f=>.inl (f.elim (j.sX k) (λe=>by rw [e];exact B.1)))).trans aJ (λk f=>?_)⟩
  .rcases f with f|f|f;.exact⟨λg=>(q k g).1 f,λg=>(G k (.inr g)).1 f⟩
   .have l:=s.out k f;exact⟨λg=>by have:=U k g;omega,l.2⟩
   .exact⟨λg=>(q k g).2.2 f,λg=>(G k (.inr g)).2.2 f⟩
  .rcases ak k f with l|l|l;.exact .inl l
   .have:=(s k l).1;exact .inr (by omega)
   .have ae:z.heap.size<=k:=l;have aC:=y.out;exact .inr (by omega)
  .rcases ak k av with l|l|l;.exact(G k f).1 l
   .have ae:=s.out k l;rcases f with f|f;.have:=U k f;omega
    .exact ae.2 f
   .have ae:z.heap.size<=k:=l;have aC:=y.out;rcases f with f|f;.have:=U k f;omega
    .have:=aj.out k f;omega
  .rcases f with f|f|f;.exact .inl (.inr (.inl f))
   .have:=(s k f).1;exact .inr (by omega)
   .exact .inl (.inr (.inr f))
 .obtain⟨aa,v,aT⟩:=K.no g;have an:=aF.out g;have aS:(c !=0)=true:=by simpa using g
  subst aT;have bl:(n==0)=true:=by simpa using an
  clear g an;go_wp2;go_ret
  exact⟨rfl,⟨_,F,a,ca,es,vD M w w0.drew z _ X bo t h bd D aB S N aA af V C j bs hbs ap (ly y) m B Y (λ_=>False) J fE,W,by omega,au,λk f=>.inl f,G⟩,
   (L.mono (λk f=>.inl (f.elim (j.sX k) (λe=>by rw [e];exact B.1)))).trans J fE⟩
theorem qt.kept0{c:Option Addr}(p:qt M w base bp t ones c lc F H a b ca cb es vs)(k:Kept (λ_=>False) w w'):qt M w' base bp t ones c lc F H a b ca cb es vs:=
 ⟨k.owns p.row nF,p.book.kept k nF nF (λd=>d),λi e=>(p.one i e).kept k nF,p.apart,p.sep,p.rsep,p.rowF,p.bX,p.bF,p.bH,p.bP,p.fewE,p.fewV,p.fewO⟩
theorem qt.rowCell{g:Nat}(p:qt M w base bp t ones (some ⟨g,0,none⟩) lc F H a b ca cb es vs)(i:Nat)(c:i<ones.length):w.cell? ⟨g,i,none⟩=some (.pointer (some ⟨ones[i].1,0,none⟩)):=by
 have:=p.row.cells (g:=g) rfl i (yp ones[i].1) (by simp [c]);rw [eO] at this;simpa [yp] using this
theorem qt.rowAt{c:Option Addr}(p:qt M w base bp t ones c lc F H a b ca cb es vs)(j:0<ones.length):∃g,c=some ⟨g,0,none⟩:=by
 rcases p.row.2 with⟨i,h⟩|⟨g,e,f,d,_⟩;.omega
 .cases d;exact⟨g,rfl⟩
theorem Zo(M:za)(A:zL M)(u:∀f,M.Fu f->f≠0)(w:World)(base bp t:Nat)(ones:List (Nat×(Nat->Prop)))(r:Option Addr)(lc:Nat)(F H:Nat->Prop)(a b:Option Addr)(ca cb:Nat)(es vs:List js)(p:qt M w base bp t ones r lc F H a b ca cb es vs)(j:base<=w.heap.size)(x:t<=2199023255552)
 (c:yC) (Q:Nat->Prop) (h:c.Ok w Q) (y:∀k,Q k->k<base) (g:c.kind=1) (v:c.C<=0):
 Calls Tryz.prog 37 #[.pointer (some ⟨bp,0,none⟩),.agg #[.int .i64 c.kind,.int .i64 c.A,.int .i64 c.B,.int .i64 c.C,.string c.S,.string c.P,.slice c.la c.l.length c.lc,.slice c.ka c.ks.length c.kc]] w λe w'=>e=.returned (.bool true)/\ju M w' base bp (t+1)/\Kept (λk=>base<=k) w w':=by
 have k0:Kept (λ_=>False) w (w.alloc (.cells #[.int .i64 c.kind,.int .i64 c.A,.int .i64 c.B,.int .i64 c.C,.string c.S,.string c.P,.slice c.la c.l.length c.lc,.slice c.ka c.ks.length c.kc] 81)):=Kept.alloc _ _ _;have d:xj (w.alloc (.cells #[.int .i64 c.kind,.int .i64 c.A,.int .i64 c.B,.int .i64 c.C,.string c.S,.string c.P,.slice c.la c.l.length c.lc,.slice c.ka c.ks.length c.kc] 81)) w.heap.size c:=⟨heap_alloc_new w _⟩;have q:=d.c0.trans (et (λk=>some (Value.int .i64 k)) g);have z:=d.c0;have B:=d.c1;have K:=d.c2;have L:=d.c3;have N:=d.c4;have J:=d.c5;have G:=d.c6;have E:=d.c7;have n:=p.kept0 k0;have i:=h.kept k0 nF;have l:=aF j k0.size;have C:=n.book.head.c.1;have m:=h.A;change Hid _ at n i d k0 p y l g m;clear h;generalize I:w.alloc (.cells #[.int .i64 c.kind,.int .i64 c.A,.int .i64 c.B,.int .i64 c.C,.string c.S,.string c.P,.slice c.la c.l.length c.lc,.slice c.ka c.ks.length c.kc] 81)=w0 at*;clear q;have D:(c.kind==1)=true:=by rw [g.out];rfl
 go_enter Tryz.func37,Tryz.ntmps37;go_wp2_with fail;refine(XT M A u _ base bp t ones r lc F H a b ca cb es vs n l x c Q i v).mono ?_;rintro e O ⟨rfl,o,s⟩;change Hid _ at o s;go_wp2;go_ret;exact⟨rfl,o,(k0.mono fE).trans s iL⟩
theorem XU(M:za)(A:qx M)(w:World)(base bp t:Nat)(ones:List (Nat×(Nat->Prop)))(ah:Option Addr)(lc:Nat)(F H:Nat->Prop)(a b:Option Addr)(ca cb:Nat)(es vs:List js)(p:qt M w base bp t ones ah lc F H a b ca cb es vs)(x:base<=w.heap.size)(aa:t<=2199023255552)
 (c:yC) (Q:Nat->Prop) (s:c.Ok w Q) (I:∀k,Q k->k<base) (d:c.kind=2):
 Calls Tryz.prog 37 #[.pointer (some ⟨bp,0,none⟩),.agg #[.int .i64 c.kind,.int .i64 c.A,.int .i64 c.B,.int .i64 c.C,.string c.S,.string c.P,.slice c.la c.l.length c.lc,.slice c.ka c.ks.length c.kc]] w λe w'=>e=.returned (.bool true)/\ju M w' base bp (t+1)/\Kept (λk=>base<=k) w w':=by
 have k0:Kept (λ_=>False) w (w.alloc (.cells #[.int .i64 c.kind,.int .i64 c.A,.int .i64 c.B,.int .i64 c.C,.string c.S,.string c.P,.slice c.la c.l.length c.lc,.slice c.ka c.ks.length c.kc] 81)):=Kept.alloc _ _ _;have f:xj (w.alloc (.cells #[.int .i64 c.kind,.int .i64 c.A,.int .i64 c.B,.int .i64 c.C,.string c.S,.string c.P,.slice c.la c.l.length c.lc,.slice c.ka c.ks.length c.kc] 81)) w.heap.size c:=⟨heap_alloc_new w _⟩;have U:=f.c0.trans (et (λk=>some (Value.int .i64 k)) d);have ag:=f.c0;have aq:=f.c1;have az:=f.c2;have am:=f.c3;have an:=f.c4;have ax:=f.c5;have ay:=f.c6;have av:=f.c7;have m:=p.kept0 k0;have r:=s.kept k0 nF;have B:base<=(w.alloc (.cells #[.int .i64 c.kind,.int .i64 c.A,.int .i64 c.B,.int .i64 c.C,.string c.S,.string c.P,.slice c.la c.l.length c.lc,.slice c.ka c.ks.length c.kc] 81)).heap.size:=aF x k0.size;have ai:=m.book.head.c.1;have aw:=p.fewO;have u:=s.A;change Hid _ at m r f k0 p I B d u;clear s;generalize aj:w.alloc (.cells #[.int .i64 c.kind,.int .i64 c.A,.int .i64 c.B,.int .i64 c.C,.string c.S,.string c.P,.slice c.la c.l.length c.lc,.slice c.ka c.ks.length c.kc] 81)=w0 at*;clear U;have au:(c.kind==1)=false:=by rw [d.out];rfl
 have af:(c.kind==12)=false:=by rw [d.out];rfl
 have ar:decide (c.kind<2)=false:=by rw [d.out];rfl
 have ad:decide (11<c.kind)=false:=by rw [d.out];rfl
 have al:decide (8<=c.kind)=false:=by rw [d.out];rfl
 have ab:(c.kind==2)=true:=by rw [d.out];rfl
 by_cases O:ones.length=0
 .have Z:((ones.length:Int)==0)=true:=by simp [O]
  go_enter Tryz.func37,Tryz.ntmps37;go_wp2;go_ret;exact⟨rfl,p.idle k0⟩
 .have Z:((ones.length:Int)==0)=false:=by simpa using O
  obtain⟨g,rfl⟩:=m.rowAt (by omega);go_enter Tryz.func37,Tryz.ntmps37;go_wp2_with fail;obtain⟨i,ao,E⟩:=uV c.A ones.length u (by omega) (by omega);have n:i<ones.length:=by omega
  have ap:=m.rowCell i n;change Hid _ at E;go_quiet ((go_at_call 58;exact Calls.quiet_of_same (E _)));obtain⟨h,bd,D,S,ak,X,V,q,l⟩:=m.one i n;have o:=l.kept (T:=λ_=>False) (w':=w0.drewN nq) kD nF;have v:=l.head.c1;have N:Hid (yY M (w0.drewN nq) ones[i].2 ones[i].1 t h bd D S ak X V q):=o;have W:Hid _:=m.kept0 (w':=w0.drewN nq) kD;have J:Hid _:=r.kept (T:=λ_=>False) (w':=w0.drewN nq) kD nF;have G:base<=(w0.drewN nq).heap.size:=B.out;have C:∀k,Q k->¬ones[i].2 k/\k<(w0.drewN nq).heap.size:=λk R=>⟨λac=>by have:=I.out k R;have:=m.bX i n k ac;omega,by have:=I.out k R;omega⟩;have y:Kept (λk=>base<=k) w (w0.drewN nq):=(k0.mono fE).trans (S':=λ_=>False) kD fE;change Hid _ at C y;clear o
  have L:(∃bs,h.s=yp bs)\/h.s=.pointer none:=by
   cases l.st using yj.elim with
   |live bs j=>exact .inl ⟨bs,j⟩
   |shut bs j=>exact .inl ⟨bs,j⟩
   |gone j=>exact .inr j
  clear l;rcases L with⟨bs,j⟩|j
  .have Y:Hid _:=j;rw [j] at v;unfold yp at v;clear j;go_wp2_with fail;refine(uU M A _ ones[i].2 ones[i].1 t h bd D S ak X V q N aa bs Y c Q J C).mono ?_;rintro e aA z;obtain⟨ae,K,P⟩:=W.stepped G i n z;subst ae;change Hid _ at K P;clear z;go_wp2;go_ret;exact⟨rfl,K,y.trans P iL⟩
  .rw [j] at v;clear j;go_wp2;go_ret;exact⟨rfl,p.idle (k0.trans (S':=λ_=>False) kD iL)⟩
theorem XV(M:za)(A:jp M)(w:World)(base bp t:Nat)(ones:List (Nat×(Nat->Prop)))(ak:Option Addr)(lc:Nat)(F H:Nat->Prop)(a b:Option Addr)(ca cb:Nat)(es vs:List js)(p:qt M w base bp t ones ak lc F H a b ca cb es vs)(y:base<=w.heap.size)(ac:t<=2199023255552)
 (c:yC) (Q:Nat->Prop) (s:c.Ok w Q) (J:∀k,Q k->k<base) (d:c.kind=5):
 Calls Tryz.prog 37 #[.pointer (some ⟨bp,0,none⟩),.agg #[.int .i64 c.kind,.int .i64 c.A,.int .i64 c.B,.int .i64 c.C,.string c.S,.string c.P,.slice c.la c.l.length c.lc,.slice c.ka c.ks.length c.kc]] w λe w'=>e=.returned (.bool true)/\ju M w' base bp (t+1)/\Kept (λk=>base<=k) w w':=by
 have k0:Kept (λ_=>False) w (w.alloc (.cells #[.int .i64 c.kind,.int .i64 c.A,.int .i64 c.B,.int .i64 c.C,.string c.S,.string c.P,.slice c.la c.l.length c.lc,.slice c.ka c.ks.length c.kc] 81)):=Kept.alloc _ _ _;have f:xj (w.alloc (.cells #[.int .i64 c.kind,.int .i64 c.A,.int .i64 c.B,.int .i64 c.C,.string c.S,.string c.P,.slice c.la c.l.length c.lc,.slice c.ka c.ks.length c.kc] 81)) w.heap.size c:=⟨heap_alloc_new w _⟩;have W:=f.c0.trans (et (λk=>some (Value.int .i64 k)) d);have ai:=f.c0;have av:=f.c1;have aC:=f.c2;have ap:=f.c3;have aq:=f.c4;have aA:=f.c5;have aB:=f.c6;have ay:=f.c7;have n:=p.kept0 k0;have r:=s.kept k0 nF;have C:base<=(w.alloc (.cells #[.int .i64 c.kind,.int .i64 c.A,.int .i64 c.B,.int .i64 c.C,.string c.S,.string c.P,.slice c.la c.l.length c.lc,.slice c.ka c.ks.length c.kc] 81)).heap.size:=aF y k0.size;have al:=n.book.head.c.1;have az:=p.fewO;have u:=s.A;have Y:=p.fewE;change Hid _ at n r f k0 p J C d u;clear s;generalize am:w.alloc (.cells #[.int .i64 c.kind,.int .i64 c.A,.int .i64 c.B,.int .i64 c.C,.string c.S,.string c.P,.slice c.la c.l.length c.lc,.slice c.ka c.ks.length c.kc] 81)=w0 at*;clear W;have ax:(c.kind==1)=false:=by rw [d.out];rfl
 have ah:(c.kind==12)=false:=by rw [d.out];rfl
 have aw:decide (c.kind<2)=false:=by rw [d.out];rfl
 have af:decide (11<c.kind)=false:=by rw [d.out];rfl
 have ao:decide (8<=c.kind)=false:=by rw [d.out];rfl
 have ad:(c.kind==2)=false:=by rw [d.out];rfl
 have aj:(c.kind==3)=false:=by rw [d.out];rfl
 have ab:(c.kind==4)=false:=by rw [d.out];rfl
 by_cases P:ones.length=0
 .have aa:((ones.length:Int)==0)=true:=by simp [P]
  go_enter Tryz.func37,Tryz.ntmps37;go_wp2;go_ret;exact⟨rfl,p.idle k0⟩
 .have aa:((ones.length:Int)==0)=false:=by simpa using P
  obtain⟨g,rfl⟩:=n.rowAt (by omega);go_enter Tryz.func37,Tryz.ntmps37;go_wp2_with fail;obtain⟨i,ar,G⟩:=uV c.A ones.length u (by omega) (by omega);have m:i<ones.length:=by omega
  have au:=n.rowCell i m;change Hid _ at G;go_quiet ((go_at_call 58;exact Calls.quiet_of_same (G _)));obtain⟨h,bd,D,S,an,X,V,q,l⟩:=n.one i m;have o:=l.kept (T:=λ_=>False) (w':=w0.drewN nq) kD nF;have v:=l.head.c1;have O:Hid (yY M (w0.drewN nq) ones[i].2 ones[i].1 t h bd D S an X V q):=o;have x:Hid _:=n.kept0 (w':=w0.drewN nq) kD;have K:Hid _:=r.kept (T:=λ_=>False) (w':=w0.drewN nq) kD nF;have I:base<=(w0.drewN nq).heap.size:=C.out;have E:∀k,Q k->¬ones[i].2 k/\k<(w0.drewN nq).heap.size:=λk U=>⟨λae=>by have:=J.out k U;have:=n.bX i m k ae;omega,by have:=J.out k U;omega⟩;have z:Kept (λk=>base<=k) w (w0.drewN nq):=(k0.mono fE).trans (S':=λ_=>False) kD fE;change Hid _ at E z;clear o
  have N:(∃bs,h.s=yp bs)\/h.s=.pointer none:=by
   cases l.st using yj.elim with
   |live bs j=>exact .inl ⟨bs,j⟩
   |shut bs j=>exact .inl ⟨bs,j⟩
   |gone j=>exact .inr j
  clear l;rcases N with⟨bs,j⟩|j
  .have Z:Hid _:=j;rw [j] at v;unfold yp at v;clear j;go_wp2_with fail;refine(Uo M A _ ones[i].2 ones[i].1 t h bd D S an X V q O ac bs Z c Q K E d bp _ F H a b ca cb es vs x.book Y (x.sep i m)).mono ?_;rintro e aD B;obtain⟨ag,L,R⟩:=x.asked I i m B;subst ag;change Hid _ at L R;clear B;go_wp2;go_ret;exact⟨rfl,L,z.trans R iL⟩
  .rw [j] at v;clear j;go_wp2;go_ret;exact⟨rfl,p.idle (k0.trans (S':=λ_=>False) kD iL)⟩
theorem Vg(M:za)(A:yU M)(w:World)(base bp t:Nat)(ones:List (Nat×(Nat->Prop)))(ak:Option Addr)(lc:Nat)(F H:Nat->Prop)(a b:Option Addr)(ca cb:Nat)(es vs:List js)(p:qt M w base bp t ones ak lc F H a b ca cb es vs)(y:base<=w.heap.size)(ac:t<=2199023255552)
 (c:yC) (Q:Nat->Prop) (s:c.Ok w Q) (J:∀k,Q k->k<base) (d:c.kind=6):
 Calls Tryz.prog 37 #[.pointer (some ⟨bp,0,none⟩),.agg #[.int .i64 c.kind,.int .i64 c.A,.int .i64 c.B,.int .i64 c.C,.string c.S,.string c.P,.slice c.la c.l.length c.lc,.slice c.ka c.ks.length c.kc]] w λe w'=>e=.returned (.bool true)/\ju M w' base bp (t+1)/\Kept (λk=>base<=k) w w':=by
 have k0:Kept (λ_=>False) w (w.alloc (.cells #[.int .i64 c.kind,.int .i64 c.A,.int .i64 c.B,.int .i64 c.C,.string c.S,.string c.P,.slice c.la c.l.length c.lc,.slice c.ka c.ks.length c.kc] 81)):=Kept.alloc _ _ _;have f:xj (w.alloc (.cells #[.int .i64 c.kind,.int .i64 c.A,.int .i64 c.B,.int .i64 c.C,.string c.S,.string c.P,.slice c.la c.l.length c.lc,.slice c.ka c.ks.length c.kc] 81)) w.heap.size c:=⟨heap_alloc_new w _⟩;have W:=f.c0.trans (et (λk=>some (Value.int .i64 k)) d);have ai:=f.c0;have av:=f.c1;have aC:=f.c2;have ap:=f.c3;have aq:=f.c4;have aA:=f.c5;have aB:=f.c6;have ay:=f.c7;have n:=p.kept0 k0;have r:=s.kept k0 nF;have C:base<=(w.alloc (.cells #[.int .i64 c.kind,.int .i64 c.A,.int .i64 c.B,.int .i64 c.C,.string c.S,.string c.P,.slice c.la c.l.length c.lc,.slice c.ka c.ks.length c.kc] 81)).heap.size:=aF y k0.size;have al:=n.book.head.c.1;have az:=p.fewO;have u:=s.A;have Y:=p.fewE;change Hid _ at n r f k0 p J C d u;clear s;generalize am:w.alloc (.cells #[.int .i64 c.kind,.int .i64 c.A,.int .i64 c.B,.int .i64 c.C,.string c.S,.string c.P,.slice c.la c.l.length c.lc,.slice c.ka c.ks.length c.kc] 81)=w0 at*;clear W;have ax:(c.kind==1)=false:=by rw [d.out];rfl
 have ah:(c.kind==12)=false:=by rw [d.out];rfl
 have aw:decide (c.kind<2)=false:=by rw [d.out];rfl
 have af:decide (11<c.kind)=false:=by rw [d.out];rfl
 have ao:decide (8<=c.kind)=false:=by rw [d.out];rfl
 have ad:(c.kind==2)=false:=by rw [d.out];rfl
 have aj:(c.kind==3)=false:=by rw [d.out];rfl
 have ab:(c.kind==4)=false:=by rw [d.out];rfl
 by_cases P:ones.length=0
 .have aa:((ones.length:Int)==0)=true:=by simp [P]
  go_enter Tryz.func37,Tryz.ntmps37;go_wp2;go_ret;exact⟨rfl,p.idle k0⟩
 .have aa:((ones.length:Int)==0)=false:=by simpa using P
  obtain⟨g,rfl⟩:=n.rowAt (by omega);go_enter Tryz.func37,Tryz.ntmps37;go_wp2_with fail;obtain⟨i,ar,G⟩:=uV c.A ones.length u (by omega) (by omega);have m:i<ones.length:=by omega
  have au:=n.rowCell i m;change Hid _ at G;go_quiet ((go_at_call 58;exact Calls.quiet_of_same (G _)));obtain⟨h,bd,D,S,an,X,V,q,l⟩:=n.one i m;have o:=l.kept (T:=λ_=>False) (w':=w0.drewN nq) kD nF;have v:=l.head.c1;have O:Hid (yY M (w0.drewN nq) ones[i].2 ones[i].1 t h bd D S an X V q):=o;have x:Hid _:=n.kept0 (w':=w0.drewN nq) kD;have K:Hid _:=r.kept (T:=λ_=>False) (w':=w0.drewN nq) kD nF;have I:base<=(w0.drewN nq).heap.size:=C.out;have E:∀k,Q k->¬ones[i].2 k/\k<(w0.drewN nq).heap.size:=λk U=>⟨λae=>by have:=J.out k U;have:=n.bX i m k ae;omega,by have:=J.out k U;omega⟩;have z:Kept (λk=>base<=k) w (w0.drewN nq):=(k0.mono fE).trans (S':=λ_=>False) kD fE;change Hid _ at E z;clear o
  have N:(∃bs,h.s=yp bs)\/h.s=.pointer none:=by
   cases l.st using yj.elim with
   |live bs j=>exact .inl ⟨bs,j⟩
   |shut bs j=>exact .inl ⟨bs,j⟩
   |gone j=>exact .inr j
  clear l;rcases N with⟨bs,j⟩|j
  .have Z:Hid _:=j;rw [j] at v;unfold yp at v;clear j;go_wp2_with fail;refine(G8 M A _ ones[i].2 ones[i].1 t h bd D S an X V q O ac bs Z c Q K E d bp _ F H a b ca cb es vs x.book Y (x.sep i m)).mono ?_;rintro e aD B;obtain⟨ag,L,R⟩:=x.asked I i m B;subst ag;change Hid _ at L R;clear B;go_wp2;go_ret;exact⟨rfl,L,z.trans R iL⟩
  .rw [j] at v;clear j;go_wp2;go_ret;exact⟨rfl,p.idle (k0.trans (S':=λ_=>False) kD iL)⟩
theorem Tryz.infoOp:(Tryz.prog.info? 81).map (λi=>(i.zero,i.size,i.bytes))=some (some (.agg #[.int .i64 0,.int .i64 0,.int .i64 0,.int .i64 0,.string ByteArray.empty,.string ByteArray.empty,.slice none 0 0,.slice none 0 0]),8,112):=by kernel_rfl
structure jQ (w:World) (Q:Nat->Prop) (a:Option Addr) (ods:List yC):Prop where
 each:∀i (hi:i<ods.length),∃b o,a=some ⟨b,o,none⟩/\Q b/\b<w.heap.size/\w.rangeAt b (o+i*8) ods[i].cells
 ok:∀i (hi:i<ods.length),ods[i].Ok w Q
theorem jQ.kept{Q T:Nat->Prop}{c:List yC}(h:jQ w Q a c)(k:Kept T w w')(g:∀i,Q i->¬T i):jQ w' Q a c:=
 ⟨λi d=>by
  obtain⟨b,o,n,e,f,m⟩:=h.each i d
  exact⟨b,o,n,e,au f k.size,λj v l=>(k.cell (a:=⟨b,o+i*8+j,none⟩) f (g b e)).trans (m j v l)⟩,λi d=>(h.ok i d).kept k g⟩
def yC.spare(o:yC):yC:=if o.kind=1 then {o with C:=0} else o
theorem yC.Ok.spare{Q:Nat->Prop}{a:yC}(h:a.Ok w Q):a.spare.Ok w Q:=by
 unfold yC.spare;split;.exact⟨h.kind,h.A,h.B,⟨by show (-9223372036854775808:Int)<=0;omega,by show (0:Int)<=9223372036854775807;omega⟩,h.S,h.P,h.l,h.len,h.klen,h.ks⟩
 .exact h
structure fH (w:World) (kb:Nat) (kl:List Int):Prop where
 at_:w.heap[kb]? =some (.cells (kl.map (Value.int .i64)).toArray 3 (0,0))
theorem fH.lt(h:fH w kb kl):kb<w.heap.size:=(lT h.at_)
theorem fH.kept{T:Nat->Prop}(h:fH w kb kl)(k:Kept T w w')(a:¬T kb):fH w' kb kl:=⟨(k.block kb h.lt a).trans h.at_⟩
theorem fH.cell(h:fH w kb kl)(j:Nat)(a:j<kl.length):w.cell? ⟨kb,j,none⟩=some (.int .i64 kl[j]):=by
 rw [ak w kb j _ _ _ h.at_];simp [a]
structure Qz (w wr:World) (ods:List yC) (k:Nat) (x:Value):Prop where
 kept:Kept (λ_=>False) w wr
 row:∃a c,x=.slice a k c/\wr.ownsRow 0 81 8 (.slice a k c) k (((ods.take k).map yC.spare).map yC.cells).flatten/\∀g,(Value.slice a k c).ownBlock=some g->w.heap.size<=g
theorem Ki(a:List yC)(k:Nat)(h:k<a.length):(((a.take (k+1)).map yC.spare).map yC.cells).flatten=(((a.take k).map yC.spare).map yC.cells).flatten++a[k].spare.cells:=by
 rw [ar h];simp only [eh,aT,im,aY,eo,lX,aM]
theorem Qz.pushed{wr f:World}{a:List yC}{k:Nat}{l:Option Addr}{n:Nat}(c:k<a.length)(b:Kept (λ_=>False) w wr)(d:∀g,(Value.slice l k n).ownBlock=some g->w.heap.size<=g)(o m:Obj)(g i:Nat)
 (j:f.ownsRow 0 81 8 (.slice (some ⟨g,0,none⟩) (k+1) i) (k+1) ((((a.take k).map yC.spare).map yC.cells).flatten++a[k].spare.cells)) (h:((wr.alloc o).alloc m).grownBy f (Value.slice l k n).ownBlock) (q:(Value.slice l k n).ownBlock=some g\/g=((wr.alloc o).alloc m).heap.size):
 Qz w f a (k+1) (.slice (some ⟨g,0,none⟩) (k+1) i):=by
 have k2:Kept (λk=>w.heap.size<=k) wr f:=((Kept.alloc _ wr o).trans (Kept.alloc _ _ m) iL).trans (Kept.grown (S:=λk=>w.heap.size<=k) h (λk c=>d k c)) iL;refine⟨b.trans k2 (λk c=>.inr c),_,i,rfl,by rw [Ki a k c];exact j,λr p=>?_⟩;simp [Value.ownBlock] at p;subst p;rcases q with e|e;.exact d _ e
 .have:=b.size;simp at e;omega
theorem Kj(w:World)(Q:Nat->Prop)(a:Option Addr)(cap:Nat)(c:List yC)(h:jQ w Q a c)(R:c.length<=1256584717449)(kb T:Nat)(kl:List Int)(J:fH w kb kl)(M:∀k∈kl,k≠8)(W:kl.length<=100):
 Calls Tryz.prog 36 #[.slice a c.length cap,.slice (some ⟨kb,0,none⟩) kl.length T] w λe w'=>∃x,e=.returned x/\Qz w w' c c.length x:=by
 have S:Hid _:=J;obtain⟨u,H,C,E,F⟩:=qU Tryz.infoOp;have i:Hid (Tryz.prog.info? 81=some u/\u.zero=some (.agg #[.int .i64 0,.int .i64 0,.int .i64 0,.int .i64 0,.string ByteArray.empty,.string ByteArray.empty,.slice none 0 0,.slice none 0 0])/\u.size=8/\u.bytes=112):=⟨H,C,E,F⟩;change Hid _ at h M;clear J H C E F;go_enter Tryz.func36,Tryz.ntmps36;go_wp2;go_loop [5] (λt=>∃j:Nat,j<=kl.length/\t=.int .i64 j) (λt=>kl.length-(intOf t).toNat)
 case atStart=>exact⟨0,ai _,rfl⟩
 case round=>
  obtain⟨j,aj,rfl⟩:=hrel;by_cases B:j<kl.length
  .have X:=S.cell j B;have V:(kl[j]==8)=false:=by simpa using M _ (ag B)
   go_wp2;go_round
   case rel=>exact⟨j+1,by omega,by go_num⟩
   case measure=>simp [intOf];omega
  .go_wp2;go_loopw [6,7] (λx t wr=>∃k:Nat,k<=c.length/\t=.int .i64 k/\Qz w wr c k x) (λ_ t _=>c.length-(intOf t).toNat)
   case atStart=>exact⟨0,ai _,rfl,Kept.refl _ _,none,0,rfl,aP w 0 81 8,λg P=>by cases P⟩
   case round=>
    obtain⟨k,J,rfl,d,A,z,rfl,y,o⟩:=hrel;have v:Hid (wr.ownsRow 0 81 8 (.slice A k z) k (((c.take k).map yC.spare).map yC.cells).flatten):=y;change Hid _ at d o;clear y;by_cases s:k<c.length
    .have G:=h.kept d nF;obtain⟨b,D,rfl,Y,U,p⟩:=G.each k s;have ae:wr.cell? ⟨b,D+k*8,none⟩=some (.int .i64 c[k].kind):=p 0 _ rfl;have aa:wr.cell? ⟨b,D+k*8+1,none⟩=some (.int .i64 c[k].A):=p 1 _ rfl;have ah:wr.cell? ⟨b,D+k*8+2,none⟩=some (.int .i64 c[k].B):=p 2 _ rfl;have Z:wr.cell? ⟨b,D+k*8+3,none⟩=some (.int .i64 c[k].C):=p 3 _ rfl;have ac:wr.cell? ⟨b,D+k*8+4,none⟩=some (.string c[k].S):=p 4 _ rfl;have af:wr.cell? ⟨b,D+k*8+5,none⟩=some (.string c[k].P):=p 5 _ rfl;have ab:wr.cell? ⟨b,D+k*8+6,none⟩=some (.slice c[k].la c[k].l.length c[k].lc):=p 6 _ rfl;have ad:wr.cell? ⟨b,D+k*8+7,none⟩=some (.slice c[k].ka c[k].ks.length c[k].kc):=p 7 _ rfl;clear p G;by_cases n:c[k].kind=1
     .have N:(c[k].kind==1)=true:=by simpa using n
      have r:c[k].spare.cells=[.int .i64 c[k].kind,.int .i64 c[k].A,.int .i64 c[k].B,.int .i64 0,.string c[k].S,.string c[k].P,.slice c[k].la c[k].l.length c[k].lc,.slice c[k].ka c[k].ks.length c[k].kc]:=by unfold yC.spare;rw [aB n];rfl
      have m:Hid _:=r;clear n r;go_wp2_with (refine wpList_append_lies _ rfl (.tmp 35) (.tmp 37) 22 rfl 0 81 u _ 8 112 Tryz.underlying22 i.1 i.2.1 i.2.2.1 i.2.2.2 rfl (by omega) (.slice A k z) k (((c.take k).map yC.spare).map yC.cells).flatten (by rfl) (by exact World.ownsRow.alloc (World.ownsRow.alloc v _) _) ⟨wr.heap.size+1,0,none⟩ 1 1 c[k].spare.cells (by rfl) (by rw [m.out];rfl) (by rw [m.out];exact World.news_of_block (heap_alloc2_new wr _ _)) (by rw [m.out];simp [Value.oneCell']) (by omega) (by unfold maxLen;omega) (by omega) (ai _) _ rfl ?_;intro g K O l f q I;have L:Hid _:=Qz.pushed s d o _ _ g K l f q;clear l f q);go_roundw
      case rel=>exact⟨k+1,by omega,by go_num,L⟩
      case measure=>simp [intOf];omega
     .have N:(c[k].kind==1)=false:=by simpa using n
      have r:c[k].spare.cells=[.int .i64 c[k].kind,.int .i64 c[k].A,.int .i64 c[k].B,.int .i64 c[k].C,.string c[k].S,.string c[k].P,.slice c[k].la c[k].l.length c[k].lc,.slice c[k].ka c[k].ks.length c[k].kc]:=by unfold yC.spare;rw [az n];rfl
      have m:Hid _:=r;clear n r;go_wp2_with (refine wpList_append_lies _ rfl (.tmp 35) (.tmp 37) 22 rfl 0 81 u _ 8 112 Tryz.underlying22 i.1 i.2.1 i.2.2.1 i.2.2.2 rfl (by omega) (.slice A k z) k (((c.take k).map yC.spare).map yC.cells).flatten (by rfl) (by exact World.ownsRow.alloc (World.ownsRow.alloc v _) _) ⟨wr.heap.size+1,0,none⟩ 1 1 c[k].spare.cells (by rfl) (by rw [m.out];rfl) (by rw [m.out];exact World.news_of_block (heap_alloc2_new wr _ _)) (by rw [m.out];simp [Value.oneCell']) (by omega) (by unfold maxLen;omega) (by omega) (ai _) _ rfl ?_;intro g K O l f q I;have L:Hid _:=Qz.pushed s d o _ _ g K l f q;clear l f q);go_roundw
      case rel=>exact⟨k+1,by omega,by go_num,L⟩
      case measure=>simp [intOf];omega
    .go_wp2;go_ret;have e:k=c.length:=by omega
     subst e;exact⟨_,rfl,d,A,z,rfl,v,o⟩
end law
namespace law
open Go.RowKit disk ref book Go.Deep
theorem Bl:Tryz.prog.cellsOf 5=1:=by kernel_rfl
theorem Up:Tryz.prog.cellsOf 4=1:=by kernel_rfl
theorem jJ:Tryz.prog.cellsOf 3=1:=by kernel_rfl
theorem XW:Tryz.prog.cellsOf 9=1:=by kernel_rfl
theorem XX:Tryz.prog.cellsOf 35=1:=by kernel_rfl
theorem Zp:Tryz.prog.cellsOf 39=1:=by kernel_rfl
theorem Vh:Tryz.prog.cellsOf 81=8:=by kernel_rfl
theorem Yp:Tryz.prog.bytesOf 5=1:=by kernel_rfl
theorem dD:Tryz.prog.bytesOf 4=1:=by kernel_rfl
theorem Bm:Tryz.prog.bytesOf 81=112:=by kernel_rfl
theorem Zq{w:World}{a:Addr}{v:Value}(h:w.cell? a=some v):a.block<w.heap.size:=by
 unfold World.cell? at h
 cases b:w.heap[a.block]? with
 |none=>rw [b] at h;simp at h
 |some c=>exact(lT b)
section
variable {H:Type} {enc:TypeId×Value->H} {W:World} {fuel:Nat} {cs:List Value} {x:DataW H×List MemPlace}
theorem Zr{a:Addr}{m:Nat}{V:Nat->Value}(h:∀i,i<m->W.cell? (a.add i)=some (V i))(e:0<m):∃b d,a=⟨b,d,none⟩/\b<W.heap.size/\∀i,i<m->W.cell? ⟨b,d+i,none⟩=some (V i):=by
 obtain⟨b,d,f⟩:=a;have c:=h 0 e;have g:f=none:=by simpa [Addr.add] using World.cell?_spot c
 subst g;refine⟨b,d,rfl,?_,λi j=>?_⟩;.have:=Zq c;simpa [Addr.add] using this
 .have:=h i j;rw [eO] at this;exact this
theorem Zs(h:DataW.trod enc Tryz.prog W 0 (λ_=>true) true fuel 35 cs=some x):∃a l cap,cs=[.slice a l.length cap]/\zu W (λk=>k<W.heap.size) a l/\(l.length=0\/∃g t,x.1=.slice g t/\g.length=l.length)/\l.length<=cap:=by
 rcases open_slice1 Tryz.underlying35 Bl h with⟨rfl,rfl⟩|⟨a,c,cap,m,n,V,D,Pl,rfl,_,r,H,e,rfl,s⟩;.exact⟨none,[],0,rfl,.inl rfl,.inl rfl,aC _⟩
 .have A:c<=m:=by rw [e];simpa using r
  obtain⟨z,q⟩:=choose_lt (α:=Nat) (n:=m) (p:=λi k=>V i=.int .u8 (k:Int)/\k<256) (λi d=>by
   obtain⟨k,o,_,v⟩:=DataW.trod_int Tryz.underlying5 (s i d).2;simp only [ee,and_true] at o
   have E:0<=k/\k<256:=by
    have G:IntKind.u8.min<=k/\k<=IntKind.u8.max:=by simpa only [Lit.wf,aS,aO] using v
    have I:IntKind.u8.min=0:=by decide
    have F:IntKind.u8.max=255:=by decide
    omega
   exact⟨k.toNat,by rw [o];congr 1;omega,by omega⟩)
  refine⟨some a,(List.range c).map λi=>UInt8.ofNat (z i),cap,by simp,?_,.inr ⟨_,_,rfl,by simp⟩,by simpa using r⟩;by_cases u:c=0;.subst u;exact .inl rfl
  .obtain⟨b,C,rfl,f,y⟩:=Zr (λi d=>(s i d).1) (by omega:0<m);refine .inr ⟨b,C,rfl,f,f,λj w=>?_⟩;have B:j<c:=by simpa using w
   rw [y j (by omega),(q j (by omega)).1];have:=(q j (by omega)).2;simp;omega
theorem gU(h:DataW.trod enc Tryz.prog W 0 (λ_=>true) true fuel 39 cs=some x):∃a ks cap,cs=[.slice a (ks:List Bool).length cap]/\(∀j,j<ks.length->∃kb s,a=some ⟨kb,s,none⟩/\kb<W.heap.size/\kb<W.heap.size/\W.cell? ⟨kb,s+j,none⟩=some (.bool (ks.getD j false)))/\(ks.length=0\/∃q u,x.1=.slice q u/\q.length=ks.length):=by
 rcases open_slice1 Tryz.underlying39 Up h with⟨rfl,rfl⟩|⟨a,c,cap,m,n,V,D,Pl,rfl,_,t,B,g,rfl,o⟩;.exact⟨none,[],0,rfl,λj e=>by simp at e,.inl rfl⟩
 .have y:c<=m:=by rw [g];simpa using t
  obtain⟨z,w⟩:=choose_lt (α:=Bool) (n:=m) (p:=λi k=>V i=.bool k) (λi d=>by
   obtain⟨k,r,_⟩:=DataW.trod_bool Tryz.underlying4 (o i d).2;simp only [ee,and_true] at r
   exact⟨k,r⟩)
  refine⟨some a,(List.range c).map z,cap,by simp,λj e=>?_,.inr ⟨_,_,rfl,by simp⟩⟩;have f:j<c:=by simpa using e
  obtain⟨b,A,rfl,l,v⟩:=Zr (λi d=>(o i d).1) (by omega:0<m);refine⟨b,A,rfl,l,l,?_⟩;rw [v j (by omega),w j (by omega)];simp [f]
theorem y9{t:TypeId}(b:Tryz.prog.underlying t=some (.int .i64))(h:DataW.trod enc Tryz.prog W 0 (λ_=>true) true fuel t cs=some x):∃k,cs=[.int .i64 k]/\zs k:=by
 obtain⟨k,a,_,c⟩:=DataW.trod_int b h;refine⟨k,a,?_⟩;have f:IntKind.i64.min<=k/\k<=IntKind.i64.max:=by simpa only [Lit.wf,aS,aO] using c
 have d:IntKind.i64.min= -9223372036854775808:=by decide
 have e:IntKind.i64.max=9223372036854775807:=by decide
 unfold zs;omega
theorem Bn(h:DataW.trod enc Tryz.prog W 0 (λ_=>true) true fuel 81 cs=some x)(q:(x.1.weights Tryz.prog 81).all (· <=reachBytes)=true):∃ae:yC,cs=ae.cells/\ae.Ok W (λk=>k<W.heap.size):=by
 obtain⟨U,n,rfl,r,c,f,b⟩:=DataW.trod_struct Tryz.underlying81 h;rw [Vh] at c
 match cs,c with
 |[c0,c1,c2,c3,c4,c5,c6,c7],_=>
  match U,f with
  |[x0,x1,x2,x3,x4,x5,x6,x7],_=>
   have H:DataW.trod enc Tryz.prog W 0 (λ_=>true) true n 3 [c0]=some x0:=by have a:DataW.trod enc Tryz.prog W 0 (λ_=>true) true n 3 (List.take (Tryz.prog.cellsOf 3) (List.drop 0 [c0,c1,c2,c3,c4,c5,c6,c7]))=some x0:=b 0 _ rfl;rw [jJ] at a;exact a
   have M:DataW.trod enc Tryz.prog W 0 (λ_=>true) true n 3 [c1]=some x1:=by have a:DataW.trod enc Tryz.prog W 0 (λ_=>true) true n 3 (List.take (Tryz.prog.cellsOf 3) (List.drop 1 [c0,c1,c2,c3,c4,c5,c6,c7]))=some x1:=b 1 _ rfl;rw [jJ] at a;exact a
   have Z:DataW.trod enc Tryz.prog W 0 (λ_=>true) true n 3 [c2]=some x2:=by have a:DataW.trod enc Tryz.prog W 0 (λ_=>true) true n 3 (List.take (Tryz.prog.cellsOf 3) (List.drop 2 [c0,c1,c2,c3,c4,c5,c6,c7]))=some x2:=b 2 _ rfl;rw [jJ] at a;exact a
   have ac:DataW.trod enc Tryz.prog W 0 (λ_=>true) true n 3 [c3]=some x3:=by have a:DataW.trod enc Tryz.prog W 0 (λ_=>true) true n 3 (List.take (Tryz.prog.cellsOf 3) (List.drop 3 [c0,c1,c2,c3,c4,c5,c6,c7]))=some x3:=b 3 _ rfl;rw [jJ] at a;exact a
   have ab:DataW.trod enc Tryz.prog W 0 (λ_=>true) true n 9 [c4]=some x4:=by have a:DataW.trod enc Tryz.prog W 0 (λ_=>true) true n 9 (List.take (Tryz.prog.cellsOf 9) (List.drop 4 [c0,c1,c2,c3,c4,c5,c6,c7]))=some x4:=b 4 _ rfl;rw [XW] at a;exact a
   have T:DataW.trod enc Tryz.prog W 0 (λ_=>true) true n 9 [c5]=some x5:=by have a:DataW.trod enc Tryz.prog W 0 (λ_=>true) true n 9 (List.take (Tryz.prog.cellsOf 9) (List.drop 5 [c0,c1,c2,c3,c4,c5,c6,c7]))=some x5:=b 5 _ rfl;rw [XW] at a;exact a
   have V:DataW.trod enc Tryz.prog W 0 (λ_=>true) true n 35 [c6]=some x6:=by have a:DataW.trod enc Tryz.prog W 0 (λ_=>true) true n 35 (List.take (Tryz.prog.cellsOf 35) (List.drop 6 [c0,c1,c2,c3,c4,c5,c6,c7]))=some x6:=b 6 _ rfl;rw [XX] at a;exact a
   have J:DataW.trod enc Tryz.prog W 0 (λ_=>true) true n 39 [c7]=some x7:=by have a:DataW.trod enc Tryz.prog W 0 (λ_=>true) true n 39 (List.take (Tryz.prog.cellsOf 39) (List.drop 7 [c0,c1,c2,c3,c4,c5,c6,c7]))=some x7:=b 7 _ rfl;rw [Zp] at a;exact a
   clear b h;obtain⟨k0,g,O⟩:=y9 Tryz.underlying3 H;obtain⟨k1,v,R⟩:=y9 Tryz.underlying3 M;obtain⟨k2,p,K⟩:=y9 Tryz.underlying3 Z;obtain⟨k3,w,ad⟩:=y9 Tryz.underlying3 ac;obtain⟨C,y, -, Q⟩:=DataW.trod_string Tryz.underlying9 ab;obtain⟨X,i, -, aa⟩:=DataW.trod_string Tryz.underlying9 T;obtain⟨Y,z,L,m,B,G,_⟩:=Zs V;obtain⟨F,s,E,l,P,I⟩:=gU J;simp only [ee,and_true] at g v p w y i m l;subst g v p w y i m l;rw [r] at q
   have d:(DataW.weightsEach Tryz.prog [3, 3, 3, 3, 9, 9, 35, 39] [x0.1,x1.1,x2.1,x3.1,x4.1,x5.1,x6.1,x7.1]).all (· <=reachBytes)=true:=by
    have e:DataW.weights Tryz.prog 81 (.agg [x0.1,x1.1,x2.1,x3.1,x4.1,x5.1,x6.1,x7.1])=DataW.weightsEach Tryz.prog [3, 3, 3, 3, 9, 9, 35, 39] [x0.1,x1.1,x2.1,x3.1,x4.1,x5.1,x6.1,x7.1]:=by unfold DataW.weights;rw [Tryz.underlying81];rfl
    rw [<-e];exact q
   have o:z.length<=140737488355326:=by
    rcases G with h|⟨N,D,h,S⟩;.omega
    .have:=sized_slice d (j:=6) (t:= 35) rfl (by rw [<-h];rfl) Tryz.underlying35;rw [Yp] at this;have u:reachBytes=140737488351232:=by decide
     omega
   have A:s.length<=140737488355326:=by
    rcases I with h|⟨N,D,h,S⟩;.omega
    .have:=sized_slice d (j:=7) (t:= 39) rfl (by rw [<-h];rfl) Tryz.underlying39;rw [dD] at this;have u:reachBytes=140737488351232:=by decide
     omega
   exact⟨⟨k0,k1,k2,k3,C,X,Y,z,L,F,s,E⟩,rfl,O,R,K,ad,Q,aa,B,o,A,P⟩
theorem um{H:Type}{P:Program}{e:TypeId}{n:Nat}:∀(l:List (DataW H)),∀b∈l,n∈b.weights P e->n∈DataW.weightsAll P e l
 |d0::l,b,a,hn=>by
  unfold DataW.weightsAll;rcases aq.1 a with rfl|a;.exact ac _ hn
  .exact af _ (um l b a hn)
theorem un{H:Option Addr}{c cap:Nat}(h:DataW.trod enc Tryz.prog W 0 (λ_=>true) true fuel 22 [.slice H c cap]=some x)(q:(x.1.weights Tryz.prog 22).all (· <=reachBytes)=true):∃o:List yC,o.length=c/\jQ W (λk=>k<W.heap.size) H o/\o.length<=1256584717449:=by
 rcases open_slice Tryz.underlying22 h with⟨r,rfl⟩|⟨a,S,O,m,n,D,Pl,r,_,U,ac,A,rfl,V⟩
 .simp only [ee,Value.slice.injEq,and_true] at r;obtain⟨rfl,rfl,rfl⟩:=r;exact⟨[],rfl,⟨λi e=>by simp at e,λi e=>by simp at e⟩,by simp⟩
 .simp only [ee,Value.slice.injEq,and_true] at r;obtain⟨rfl,rfl,rfl⟩:=r;have Y:c<=m:=by rw [A];simpa using U
  have E:(((List.range c).map D).length+((List.range (m-c)).map λj=>D (c+j)).length)*Tryz.prog.bytesOf 81<=reachBytes/\∀T∈(List.range c).map D,(T.weights Tryz.prog 81).all (· <=reachBytes)=true:=by unfold DataW.weights at q;rw [Tryz.underlying22] at q;simp only [mA,lH,aS,aO] at q;refine⟨q.1,λT M=>aQ.2 (λk R=>?_)⟩;exact aQ.1 q.2.1 k (um _ T M R)
  obtain⟨P,B⟩:=E;rw [Bm,eF,eF,i3,i3] at P;have aa:reachBytes=140737488351232:=by decide
  obtain⟨g,y⟩:=choose_lt (α:=Option yC) (n:=c) (p:=λi Q=>∃f:yC,Q=some f/\W.cells? 0 (a.add (i*8)) 8=some f.cells/\f.Ok W (λk=>k<W.heap.size)) (λi e=>by
   obtain⟨Z,d,w⟩:=V i (by omega);rw [Vh] at d;obtain⟨f,rfl,G⟩:=Bn w (B _ (av.2 ⟨i,mK.2 e,rfl⟩))
   exact⟨some f,f,rfl,d,G⟩)
  let dflt:yC:=⟨0,0,0,0,ByteArray.empty,ByteArray.empty,none,[],0,none,[],0⟩;refine⟨(List.range c).map λi=>(g i).getD dflt,by simp,⟨λi e=>?_,λi e=>?_⟩,by simp;omega⟩
  .have l:i<c:=by simpa using e
   obtain⟨f,z,F,J⟩:=y i l;have t:=(World.cells?_some F).2.2;obtain⟨b,Q,N⟩:=a;have C:=t 0 (by omega)
   have I:N=none:=by obtain⟨ab,_,L,_⟩:=y 0 (by omega);have d:=(World.cells?_some L).2.2 0 (by omega);have w:=World.cell?_spot d;simpa [Addr.add] using w
   subst I
   have s:b<W.heap.size:=by have d:=C;rw [add_add,eO] at d;exact Zq d
   refine⟨b,Q,rfl,s,s,λj v K=>?_⟩
   have u:f.cells[j]? =some v:=by rw [ig,mg,z] at K;exact K
   have X:j<8:=by have:=(aW.1 u).1;simpa [yC.cells] using this
   have d:=t j X;rw [add_add,eO,u] at d;rw [lF];exact d
  .have l:i<c:=by simpa using e
   obtain⟨f,z,F,J⟩:=y i l;rw [ig,mg,z];exact J
end
end law
end Go.Proofs.YtcoengihaobddaaGreatDoor

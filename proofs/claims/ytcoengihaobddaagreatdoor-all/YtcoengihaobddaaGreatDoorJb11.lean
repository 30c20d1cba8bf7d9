/- Part 11 of 36 of a proof: Law7, Law10, Law11, Law12, Law13, Law16, Law18 -/
import Derived.Test.YtcoengihaobddaaGreatDoorJb10
set_option maxHeartbeats 8000000
set_option linter.unusedVariables false
set_option linter.unusedSimpArgs false
set_option maxRecDepth 8000
namespace Go.Proofs.YtcoengihaobddaaGreatDoor
namespace law
open Go.ChangeShapes Go.WideShapes Go.ChangeAt Go.RowKit disk ref book
open keys (zh zd zx zq zp)
variable {M:ze}{w w':World}{base bp t lc ca cb kb:Nat}{ones:List (Nat×(Nat->Prop))}{la a b:Option Addr}{F H:Nat->Prop}{es vs:List xU}{kl:List Int}
theorem J8(M:ze)(A:gy M)(w:World)(X:Nat->Prop)(bo t:Nat)(h:qg)(bd:Nat)(D:Dk)(S aD:Nat->Prop)(af:Nat)(V:qE)(G:Int)(j:yt M w X bo t h bd D S aD af V G)(bB:t<=2199023255552)(bs:Nat)(hbs:h.s=qz bs)
 (d:xg) (Q:Nat->Prop) (ae:d.Ok w Q) (a5:∀k,Q k->¬X k/\k<w.heap.size) (ab:d.kind=5)
 (bp:Nat) (aB:Value) (F H:Nat->Prop) (a b:Option Addr) (ca cb:Nat) (es vs:List xU) (p:xq w bp aB F H a b ca cb es vs) (bu:es.length<=t) (q:∀k,X k->¬F k/\¬H k/\k≠bp):
 Calls Tryz.prog 63 #[.pointer (some ⟨bp,0,none⟩),.pointer (some ⟨bo,0,none⟩),.agg #[.int .i64 d.kind,.int .i64 d.A,.int .i64 d.B,.int .i64 d.C,.string d.S,.string d.P,.slice d.la d.l.length d.lc,.slice d.ka d.ks.length d.kc]] w λe w'=>Ve M w w' X bo t bp aB F H b cb es vs e:=by
 have N:=j.xlt;have k0:za (λ_=>False) w (w.alloc (.cells #[.int .i64 d.kind,.int .i64 d.A,.int .i64 d.B,.int .i64 d.C,.string d.S,.string d.P,.slice d.la d.l.length d.lc,.slice d.ka d.ks.length d.kc] 81)):=za.alloc _ _ _;have ad:xc (w.alloc (.cells #[.int .i64 d.kind,.int .i64 d.A,.int .i64 d.B,.int .i64 d.C,.string d.S,.string d.P,.slice d.la d.l.length d.lc,.slice d.ka d.ks.length d.kc] 81)) w.heap.size d:=⟨ac w _⟩;have am:=ae.kept k0 nF;have o:=j.kept k0 nF;have y:w.heap.size<(w.alloc (.cells #[.int .i64 d.kind,.int .i64 d.A,.int .i64 d.B,.int .i64 d.C,.string d.S,.string d.P,.slice d.la d.l.length d.lc,.slice d.ka d.ks.length d.kc] 81)).heap.size:=by simp
 have P:=o.head.c0;rw [o.hd] at P;unfold qz at P;have aN:=o.head.c1;rw [hbs] at aN;unfold qz at aN;have bz:=ad.c4;have bt:=ad.c0.trans (congrArg (λk=>some (Value.int .i64 k)) ab);have bm:=j.good.few;change Hid _ at ad am o j ae a5 hbs N k0 p q y;clear ab;generalize bv:w.alloc (.cells #[.int .i64 d.kind,.int .i64 d.A,.int .i64 d.B,.int .i64 d.C,.string d.S,.string d.P,.slice d.la d.l.length d.lc,.slice d.ka d.ks.length d.kc] 81)=z at*;go_enter Tryz.func63,Tryz.ntmps63;go_wp2_with fail;obtain⟨bl,bg,aY,a8,aE⟩:=o.disk;refine(qD _ bd S D bl bg aY a8 aE).mono ?_;rintro e R ⟨rfl,r⟩;rw [r];clear r R aE;go_wp2_with fail;go_region_held3 (λw'=>w'.cell? ⟨bo,1,none⟩=some (.pointer (some ⟨bs,0,none⟩))/\w'.cell? ⟨w.heap.size,4,none⟩=some (.string d.S)) (go_keep) ((go_at_call 26;refine(UK M A _ X bo t h bd D S aD af V G (by exact o.kept (za.drew (λ_=>False) z) nF) (by omega) bs hbs d.S ae.out.S).mono ?_;rintro e x ⟨aC,L,bD,n,rfl,ax,W,O,aM,aH,aI,aO,aL,ai⟩;have m:Hid (yR M z.drew x bd bs S L D aC):=ax;have B:Hid _:=(⟨aI,aO,aL,ai⟩:X bs/\¬S bs/\¬aD bs/\bs≠bo);change Hid _ at W O aM aH;clear ax aI aO aL ai;have E:Hid _:=gz o N ad am a5 y m B.out;have ag:=E.head.c1;rw [hbs.out] at ag;unfold qz at ag;have bf:=E.box.c4));have P:=E.head.c0;rw [j.hd] at P;unfold qz at P;have aF:=E.head.c2;rw [j.his] at aF;unfold qz at aF;have a9:∀k,L k->k<w.heap.size\/z.heap.size<=k:=λk f=>(m.foot k f).imp (λh=>N k (o.sX k h)) (λh=>h);have aq:∀k,L k->k<x.heap.size:=λk f=>m.disk.lt k f;have bc:z.heap.size<=x.heap.size:=m.kept.size;change Hid _ at a9 aq;generalize ay:ys h.shut (yD (zp d.S.data.toList) (qd V.vs d.S))=c at*;change Hid _ at ay;go_wp2_with fail;obtain⟨a1,aX,aW,aT,ap⟩:=E.disk;refine(qD _ bd L aC a1 aX aW aT ap).mono ?_;rintro e R ⟨rfl,r⟩;rw [r];clear r R ap;go_wp2_with fail;go_region_held3 (λw'=>w'.cell? ⟨bo,2,none⟩=some (.pointer (some ⟨af,0,none⟩))/\w'.cell? ⟨w.heap.size,4,none⟩=some (.string d.S)) (go_keep) ((go_at_call 103;refine(UG _ aD aD af V.vs G (by exact(E.kept (za.drew (λ_=>False) x) fE).ref) (by omega) d.S ae.out.S).mono ?_;rintro e R ⟨⟨bC,bn,rfl,aK,aG⟩,ba,rfl⟩;have aZ:Hid (xV _ _ _ _ _):=aK;change Hid _ at aG;clear aK));have I:za (λ_=>False) x (x.drewN (1+ba)):=kD;have a0:Hid _:=E.kept I fE;have K:za (λk=>S k\/k=bs) w x:=((k0.mono fE).trans (za.drew _ z) iL).trans m.kept iL
 have Y:xq (x.drewN (1+ba)) bp aB F H a b ca cb es vs:=(p.kept K (λi ah g=>by
  rcases g with g|g;.exact(q i (j.sX i g)).1 ah
  .exact(q i (by rw [g];exact B.1)).1 ah) (λi ah g=>by
  rcases g with g|g;.exact(q i (j.sX i g)).2.1 ah
  .exact(q i (by rw [g];exact B.1)).2.1 ah) (λg=>by
  rcases g with g|g;.exact(q bp (j.sX bp g)).2.2 rfl
  .exact(q bs B.1).2.2 g.symm)).kept I nF nF (λav=>av)
 have C:∀k,(X k\/L k)->¬F k/\¬H k/\k≠bp:=λk f=>by
  rcases f with f|f;.exact q k f
  .rcases m.foot k f with l|l;.exact q k (j.sX k l)
   .have h2:z.heap.size<=k:=l;have aA:=y.out;exact⟨λg=>by have:=p.flt k g;omega,λg=>by have:=p.hlt k g;omega,λg=>by have:=p.head.lt;omega⟩
 have aj:∀k,(X k\/L k)->X k\/w.heap.size<=k:=λk f=>by
  rcases f with f|f;.exact .inl f
  .rcases m.foot k f with l|l;.exact .inl (j.sX k l)
   .have h2:z.heap.size<=k:=l;have aA:=y.out;exact .inr (by omega)
 have bh:=m.reads0;have bq:=m.reads1;change Hid _ at I K Y C aj;go_wp2_with fail;refine(kV _ bo h (by exact a0.head) _).mono ?_;rintro e R ⟨rfl,r⟩;rw [r,ay.out];clear r R;have ar:za (λ_=>False) w z.drew:=k0.trans (za.drew _ z) iL;change Hid _ at ar;by_cases g:c=0
 .obtain⟨u,Z,v,az,aS,ak,U⟩:=O.yes g;have al:=ua (ay.trans g);obtain⟨u',a7,aU,au,bb,aR⟩:=aZ.1 al;have bj:u'=u:=by rw [az] at au;cases au;rfl
  subst bj;have an:=aH.out u' g az;have aV:=aG.out al u' az;have bk:(n==bn)=true:=by rw [an,aV];simp
  have br:u'.body.length<=300:=j.good.body u' (kQ az).2.1;have aP:Hid (x.ownsRow 0 5 1 (.slice Z u'.body.length v) u'.body.length (u'.body.map qy)):=ak;have a2:Hid (zO _ aD a7 u'.body):=aR;have bw:(c !=0)=false:=by simpa using g
  subst aS bb;change Hid _ at U;clear az ak al au aR an aV g;go_wp2_with fail;refine(vV _ (λk=>z.heap.size<=k) aD Z a7 v aU u'.body (by exact(zO.of_own 5 aP rfl _ (λk f=>(U k f).1)).kept I nF) (by exact zO.kept a2 (T:=λ_=>False) kD nF) (by omega)).mono ?_;rintro e R ⟨rfl,bA,r⟩;rw [r];clear r R;go_wp2_with fail
  have s:∀k,(Value.slice Z u'.body.length v).ownBlock=some k->w.heap.size<k/\¬L k:=λk f=>by have l:=U.out k f;have h2:z.heap.size<=k:=l.1;have aA:=y.out;exact⟨by omega,l.2⟩
  change Hid _ at s
  refine(cH _ bp aB F H (λk=>(Value.slice Z u'.body.length v).ownBlock=some k) a b ca cb es vs (by exact Y.kept (T:=λ_=>False) kD nF nF (λav=>av)) (by omega) Z u'.body.length v (u'.body.map qy) (by exact za.owns (S:=λ_=>False) kD aP nF) (by omega) (λk f=>f) (λk f=>by
   have l:=(s k f).1
   exact⟨λg=>by have:=p.flt k g;omega,λg=>by have:=p.hlt k g;omega,λg=>by have:=p.head.lt;omega⟩)).mono ?_
  rintro e a6 ⟨rfl,⟨be,a4,a3,bi,ao,bx,aw⟩,J⟩;have aQ:Hid (za (λk=>F k\/(Value.slice Z u'.body.length v).ownBlock=some k\/k=bp) x a6):=⟨J.os,J.tape,J.output,J.size,J.block⟩;change Hid _ at ao aw;clear J;go_wp2;go_ret;have aa:=N.out;refine⟨zd (aJ (by omega)),⟨_,bi,be,a4,a3,jV M w z.drew x a6 X bo t h bd D aC S L aD af V G j bs hbs ar (lh y) m B W _ aQ (λk f=>?_),ao,by omega,aj,λk f=>?_,λk f=>⟨λav=>?_,(C k f).2.1,(C k f).2.2⟩⟩,(K.mono (λk f=>.inl (f.elim (j.sX k) (λe=>by rw [e];exact B.1)))).trans aQ (λk f=>?_)⟩
  .rcases f with f|f|f;.exact⟨λg=>(q k g).1 f,λg=>(C k (.inr g)).1 f⟩
   .have l:=s.out k f;exact⟨λg=>by have:=aa k g;omega,l.2⟩
   .exact⟨λg=>(q k g).2.2 f,λg=>(C k (.inr g)).2.2 f⟩
  .rcases aw k f with l|l|l;.exact .inl l
   .have:=(s k l).1;exact .inr (by omega)
   .have h2:x.heap.size<=k:=l;have aA:=y.out;exact .inr (by omega)
  .rcases aw k av with l|l|l;.exact(C k f).1 l
   .have h2:=s.out k l;rcases f with f|f;.have:=aa k f;omega
    .exact h2.2 f
   .have h2:x.heap.size<=k:=l;have aA:=y.out;rcases f with f|f;.have:=aa k f;omega
    .have:=aq.out k f;omega
  .rcases f with f|f|f;.exact .inl (.inr (.inl f))
   .have:=(s k f).1;exact .inr (by omega)
   .exact .inl (.inr (.inr f))
 .obtain⟨Z,v,aS⟩:=O.no g;have an:=aM.out g;have aV:(c !=0)=true:=by simpa using g
  subst aS;have bk:(n==0)=true:=by simpa using an
  clear g an;go_wp2;go_ret
  exact⟨rfl,⟨_,F,a,ca,es,jV M w z.drew x _ X bo t h bd D aC S L aD af V G j bs hbs ar (lh y) m B W (λ_=>False) I fE,Y,by omega,aj,λk f=>.inl f,C⟩,
   (K.mono (λk f=>.inl (f.elim (j.sX k) (λe=>by rw [e];exact B.1)))).trans I fE⟩
theorem qt.kept0(p:qt M w base bp t ones la lc F H a b ca cb es vs)(k:za (λ_=>False) w w'):qt M w' base bp t ones la lc F H a b ca cb es vs:=
 ⟨k.owns p.row nF,p.book.kept k nF nF (λd=>d),λi c=>(p.one i c).kept k nF,p.apart,p.sep,p.rsep,p.rowF,p.bX,p.bF,p.bH,p.bP,p.fewE,p.fewV,p.fewO⟩
theorem qt.rowCell{g:Nat}(p:qt M w base bp t ones (some ⟨g,0,none⟩) lc F H a b ca cb es vs)(i:Nat)(c:i<ones.length):w.cell? ⟨g,i,none⟩=some (.pointer (some ⟨ones[i].1,0,none⟩)):=by
 have:=p.row.cells (g:=g) rfl i (qz ones[i].1) (by simp [c]);rw [eO] at this;simpa [qz] using this
theorem qt.rowAt(p:qt M w base bp t ones la lc F H a b ca cb es vs)(i:0<ones.length):∃g,la=some ⟨g,0,none⟩:=by
 rcases p.row.2 with⟨f,h⟩|⟨g,c,e,d,_⟩;.omega
 .cases d;exact⟨g,rfl⟩
theorem Tryz.infoOp:(Tryz.prog.info? 81).map (λi=>(i.zero,i.size,i.bytes))=some (some (.agg #[.int .i64 0,.int .i64 0,.int .i64 0,.int .i64 0,.string ByteArray.empty,.string ByteArray.empty,.slice none 0 0,.slice none 0 0]),8,112):=by kernel_rfl
structure kC (w:World) (Q:Nat->Prop) (a:Option Addr) (ods:List xg):Prop where
 each:∀i (hi:i<ods.length),∃b o,a=some ⟨b,o,none⟩/\Q b/\b<w.heap.size/\w.rangeAt b (o+i*8) ods[i].cells
 ok:∀i (hi:i<ods.length),ods[i].Ok w Q
theorem kC.kept{Q T:Nat->Prop}{c:List xg}(h:kC w Q a c)(k:za T w w')(e:∀i,Q i->¬T i):kC w' Q a c:=
 ⟨λi d=>by
  obtain⟨b,n,m,h2,f,g⟩:=h.each i d
  exact⟨b,n,m,h2,ay f k.size,λj v l=>(k.cell (a:=⟨b,n+i*8+j,none⟩) f (e b h2)).trans (g j v l)⟩,λi d=>(h.ok i d).kept k e⟩
def xg.spare(o:xg):xg:=if o.kind=1 then {o with C:=0} else o
theorem xg.Ok.spare{Q:Nat->Prop}{a:xg}(h:a.Ok w Q):a.spare.Ok w Q:=by
 unfold xg.spare;split;.exact⟨h.kind,h.A,h.B,⟨by show (-9223372036854775808:Int)<=0;omega,by show (0:Int)<=9223372036854775807;omega⟩,h.S,h.P,h.l,h.len,h.klen,h.ks⟩
 .exact h
structure uC (w:World) (kb:Nat) (kl:List Int):Prop where
 at_:w.heap[kb]? =some (.cells (kl.map (Value.int .i64)).toArray 3 (0,0))
theorem uC.lt(h:uC w kb kl):kb<w.heap.size:=(lT h.at_)
theorem uC.kept{T:Nat->Prop}(h:uC w kb kl)(k:za T w w')(a:¬T kb):uC w' kb kl:=⟨(k.block kb h.lt a).trans h.at_⟩
theorem uC.cell(h:uC w kb kl)(j:Nat)(a:j<kl.length):w.cell? ⟨kb,j,none⟩=some (.int .i64 kl[j]):=by
 rw [aG w kb j _ _ _ h.at_];simp [a]
structure Gk (w wr:World) (ods:List xg) (k:Nat) (x:Value):Prop where
 kept:za (λ_=>False) w wr
 row:∃a c,x=.slice a k c/\wr.ownsRow 0 81 8 (.slice a k c) k (((ods.take k).map xg.spare).map xg.cells).flatten/\∀g,(Value.slice a k c).ownBlock=some g->w.heap.size<=g
theorem Xi(a:List xg)(k:Nat)(h:k<a.length):(((a.take (k+1)).map xg.spare).map xg.cells).flatten=(((a.take k).map xg.spare).map xg.cells).flatten++a[k].spare.cells:=by
 rw [ao h];simp only [eh,aO,ig,eV,aU,lG,aM]
theorem Gk.pushed{wr f:World}{a:List xg}{k:Nat}{j:Option Addr}{n:Nat}(d:k<a.length)(b:za (λ_=>False) w wr)(c:∀g,(Value.slice j k n).ownBlock=some g->w.heap.size<=g)(l i:Obj)(g o:Nat)
 (m:f.ownsRow 0 81 8 (.slice (some ⟨g,0,none⟩) (k+1) o) (k+1) ((((a.take k).map xg.spare).map xg.cells).flatten++a[k].spare.cells)) (h:((wr.alloc l).alloc i).grownBy f (Value.slice j k n).ownBlock) (q:(Value.slice j k n).ownBlock=some g\/g=((wr.alloc l).alloc i).heap.size):
 Gk w f a (k+1) (.slice (some ⟨g,0,none⟩) (k+1) o):=by
 have k2:za (λk=>w.heap.size<=k) wr f:=((za.alloc _ wr l).trans (za.alloc _ _ i) iL).trans (za.grown (S:=λk=>w.heap.size<=k) h (λk d=>c k d)) iL;refine⟨b.trans k2 (λk d=>.inr d),_,o,rfl,by rw [Xi a k d];exact m,λr p=>?_⟩;simp [Value.ownBlock] at p;subst p;rcases q with e|e;.exact c _ e
 .have:=b.size;simp at e;omega
theorem qt.whole(p:qt M w base bp t ones la lc F H a b ca cb es vs)(e:xq w' bp (.slice la ones.length lc) F H a b ca cb es vs)(k:za F w w'):qt M w' base bp t ones la lc F H a b ca cb es vs:=
 ⟨k.owns p.row (λi c d=>(p.rowF i c).1 d),e,λi c=>(p.one i c).kept k (λj f d=>(p.sep i c j f).1 d),p.apart,p.sep,p.rsep,p.rowF,p.bX,p.bF,p.bH,p.bP,p.fewE,p.fewV,p.fewO⟩
theorem Xj(M:ze)(w:World):ja M (w.alloc (.cells #[.slice none 0 0,.slice none 0 0,.slice none 0 0] 79)) w.heap.size w.heap.size 0:=by
 refine⟨[],none,0,λ_=>False,λ_=>False,none,none,0,0,[],[],aV _ _ _ _,⟨⟨ac w _⟩,⟨aV _ _ _ _,λi a=>by simp at a,λi a=>by simp at a,λi j a=>by simp at a,λi a=>by simp at a,λi a=>by simp at a,λk c=>by cases c⟩,⟨aV _ _ _ _,λi a=>by simp at a,λi a=>by simp at a,λk c=>(by cases c),λi a=>by simp at a⟩,λb=>b,λb=>b,λ_ b=>b.elim,by simp,by simp,λ_ b=>b.elim,λ_ b=>b.elim⟩,λi a=>by simp at a,λi j a=>by simp at a,λi a=>by simp at a,λi a=>by simp at a,λk c=>(by cases c),λi a=>by simp at a,λ_ b=>b.elim,λ_ b=>b.elim,aF _,aF _,aF _,aF _⟩
def Da(M:ze)(kl:List Int):Prop:=∀(w:World) (base bp t:Nat) (od:xg),ja M w base bp t->base<=w.heap.size->t<=2199023255552->od.Ok w (λk=>k<base)->od.kind∈kl->(od.kind=1->od.C<=0)->
 Calls Tryz.prog 37 #[.pointer (some ⟨bp,0,none⟩),.agg #[.int .i64 od.kind,.int .i64 od.A,.int .i64 od.B,.int .i64 od.C,.string od.S,.string od.P,.slice od.la od.l.length od.lc,.slice od.ka od.ks.length od.kc]] w λe w'=>e=.returned (.bool true)/\ja M w' base bp (t+1)/\za (λk=>base<=k) w w'
def Gl(kl:List Int)(j:Nat)(k:Int):Bool:=(kl.take j).any λx=>k==x
theorem Vl(kl:List Int)(j:Nat)(h:j<kl.length)(k:Int):Gl kl (j+1) k=(Gl kl j k||(k==kl[j])):=by
 unfold Gl;rw [ao h,List.any_append];simp
theorem UN{k:Int}(h:Gl kl kl.length k=true):k∈kl:=by
 unfold Gl at h;rw [eN,List.any_eq_true] at h;obtain⟨c,b,a⟩:=h;have:k=c:=by simpa using a
 rw [this];exact b
end law
namespace law
open Go.RowKit disk ref book
theorem Vm(c:Int):¬ys true c=0:=by
 show ¬(if c=0\/c=5 then (8:Int) else c)=0;split;.omega
 .omega
structure Vn (w w':World) (S':Nat->Prop) (vs:List zB) (p k:ByteArray) (n m:Int) (x:Value) (more:Bool) (c:Int):Prop where
 yes:c=0->∃L,yw vs p k n L/\gC w w' L m.toNat x more/\∀j,x.ownBlock=some j->¬S' j
 no:c≠0->x=.slice none 0 0/\more=false
theorem Vo(M:ze)(A:xy M)(w:World)(X:Nat->Prop)(bo t:Nat)(h:qg)(bd:Nat)(D:Dk)(S O:Nat->Prop)(I:Nat)(V:qE)(v:Int)(o:yt M w X bo t h bd D S O I V v)(P:t<=4398046511104)(bs:Nat)(hbs:h.s=qz bs)
 (p k:ByteArray) (x:p.size<=maxLen) (d:k.size<=maxLen) (n m:Int) (z:zD n) (E:zD m):
 Calls Tryz.prog 45 #[.pointer (some ⟨bs,0,none⟩),.string p,.string k,.int .i64 n,.int .i64 m] w λe w'=>∃D' S' y a,e=.returned (.tuple #[.agg #[y,.bool a],.int .i64 (ys h.shut (qH p k n m))])/\yR M w w' bd bs S S' D D' 1000/\
  gB M w' bs bd h D D' V/\Vn w w' S' V.vs p k n m y a (ys h.shut (qH p k n m))/\X bs/\¬S bs/\¬O bs/\bs≠bo:=by
 have N:=o.n0t;have K:=o.tt
 cases o.st with
 |live c b s j r u f shut mb live=>
  have e:c=bs:=by rw [b] at hbs;unfold qz at hbs;simpa using hbs
  subst e;refine(A.live w bd c S D V p k n m ⟨o.disk,j,f,live,o.fu,o.reads0,by have:=o.reads1;omega,by omega⟩ x d z E).mono ?_;rintro e w' ⟨D',S',y,a,q,h2,l,J,B,C⟩;rw [shut]
  exact⟨D',S',y,a,q,⟨h2.disk,h2.foot,h2.kept,h2.reads0,h2.reads1,h2.size,h2.fuse⟩,.live shut h2.sto l,⟨λg=>by
   obtain⟨L,G,F⟩:=J g
   exact⟨L,G,F,C⟩,B⟩,s,j,r,u⟩
 |shut c b s j r u f shut torn=>
  have e:c=bs:=by rw [b] at hbs;unfold qz at hbs;simpa using hbs
  subst e;refine(A.shut w c p k n m f x d).mono ?_;rintro e w' ⟨q,h2,l⟩;rw [shut];exact⟨D,S,_,false,q,⟨o.disk.kept l (λi H g=>j (by rw [<-g];exact H)),λk d=>.inl d,l.mono (λk d=>.inr d),by omega,by omega,rfl,o.fu⟩,.shut shut h2 rfl,⟨λg=>absurd g (Vm _),λ_=>⟨rfl,rfl⟩⟩,s,j,r,u⟩
 |gone b torn=>rw [b] at hbs;cases hbs
structure Vp (M:ze) (w w':World) (X:Nat->Prop) (bo t bp:Nat) (lv:Value) (F H:Nat->Prop) (a:Option Addr) (ca:Nat) (es vs:List xU) (e:Ending):Prop where
 ret:e=.returned (.bool true)
 st:∃X' H' b' cb' vs',One M w' X' bo (t+1)/\xq w' bp lv F H' a b' ca cb' es vs'/\vs'.length<=vs.length+1/\(∀k,X' k->X k\/w.heap.size<=k)/\(∀k,H' k->H k\/w.heap.size<=k)/\∀k,X' k->¬F k/\¬H' k/\k≠bp
 kept:za (λk=>X k\/H k\/k=bp) w w'
end law
end Go.Proofs.YtcoengihaobddaaGreatDoor

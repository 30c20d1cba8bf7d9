/- Part 11 of 36 of a proof: Law7, Law10, Law11, Law12, Law13, Law16, Law18 -/
import Derived.Test.YtcoengihaobddaaGreatDoorJc10
set_option maxHeartbeats 8000000
set_option linter.unusedVariables false
set_option linter.unusedSimpArgs false
set_option maxRecDepth 8000
namespace Go.Proofs.YtcoengihaobddaaGreatDoor
namespace law
open Go.ChangeShapes Go.WideShapes Go.ChangeAt Go.RowKit disk ref book
open keys (zh ze zy zs zq)
variable {M:zd}{w w':World}{base bp t lc ca cb kb:Nat}{ones:List (Nat×(Nat->Prop))}{la a b:Option Addr}{F H:Nat->Prop}{es vs:List xZ}{kl:List Int}
theorem J8(M:zd)(A:gz M)(w:World)(X:Nat->Prop)(bo t:Nat)(h:zQ)(bd:Nat)(D:Dk)(S aA:Nat->Prop)(af:Nat)(V:qq)(C:Int)(j:yw M w X bo t h bd D S aA af V C)(bB:t<=2199023255552)(bs:Nat)(hbs:h.s=qu bs)
 (d:xk) (Q:Nat->Prop) (ad:d.Ok w Q) (a4:∀k,Q k->¬X k/\k<w.heap.size) (ab:d.kind=5)
 (bp:Nat) (aD:Value) (F H:Nat->Prop) (a b:Option Addr) (ca cb:Nat) (es vs:List xZ) (p:xx w bp aD F H a b ca cb es vs) (bv:es.length<=t) (q:∀k,X k->¬F k/\¬H k/\k≠bp):
 Calls Tryz.prog 63 #[.pointer (some ⟨bp,0,none⟩),.pointer (some ⟨bo,0,none⟩),.agg #[.int .i64 d.kind,.int .i64 d.A,.int .i64 d.B,.int .i64 d.C,.string d.S,.string d.P,.slice d.la d.l.length d.lc,.slice d.ka d.ks.length d.kc]] w λe w'=>Ve M w w' X bo t bp aD F H b cb es vs e:=by
 have O:=j.xlt;have k0:za (λ_=>False) w (w.alloc (.cells #[.int .i64 d.kind,.int .i64 d.A,.int .i64 d.B,.int .i64 d.C,.string d.S,.string d.P,.slice d.la d.l.length d.lc,.slice d.ka d.ks.length d.kc] 81)):=za.alloc _ _ _;have ae:xg (w.alloc (.cells #[.int .i64 d.kind,.int .i64 d.A,.int .i64 d.B,.int .i64 d.C,.string d.S,.string d.P,.slice d.la d.l.length d.lc,.slice d.ka d.ks.length d.kc] 81)) w.heap.size d:=⟨ac w _⟩;have ah:=ad.kept k0 nF;have o:=j.kept k0 nF;have x:w.heap.size<(w.alloc (.cells #[.int .i64 d.kind,.int .i64 d.A,.int .i64 d.B,.int .i64 d.C,.string d.S,.string d.P,.slice d.la d.l.length d.lc,.slice d.ka d.ks.length d.kc] 81)).heap.size:=by simp
 have P:=o.head.c0;rw [o.hd] at P;unfold qu at P;have aR:=o.head.c1;rw [hbs] at aR;unfold qu at aR;have bw:=ae.c4;have bz:=ae.c0.trans (congrArg (λk=>some (Value.int .i64 k)) ab);have bm:=j.good.few;change Hid _ at ae ah o j ad a4 hbs O k0 p q x;clear ab;generalize bt:w.alloc (.cells #[.int .i64 d.kind,.int .i64 d.A,.int .i64 d.B,.int .i64 d.C,.string d.S,.string d.P,.slice d.la d.l.length d.lc,.slice d.ka d.ks.length d.kc] 81)=z at*;go_enter Tryz.func63,Tryz.ntmps63;go_wp2_with fail;obtain⟨bg,bi,a3,a1,aH⟩:=o.disk;refine(qE _ bd S D bg bi a3 a1 aH).mono ?_;rintro e R ⟨rfl,r⟩;rw [r];clear r R aH;go_wp2_with fail;go_region_held3 (λw'=>w'.cell? ⟨bo,1,none⟩=some (.pointer (some ⟨bs,0,none⟩))/\w'.cell? ⟨w.heap.size,4,none⟩=some (.string d.S)) (go_keep) ((go_at_call 26;refine(UK M A _ X bo t h bd D S aA af V C (by exact o.kept (za.drew (λ_=>False) z) nF) (by omega) bs hbs d.S ad.out.S).mono ?_;rintro e y ⟨aB,N,bD,n,rfl,ag,Y,K,aF,aP,aL,aM,aK,ax⟩;have m:Hid (yV M z.drew y bd bs S N D aB):=ag;have B:Hid _:=(⟨aL,aM,aK,ax⟩:X bs/\¬S bs/\¬aA bs/\bs≠bo);change Hid _ at Y K aF aP;clear ag aL aM aK ax;have E:Hid _:=gA o O ae ah a4 x m B.out;have az:=E.head.c1;rw [hbs.out] at az;unfold qu at az;have bq:=E.box.c4));have P:=E.head.c0;rw [j.hd] at P;unfold qu at P;have aN:=E.head.c2;rw [j.his] at aN;unfold qu at aN;have a0:∀k,N k->k<w.heap.size\/z.heap.size<=k:=λk f=>(m.foot k f).imp (λh=>O k (o.sX k h)) (λh=>h);have aj:∀k,N k->k<y.heap.size:=λk f=>m.disk.lt k f;have bk:z.heap.size<=y.heap.size:=m.kept.size;change Hid _ at a0 aj;generalize aq:yo h.shut (yG (zq d.S.data.toList) (qe V.vs d.S))=c at*;change Hid _ at aq;go_wp2_with fail;obtain⟨a8,bb,aV,aU,ai⟩:=E.disk;refine(qE _ bd N aB a8 bb aV aU ai).mono ?_;rintro e R ⟨rfl,r⟩;rw [r];clear r R ai;go_wp2_with fail;go_region_held3 (λw'=>w'.cell? ⟨bo,2,none⟩=some (.pointer (some ⟨af,0,none⟩))/\w'.cell? ⟨w.heap.size,4,none⟩=some (.string d.S)) (go_keep) ((go_at_call 103;refine(UG _ aA aA af V.vs C (by exact(E.kept (za.drew (λ_=>False) y) fE).ref) (by omega) d.S ad.out.S).mono ?_;rintro e R ⟨⟨bC,bn,rfl,aG,aQ⟩,a5,rfl⟩;have ba:Hid (x8 _ _ _ _ _):=aG;change Hid _ at aQ;clear aG));have J:za (λ_=>False) y (y.drewN (1+a5)):=kD;have a7:Hid _:=E.kept J fE;have L:za (λk=>S k\/k=bs) w y:=((k0.mono fE).trans (za.drew _ z) iL).trans m.kept iL
 have W:xx (y.drewN (1+a5)) bp aD F H a b ca cb es vs:=(p.kept L (λi am g=>by
  rcases g with g|g;.exact(q i (j.sX i g)).1 am
  .exact(q i (by rw [g];exact B.1)).1 am) (λi am g=>by
  rcases g with g|g;.exact(q i (j.sX i g)).2.1 am
  .exact(q i (by rw [g];exact B.1)).2.1 am) (λg=>by
  rcases g with g|g;.exact(q bp (j.sX bp g)).2.2 rfl
  .exact(q bs B.1).2.2 g.symm)).kept J nF nF (λav=>av)
 have G:∀k,(X k\/N k)->¬F k/\¬H k/\k≠bp:=λk f=>by
  rcases f with f|f;.exact q k f
  .rcases m.foot k f with l|l;.exact q k (j.sX k l)
   .have h2:z.heap.size<=k:=l;have aC:=x.out;exact⟨λg=>by have:=p.flt k g;omega,λg=>by have:=p.hlt k g;omega,λg=>by have:=p.head.lt;omega⟩
 have au:∀k,(X k\/N k)->X k\/w.heap.size<=k:=λk f=>by
  rcases f with f|f;.exact .inl f
  .rcases m.foot k f with l|l;.exact .inl (j.sX k l)
   .have h2:z.heap.size<=k:=l;have aC:=x.out;exact .inr (by omega)
 have bh:=m.reads0;have be:=m.reads1;change Hid _ at J L W G au;go_wp2_with fail;refine(kZ _ bo h (by exact a7.head) _).mono ?_;rintro e R ⟨rfl,r⟩;rw [r,aq.out];clear r R;have ap:za (λ_=>False) w z.drew:=k0.trans (za.drew _ z) iL;change Hid _ at ap;by_cases g:c=0
 .obtain⟨u,aa,v,al,aT,ao,Z⟩:=K.yes g;have aw:=ud (aq.trans g);obtain⟨u',a2,aW,ar,aX,aO⟩:=ba.1 aw;have bf:u'=u:=by rw [al] at ar;cases ar;rfl
  subst bf;have an:=aP.out u' g al;have aS:=aQ.out aw u' al;have bl:(n==bn)=true:=by rw [an,aS];simp
  have br:u'.body.length<=300:=j.good.body u' (kT al).2.1;have aE:Hid (y.ownsRow 0 5 1 (.slice aa u'.body.length v) u'.body.length (u'.body.map qA)):=ao;have a9:Hid (zL _ aA a2 u'.body):=aO;have bx:(c !=0)=false:=by simpa using g
  subst aT aX;change Hid _ at Z;clear al ao aw ar aO an aS g;go_wp2_with fail;refine(vY _ (λk=>z.heap.size<=k) aA aa a2 v aW u'.body (by exact(zL.of_own 5 aE rfl _ (λk f=>(Z k f).1)).kept J nF) (by exact zL.kept a9 (T:=λ_=>False) kD nF) (by omega)).mono ?_;rintro e R ⟨rfl,bA,r⟩;rw [r];clear r R;go_wp2_with fail
  have s:∀k,(Value.slice aa u'.body.length v).ownBlock=some k->w.heap.size<k/\¬N k:=λk f=>by have l:=Z.out k f;have h2:z.heap.size<=k:=l.1;have aC:=x.out;exact⟨by omega,l.2⟩
  change Hid _ at s
  refine(cH _ bp aD F H (λk=>(Value.slice aa u'.body.length v).ownBlock=some k) a b ca cb es vs (by exact W.kept (T:=λ_=>False) kD nF nF (λav=>av)) (by omega) aa u'.body.length v (u'.body.map qA) (by exact za.owns (S:=λ_=>False) kD aE nF) (by omega) (λk f=>f) (λk f=>by
   have l:=(s k f).1
   exact⟨λg=>by have:=p.flt k g;omega,λg=>by have:=p.hlt k g;omega,λg=>by have:=p.head.lt;omega⟩)).mono ?_
  rintro e aY ⟨rfl,⟨bc,a6,aZ,bj,ay,bu,ak⟩,I⟩;have aI:Hid (za (λk=>F k\/(Value.slice aa u'.body.length v).ownBlock=some k\/k=bp) y aY):=⟨I.os,I.tape,I.output,I.size,I.block⟩;change Hid _ at ay ak;clear I;go_wp2;go_ret;have U:=O.out;refine⟨ze (aJ (by omega)),⟨_,bj,bc,a6,aZ,jZ M w z.drew y aY X bo t h bd D aB S N aA af V C j bs hbs ap (lh x) m B Y _ aI (λk f=>?_),ay,by omega,au,λk f=>?_,λk f=>⟨λav=>?_,(G k f).2.1,(G k f).2.2⟩⟩,(L.mono (λk f=>.inl (f.elim (j.sX k) (λe=>by rw [e];exact B.1)))).trans aI (λk f=>?_)⟩
  .rcases f with f|f|f;.exact⟨λg=>(q k g).1 f,λg=>(G k (.inr g)).1 f⟩
   .have l:=s.out k f;exact⟨λg=>by have:=U k g;omega,l.2⟩
   .exact⟨λg=>(q k g).2.2 f,λg=>(G k (.inr g)).2.2 f⟩
  .rcases ak k f with l|l|l;.exact .inl l
   .have:=(s k l).1;exact .inr (by omega)
   .have h2:y.heap.size<=k:=l;have aC:=x.out;exact .inr (by omega)
  .rcases ak k av with l|l|l;.exact(G k f).1 l
   .have h2:=s.out k l;rcases f with f|f;.have:=U k f;omega
    .exact h2.2 f
   .have h2:y.heap.size<=k:=l;have aC:=x.out;rcases f with f|f;.have:=U k f;omega
    .have:=aj.out k f;omega
  .rcases f with f|f|f;.exact .inl (.inr (.inl f))
   .have:=(s k f).1;exact .inr (by omega)
   .exact .inl (.inr (.inr f))
 .obtain⟨aa,v,aT⟩:=K.no g;have an:=aF.out g;have aS:(c !=0)=true:=by simpa using g
  subst aT;have bl:(n==0)=true:=by simpa using an
  clear g an;go_wp2;go_ret
  exact⟨rfl,⟨_,F,a,ca,es,jZ M w z.drew y _ X bo t h bd D aB S N aA af V C j bs hbs ap (lh x) m B Y (λ_=>False) J fE,W,by omega,au,λk f=>.inl f,G⟩,
   (L.mono (λk f=>.inl (f.elim (j.sX k) (λe=>by rw [e];exact B.1)))).trans J fE⟩
theorem qv.kept0(p:qv M w base bp t ones la lc F H a b ca cb es vs)(k:za (λ_=>False) w w'):qv M w' base bp t ones la lc F H a b ca cb es vs:=
 ⟨k.owns p.row nF,p.book.kept k nF nF (λc=>c),λi d=>(p.one i d).kept k nF,p.apart,p.sep,p.rsep,p.rowF,p.bX,p.bF,p.bH,p.bP,p.fewE,p.fewV,p.fewO⟩
theorem qv.rowCell{g:Nat}(p:qv M w base bp t ones (some ⟨g,0,none⟩) lc F H a b ca cb es vs)(i:Nat)(c:i<ones.length):w.cell? ⟨g,i,none⟩=some (.pointer (some ⟨ones[i].1,0,none⟩)):=by
 have:=p.row.cells (g:=g) rfl i (qu ones[i].1) (by simp [c]);rw [eO] at this;simpa [qu] using this
theorem qv.rowAt(p:qv M w base bp t ones la lc F H a b ca cb es vs)(i:0<ones.length):∃g,la=some ⟨g,0,none⟩:=by
 rcases p.row.2 with⟨h,f⟩|⟨g,d,e,c,_⟩;.omega
 .cases c;exact⟨g,rfl⟩
theorem Tryz.infoOp:(Tryz.prog.info? 81).map (λi=>(i.zero,i.size,i.bytes))=some (some (.agg #[.int .i64 0,.int .i64 0,.int .i64 0,.int .i64 0,.string ByteArray.empty,.string ByteArray.empty,.slice none 0 0,.slice none 0 0]),8,112):=by kernel_rfl
structure kH (w:World) (Q:Nat->Prop) (a:Option Addr) (ods:List xk):Prop where
 each:∀i (hi:i<ods.length),∃b o,a=some ⟨b,o,none⟩/\Q b/\b<w.heap.size/\w.rangeAt b (o+i*8) ods[i].cells
 ok:∀i (hi:i<ods.length),ods[i].Ok w Q
theorem kH.kept{Q T:Nat->Prop}{c:List xk}(h:kH w Q a c)(k:za T w w')(f:∀i,Q i->¬T i):kH w' Q a c:=
 ⟨λi d=>by
  obtain⟨b,n,m,h2,e,l⟩:=h.each i d
  exact⟨b,n,m,h2,ay e k.size,λj v g=>(k.cell (a:=⟨b,n+i*8+j,none⟩) e (f b h2)).trans (l j v g)⟩,λi d=>(h.ok i d).kept k f⟩
def xk.spare(o:xk):xk:=if o.kind=1 then {o with C:=0} else o
theorem xk.Ok.spare{Q:Nat->Prop}{a:xk}(h:a.Ok w Q):a.spare.Ok w Q:=by
 unfold xk.spare;split;.exact⟨h.kind,h.A,h.B,⟨by show (-9223372036854775808:Int)<=0;omega,by show (0:Int)<=9223372036854775807;omega⟩,h.S,h.P,h.l,h.len,h.klen,h.ks⟩
 .exact h
structure uD (w:World) (kb:Nat) (kl:List Int):Prop where
 at_:w.heap[kb]? =some (.cells (kl.map (Value.int .i64)).toArray 3 (0,0))
theorem uD.lt(h:uD w kb kl):kb<w.heap.size:=(lT h.at_)
theorem uD.kept{T:Nat->Prop}(h:uD w kb kl)(k:za T w w')(a:¬T kb):uD w' kb kl:=⟨(k.block kb h.lt a).trans h.at_⟩
theorem uD.cell(h:uD w kb kl)(j:Nat)(a:j<kl.length):w.cell? ⟨kb,j,none⟩=some (.int .i64 kl[j]):=by
 rw [aG w kb j _ _ _ h.at_];simp [a]
structure Gk (w wr:World) (ods:List xk) (k:Nat) (x:Value):Prop where
 kept:za (λ_=>False) w wr
 row:∃a c,x=.slice a k c/\wr.ownsRow 0 81 8 (.slice a k c) k (((ods.take k).map xk.spare).map xk.cells).flatten/\∀g,(Value.slice a k c).ownBlock=some g->w.heap.size<=g
theorem Xi(a:List xk)(k:Nat)(h:k<a.length):(((a.take (k+1)).map xk.spare).map xk.cells).flatten=(((a.take k).map xk.spare).map xk.cells).flatten++a[k].spare.cells:=by
 rw [ao h];simp only [eh,aO,ig,eV,aU,lG,aM]
theorem Gk.pushed{wr f:World}{a:List xk}{k:Nat}{l:Option Addr}{n:Nat}(c:k<a.length)(b:za (λ_=>False) w wr)(d:∀g,(Value.slice l k n).ownBlock=some g->w.heap.size<=g)(o m:Obj)(g i:Nat)
 (j:f.ownsRow 0 81 8 (.slice (some ⟨g,0,none⟩) (k+1) i) (k+1) ((((a.take k).map xk.spare).map xk.cells).flatten++a[k].spare.cells)) (h:((wr.alloc o).alloc m).grownBy f (Value.slice l k n).ownBlock) (q:(Value.slice l k n).ownBlock=some g\/g=((wr.alloc o).alloc m).heap.size):
 Gk w f a (k+1) (.slice (some ⟨g,0,none⟩) (k+1) i):=by
 have k2:za (λk=>w.heap.size<=k) wr f:=((za.alloc _ wr o).trans (za.alloc _ _ m) iL).trans (za.grown (S:=λk=>w.heap.size<=k) h (λk c=>d k c)) iL;refine⟨b.trans k2 (λk c=>.inr c),_,i,rfl,by rw [Xi a k c];exact j,λr p=>?_⟩;simp [Value.ownBlock] at p;subst p;rcases q with e|e;.exact d _ e
 .have:=b.size;simp at e;omega
theorem qv.whole(p:qv M w base bp t ones la lc F H a b ca cb es vs)(e:xx w' bp (.slice la ones.length lc) F H a b ca cb es vs)(k:za F w w'):qv M w' base bp t ones la lc F H a b ca cb es vs:=
 ⟨k.owns p.row (λi c d=>(p.rowF i c).1 d),e,λi c=>(p.one i c).kept k (λj f d=>(p.sep i c j f).1 d),p.apart,p.sep,p.rsep,p.rowF,p.bX,p.bF,p.bH,p.bP,p.fewE,p.fewV,p.fewO⟩
theorem Xj(M:zd)(w:World):jf M (w.alloc (.cells #[.slice none 0 0,.slice none 0 0,.slice none 0 0] 79)) w.heap.size w.heap.size 0:=by
 refine⟨[],none,0,λ_=>False,λ_=>False,none,none,0,0,[],[],aV _ _ _ _,⟨⟨ac w _⟩,⟨aV _ _ _ _,λi a=>by simp at a,λi a=>by simp at a,λi j a=>by simp at a,λi a=>by simp at a,λi a=>by simp at a,λk c=>by cases c⟩,⟨aV _ _ _ _,λi a=>by simp at a,λi a=>by simp at a,λk c=>(by cases c),λi a=>by simp at a⟩,λb=>b,λb=>b,λ_ b=>b.elim,by simp,by simp,λ_ b=>b.elim,λ_ b=>b.elim⟩,λi a=>by simp at a,λi j a=>by simp at a,λi a=>by simp at a,λi a=>by simp at a,λk c=>(by cases c),λi a=>by simp at a,λ_ b=>b.elim,λ_ b=>b.elim,aF _,aF _,aF _,aF _⟩
def Da(M:zd)(kl:List Int):Prop:=∀(w:World) (base bp t:Nat) (od:xk),jf M w base bp t->base<=w.heap.size->t<=2199023255552->od.Ok w (λk=>k<base)->od.kind∈kl->(od.kind=1->od.C<=0)->
 Calls Tryz.prog 37 #[.pointer (some ⟨bp,0,none⟩),.agg #[.int .i64 od.kind,.int .i64 od.A,.int .i64 od.B,.int .i64 od.C,.string od.S,.string od.P,.slice od.la od.l.length od.lc,.slice od.ka od.ks.length od.kc]] w λe w'=>e=.returned (.bool true)/\jf M w' base bp (t+1)/\za (λk=>base<=k) w w'
def Gl(kl:List Int)(j:Nat)(k:Int):Bool:=(kl.take j).any λx=>k==x
theorem Vl(kl:List Int)(j:Nat)(h:j<kl.length)(k:Int):Gl kl (j+1) k=(Gl kl j k||(k==kl[j])):=by
 unfold Gl;rw [ao h,List.any_append];simp
theorem UN{k:Int}(h:Gl kl kl.length k=true):k∈kl:=by
 unfold Gl at h;rw [eN,List.any_eq_true] at h;obtain⟨c,b,a⟩:=h;have:k=c:=by simpa using a
 rw [this];exact b
end law
namespace law
open Go.RowKit disk ref book
theorem Vm(c:Int):¬yo true c=0:=by
 show ¬(if c=0\/c=5 then (8:Int) else c)=0;split;.omega
 .omega
structure Vn (w w':World) (S':Nat->Prop) (vs:List zB) (p k:ByteArray) (n m:Int) (x:Value) (more:Bool) (c:Int):Prop where
 yes:c=0->∃L,yz vs p k n L/\gB w w' L m.toNat x more/\∀j,x.ownBlock=some j->¬S' j
 no:c≠0->x=.slice none 0 0/\more=false
theorem Vo(M:zd)(A:xD M)(w:World)(X:Nat->Prop)(bo t:Nat)(h:zQ)(bd:Nat)(D:Dk)(S K:Nat->Prop)(E:Nat)(V:qq)(q:Int)(l:yw M w X bo t h bd D S K E V q)(P:t<=4398046511104)(bs:Nat)(hbs:h.s=qu bs)
 (p k:ByteArray) (x:p.size<=maxLen) (d:k.size<=maxLen) (n m:Int) (G:zD n) (H:zD m):
 Calls Tryz.prog 45 #[.pointer (some ⟨bs,0,none⟩),.string p,.string k,.int .i64 n,.int .i64 m] w λe w'=>∃D' S' y a,e=.returned (.tuple #[.agg #[y,.bool a],.int .i64 (yo h.shut (qH p k n m))])/\yV M w w' bd bs S S' D D' 1000/\
  xq M w' bs bd h D D' V/\Vn w w' S' V.vs p k n m y a (yo h.shut (qH p k n m))/\X bs/\¬S bs/\¬K bs/\bs≠bo:=by
 have O:=l.n0t;have N:=l.tt
 cases l.st using qI.elim with
 |live c b r g v u f shut mb live=>
  have e:c=bs:=by rw [b] at hbs;unfold qu at hbs;simpa using hbs
  subst e;refine(A.live w bd c S D V p k n m ⟨l.disk,g,f,live,l.fu,l.reads0,by have:=l.reads1;omega,by omega⟩ x d G H).mono ?_;rintro e w' ⟨D',S',y,a,s,h2,o,z,B,I⟩;rw [shut]
  exact⟨D',S',y,a,s,⟨h2.disk,h2.foot,h2.kept,h2.reads0,h2.reads1,h2.size,h2.fuse⟩,.live shut h2.sto o,⟨λj=>by
   obtain⟨L,C,J⟩:=z j
   exact⟨L,C,J,I⟩,B⟩,r,g,v,u⟩
 |shut c b r g v u f shut torn=>
  have e:c=bs:=by rw [b] at hbs;unfold qu at hbs;simpa using hbs
  subst e;refine(A.shut w c p k n m f x d).mono ?_;rintro e w' ⟨s,h2,o⟩;rw [shut];exact⟨D,S,_,false,s,⟨l.disk.kept o (λi F j=>g (by rw [<-j];exact F)),λk d=>.inl d,o.mono (λk d=>.inr d),by omega,by omega,rfl,l.fu⟩,.shut shut h2 rfl,⟨λj=>absurd j (Vm _),λ_=>⟨rfl,rfl⟩⟩,r,g,v,u⟩
 |gone b torn=>rw [b] at hbs;cases hbs
structure Vp (M:zd) (w w':World) (X:Nat->Prop) (bo t bp:Nat) (lv:Value) (F H:Nat->Prop) (a:Option Addr) (ca:Nat) (es vs:List xZ) (e:Ending):Prop where
 ret:e=.returned (.bool true)
 st:∃X' H' b' cb' vs',One M w' X' bo (t+1)/\xx w' bp lv F H' a b' ca cb' es vs'/\vs'.length<=vs.length+1/\(∀k,X' k->X k\/w.heap.size<=k)/\(∀k,H' k->H k\/w.heap.size<=k)/\∀k,X' k->¬F k/\¬H' k/\k≠bp
 kept:za (λk=>X k\/H k\/k=bp) w w'
end law
end Go.Proofs.YtcoengihaobddaaGreatDoor

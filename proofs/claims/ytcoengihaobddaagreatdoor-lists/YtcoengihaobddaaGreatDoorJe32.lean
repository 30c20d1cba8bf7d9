/- Part 32 of 50 of a proof: Lst1, Lst2, Lst3 -/
import Derived.Test.YtcoengihaobddaaGreatDoorJe14
set_option maxHeartbeats 8000000
set_option linter.unusedVariables false
set_option linter.unusedSimpArgs false
set_option maxRecDepth 8000
namespace Go.Proofs.YtcoengihaobddaaGreatDoor
namespace prog
open ref
def dJ(p k:ByteArray):Bool:=p.data.toList.isPrefixOf k.data.toList
theorem ZC:∀(p a b:List UInt8),qN a p=false->qN b a=false->p.isPrefixOf b=true->p.isPrefixOf a=true
 |[],_,_,_,_,_=>rfl
 |_::_,_,[],_,_,h=>by simp at h
 |_::_,[],_::_,h,_,_=>by simp [qN] at h
 |x::p,z::a,y::b,h1,h2,c=>by
  simp only [List.isPrefixOf_cons_cons,aS,mP] at c ⊢;obtain⟨rfl,c⟩:=c;unfold qN at h1 h2;by_cases e:z=x
  .subst e;rw [aB rfl] at h1 h2;exact⟨rfl,ZC p a b h1 h2 c⟩
  .rw [az e] at h1;rw [az (iK e)] at h2;have d:¬z<x:=iS h1;have f:¬x<z:=iS h2;have g:z.toNat≠x.toNat:=λh=>e (l4.1 h);rw [lQ] at d f;omega
theorem vT:∀(p a:List UInt8),p.isPrefixOf a=true->qN a p=false
 |[],[],_=>rfl
 |[],_::_,_=>rfl
 |_::_,[],h=>by simp at h
 |x::p,y::a,h=>by simp only [List.isPrefixOf_cons_cons,aS,mP] at h;obtain⟨rfl,h⟩:=h;unfold qN;rw [aB rfl];exact vT p a h
theorem UA{a b c:ByteArray}(h:qD a b=true)(k:qD c b=false):qD a c=true:=by
 by_cases e:c=b;.rw [e];exact h
 .exact kM h (xo e k)
theorem Jl{k:ByteArray}(h:k≠ByteArray.empty):qD ByteArray.empty k=true:=by
 cases a:qD ByteArray.empty k with
 |true=>rfl
 |false=>
  have:=xo (iK h) a;have e:∀l:List UInt8,qN l []=false:=λl=>by cases l<;>rfl
  exact absurd this (by show ¬qN k.data.toList []=true;rw [e];simp)
def jR(p k:ByteArray)(n:Int):Pl:=if qD k p=true then ⟨p,9223372036854775807⟩ else ⟨k,n-1⟩
def Jm(p k:ByteArray)(n:Int)(es:List En):List En:=(xn (jR p k n) es).takeWhile λx=>dJ p x.pl.key
theorem xi.run{p:ByteArray}:∀{l:List En},xi l->(∀c∈l,qD c.pl.key p=false)->l.takeWhile (λc=>dJ p c.pl.key)=l.filter λc=>dJ p c.pl.key
 |[],_,_=>rfl
 |a::l,h,hp=>by
  have g:=aR.1 h
  cases d:dJ p a.pl.key with
  |true=>
   have i:=xi.run (p:=p) (l:=l) g.2 (λc e=>hp c (al _ e));simp only [mI,hE,d,if_true,i]
  |false=>
   simp only [mI,hE,d,lI,if_false];symm;rw [iO];intro b j k;have f:=g.1 b j
   have m:qD b.pl.key a.pl.key=false:=by
    cases e:qD b.pl.key a.pl.key with
    |false=>rfl
    |true=>
     have:b.pl.lt a.pl=true:=(Pl.lt_iff _ _).2 (.inl e);exact absurd this (Pl.asymm f)
   have:=ZC p.data.toList a.pl.key.data.toList b.pl.key.data.toList (hp a (am ..)) m k;rw [show p.data.toList.isPrefixOf a.pl.key.data.toList=dJ p a.pl.key from rfl,d] at this;cases this
theorem Yy(b:En)(v:zw)(f:v.key=b.pl.key/\v.num=b.pl.num)(p k:ByteArray)(n:Int)(g:b.pl.key≠ByteArray.empty)(o:b.pl.num<9223372036854775807):qT v p k n=(dJ p b.pl.key&& !b.pl.lt (jR p k n)):=by
 unfold qT;rw [f.1,f.2];show (dJ p b.pl.key&&_)=_
 cases l:dJ p b.pl.key with
 |false=>rfl
 |true=>
  rw [lY,lY];have c:qD b.pl.key p=false:=vT _ _ l;rw [Bool.eq_iff_iff];simp only [lj,aS,aO,ij,iM,ne_eq,Pl.lt_iff];unfold jR;by_cases d:qD k p=true
  .rw [aB d];have j:qD k b.pl.key=true:=UA d c;refine⟨λ_ a=>?_,λ_=>.inl (.inr j)⟩;rcases a with a|⟨_,a⟩;.simp only at a;rw [c] at a;cases a
   .simp only at a;omega
  .rw [az d];simp only;constructor
   .rintro((h|h)|⟨h,m⟩) a
    .subst h;rcases a with a|⟨a,_⟩
     .have:=Jl g;rw [dN this] at a;cases a
     .exact g a
    .rcases a with a|⟨a,_⟩;.rw [dN h] at a;cases a
     .rw [a,y5] at h;cases h
    .rcases a with a|⟨_,a⟩;.rw [h,y5] at a;cases a
     .omega
   .intro a;by_cases e:b.pl.key=k
    .refine .inr ⟨e,?_⟩;have:¬(n-1<b.pl.num):=λh=>a (.inr ⟨e,h⟩);omega
    .refine .inl (.inr (xo e ?_))
     cases i:qD b.pl.key k with
     |false=>rfl
     |true=>exact absurd (.inl i) a
theorem bj{b:List En}(h:xi b)(f:En->zw)(l:∀a,(f a).key=a.pl.key/\(f a).num=a.pl.num)(p k:ByteArray)(n:Int)(i:∀a∈b,a.pl.key≠ByteArray.empty/\a.pl.num<9223372036854775807):Jm p k n b=b.filter λa=>qT (f a) p k n:=by
 have q:xi (xn (jR p k n) b):=lq _ h;unfold Jm;rw [q.run]
 .unfold xn;rw [mN];refine mq (λa c=>?_);rw [Yy a (f a) (l a) p k n (i a c).1 (i a c).2]
 .intro a c;have m:=(eA.1 c).2;have o:¬a.pl.lt (jR p k n)=true:=by simpa using m
  cases g:qD a.pl.key p with
  |false=>rfl
  |true=>
   refine absurd ?_ o;rw [Pl.lt_iff];unfold jR;by_cases d:qD k p=true;.rw [aB d];exact .inl g
   .rw [az d];simp only;by_cases e:p=k;.rw [<-e];exact .inl g
    .refine .inl (kM g (xo (iK e) ?_))
     cases j:qD k p with
     |false=>rfl
     |true=>exact absurd j d
theorem Jn{d:List En}(h:xi d)(f:En->zw)(c:∀e,(f e).key=e.pl.key/\(f e).num=e.pl.num)(vs:List zw)(l:vs.Perm (d.map f))(p k:ByteArray)(n:Int)(j:∀e∈d,e.pl.key≠ByteArray.empty/\e.pl.num<9223372036854775807):qB vs p k n ((Jm p k n d).map f) where
 sorted:=by rw [bj h f c p k n j,List.pairwise_map];refine(lq _ h).imp (λ{a b} i=>?_);rw [zw.ahead_iff,(c a).1,(c b).1,(c a).2,(c b).2];exact(Pl.lt_iff _ _).1 i
 perm:=by rw [bj h f c p k n j];have g:=l.filter (λv=>qT v p k n);rw [List.filter_map] at g;exact g.symm
end prog
namespace prog
open Go.ChangeShapes Go.WideShapes Go.ChangeAt Go.RowKit disk ref
open keys (zg zd zq zl)
attribute [local go_sem] Oper.semAt_some
variable {f:En->Bool}{pre:List En}
theorem ZD(w:World)(a b:ByteArray)(d:a.size<=9223372036854775807)(c:b.size<=9223372036854775807):
 Calls Tryz.prog 159 #[.string a,.string b] w λe w'=>e=.returned (.bool (dJ b a))/\w'=w:=by
 by_cases h:b.size<=a.size
 .go_enter Tryz.func159,Tryz.ntmps159;go_wp2;go_ret;exact⟨zd (dq a b h),rfl⟩
 .go_enter Tryz.func159,Tryz.ntmps159;go_wp2;go_ret;exact⟨zd (ud a b (by omega)).symm,rfl⟩
theorem Z7(w:World)(a b:ByteArray)(f:a.size<=9223372036854775807)(g:b.size<=9223372036854775807):
 Calls Tryz.prog 115 #[.string a,.string b] w λe w'=>e=.returned (.bool (dJ b a))/\w'=w:=by
 go_enter Tryz.func115,Tryz.ntmps115;go_wp2_with (go_at_call 159;refine(ZD w a b f g).mono ?_;rintro e d ⟨rfl,c⟩;rw [c];clear c d);go_ret;exact⟨rfl,rfl⟩
def veV(x:En):List Value:=[.string x.pl.key,.int .i64 x.pl.num,.bool x.mark,.int .i64 (x.size:Int)]
def ur(l:List En):List Value:=(l.map veV).flatten
theorem Kx(l:List En)(a:En):ur (l++[a])=ur l++veV a:=by simp [ur]
theorem Tryz.infoVersion:(Tryz.prog.info? 94).map (λi=>(i.zero,i.size,i.bytes))=some (some (.agg #[.string ⟨#[]⟩,.int .i64 0,.bool false,.int .i64 0]),4,40):=by kernel_rfl
structure UB (B b9:Nat) (m:Nat) (more:Bool) (L:List En) (A:World) (v:Value):Prop where
 at_:A.heap[b9]? =some (.cells #[v,.bool more] 90 (0,0))
 own:A.ownsRow 0 94 4 v L.length (ur L)
 form:∃a c,v=.slice a L.length c
 ge:∀k,v.ownBlock=some k->B<=k
structure Wp (w1:World) (bd:Nat) (S:Nat->Prop) (D:Dk) (b9:Nat) (f:En->Bool) (most:Nat) (r:Int) (pre:List En) (Q:Nat->Prop) (A:World):Prop where
 pg:∃v,UB (w1.heap.size+2) b9 most false pre A v/\∀k,Q k↔v.ownBlock=some k
 all:∀x∈pre,f x=true
 len:pre.length<=most
 disk:ze A bd S {D with reads:=r}
 kept:Kept (λk=>k=bd\/k=b9\/w1.heap.size<=k) w1 A
 rd:D.reads+1<=r
structure WI (w1:World) (bd:Nat) (S:Nat->Prop) (D:Dk) (b9:Nat) (L:List En) (most:Nat) (c:Code) (r:Int) (A:World):Prop where
 c:c=.exit 0
 pg:∃v,UB (w1.heap.size+2) b9 most (decide (most<L.length)) (L.take most) A v
 disk:ze A bd S {D with reads:=r}
 kept:Kept (λk=>k=bd\/k=b9\/w1.heap.size<=k) w1 A
 rd:D.reads+1<=r/\r<=D.reads+1000
theorem UB.kept{B b m:Nat}{a:Bool}{l:List En}{A d:World}{v:Value}{g:Nat->Prop}(h:UB B b m a l A v)(c:Kept g A d)(e:¬g b)(i:∀k,B<=k->¬g k):UB B b m a l d v:=
 ⟨(c.block _ (lT h.at_) e).trans h.at_,c.owns h.own (λj f=>i j (h.ge j f)),h.form,h.ge⟩
theorem Wp.by{a:World}{bd:Nat}{S:Nat->Prop}{D:Dk}{c:Nat}{b:Nat}{r d:Int}{Q q:Nat->Prop}{A B:World}(h:Wp a bd S D c f b r pre Q A)(j:Kept q A B)(e:∀k,q k->k=bd\/k=a.heap.size\/k=a.heap.size+1)(l:ze B bd S {D with reads:=d })(n:r<=d)(u:c<a.heap.size/\c≠bd)(s:bd<a.heap.size):Wp a bd S D c f b d pre Q B:=by
 obtain⟨v,p,m⟩:=h.pg;exact⟨⟨v,p.kept j (λg=>by have:=e _ g;omega) (λk t g=>by have:=e _ g;omega),m⟩,h.all,h.len,l,h.kept.trans j (λi o=>by have:=e i o;exact .inl (by omega)),lU h.rd n⟩
theorem Vm:∀{l:List En},(∀b∈l,f b=true)->l.takeWhile f=l
 |[],_=>rfl
 |a::l,h=>by have c:=Vm (l:=l) (λb d=>h b (al _ d));simp only [mI,h a (am ..),if_true,c]
theorem Dt{l:List En}{c:En}(h:(pre++[c])<+:l)(a:∀d∈pre,f d=true)(b:f c=false):l.takeWhile f=pre:=by
 obtain⟨z,rfl⟩:=h;rw [an,List.takeWhile_append_of_pos a];simp [b]
theorem Du{l:List En}{a:En}(h:(pre++[a])<+:l)(b:∀d∈pre,f d=true)(c:f a=true):pre.length<(l.takeWhile f).length/\(l.takeWhile f).take pre.length=pre:=by
 obtain⟨z,rfl⟩:=h
 have:((pre++[a])++z).takeWhile f=pre++a::z.takeWhile f:=by rw [an,List.takeWhile_append_of_pos b];simp [c]
 rw [this];simp
theorem Dv(w:World)(bs bd:Nat)(S:Nat->Prop)(D:Dk)(k:Int)(bb:zt w bs k (some bd))(X:ze w bd S D)(ce:¬S bs)(bL:0<=D.reads)(ck:D.reads<=4611686018427360000)(R n:Nat)(a3:yi (D.look 1) R n)(x:ByteArray)(bq:x.size<=9223372036854775807)(p:Pl)(b:Nat)(bV:b<=1000)(aB:List En)(aE:List Nat)(hF:yo (λj=>D.look (j:Nat)) R aB aE)(bA:aE.length<=979)(hbs:∀j∈aE,21<=j)(a1:∀y∈aB,y.pl.key.size<=9223372036854775807)(G:List En)(bH:(xn p aB).takeWhile (λy=>dJ x y.pl.key)=G):
 Calls Tryz.prog 67 #[.pointer (some ⟨bs,0,none⟩),.string x,.agg #[.string p.key,.int .i64 p.num],.int .i64 (b:Int)] w λe w'=>(∃a c,e=.returned (.agg #[.slice a (G.take b).length c,.bool (decide (b<G.length))])/\w'.ownsRow 0 94 4 (.slice a (G.take b).length c) (G.take b).length (ur (G.take b))/\∀j,(Value.slice a (G.take b).length c).ownBlock=some j->w.heap.size<=j)/\(∃r:Int,D.reads<=r/\r<=D.reads+1000/\ze w' bd S {D with reads:=r })/\Kept (λi=>i=bd) w w':=by
 have bZ:Hid _:=bb;have b1:Hid (ze w bd S D):=X;have ca:Hid _:=a3;have bX:Hid _:=hF;have bU:Hid _:=hbs;have bm:Hid _:=a1;have be:Hid _:=bH;have hbs:=bb.lt;have cl:=X.lt bd X.bdS;have ad:Hid _:=X.lt;clear bb X a3 hF hbs a1 bH;obtain⟨az,a0,aR,a2,aW⟩:=info_parts Tryz.infoVersion;have Y:Hid (Tryz.prog.info? 94=some az/\az.zero=some (.agg #[.string ⟨#[]⟩,.int .i64 0,.bool false,.int .i64 0])/\az.size=4/\az.bytes=40):=⟨a0,aR,a2,aW⟩;clear a0 aR a2 aW;refine yT Tryz.func67 rfl ?_;simp only [Tryz.ntmps67,aw,ae,ix,Nat.reduceAdd,Nat.reduceSub,iX,iY,lp,i7,aH,a9];go_wp2_with fail;obtain⟨bz,b0,bD,k3,b5⟩:=uS w (.cells #[.string x] 9) (.cells #[.string p.key,.int .i64 p.num] 107) (.cells #[.int .i64 (b:Int)] 3);have bv:Hid _:=bz;have bw:Hid _:=bD;have bO:Hid _:=k3;clear bz b0 bD k3;generalize (((w.alloc (.cells #[.string x] 9)).alloc (.cells #[.string p.key,.int .i64 p.num] 107)).alloc (.cells #[.int .i64 (b:Int)] 3))=C at*;have ar:Hid (Kept (λ_=>False) C ((C.alloc (.cells #[.slice none 0 0,.bool false] 90)).alloc (.cells #[.slice none 0 0,.bool false] 90))):=Kept.alloc2 _ _ _;have br:Hid (((C.alloc (.cells #[.slice none 0 0,.bool false] 90)).alloc (.cells #[.slice none 0 0,.bool false] 90)).heap[C.heap.size]? =some (.cells #[.slice none 0 0,.bool false] 90 (0,0))):=((Kept.alloc (λ_=>False) _ _).block C.heap.size (by simp) id).trans (heap_alloc_new C _);have bn:Hid (((C.alloc (.cells #[.slice none 0 0,.bool false] 90)).alloc (.cells #[.slice none 0 0,.bool false] 90)).heap[C.heap.size+1]? =some (.cells #[.slice none 0 0,.bool false] 90 (0,0))):=heap_alloc2_new C _ _;have cn:((C.alloc (.cells #[.slice none 0 0,.bool false] 90)).alloc (.cells #[.slice none 0 0,.bool false] 90)).heap.size=C.heap.size+2:=by simp
 generalize ((C.alloc (.cells #[.slice none 0 0,.bool false] 90)).alloc (.cells #[.slice none 0 0,.bool false] 90))=cg at*;have ah:Hid (Kept (λ_=>False) w cg):=bO.out.trans ar.out iL;refine(jW cg bs bd S D k (bZ.out.kept ah.out id) (b1.out.kept ah.out nF) ce bL (by omega) R n ca.out p).mono ?_;rintro e s ⟨a7,bg,a4,rfl,av,cj,aX,J⟩;have bN:Hid _:=av;have aU:Hid (ze s bd S {D with reads:=D.reads+1 }):=aX;have bi:Hid _:=J;have bY:=J.size;have bQ:Hid (s.heap[w.heap.size]? =some (.cells #[.string x] 9 (0,0))):=(J.block _ (by omega) (by omega)).trans ((ar.out.block _ (by omega) id).trans bv.out);have bI:Hid (s.heap[w.heap.size+2]? =some (.cells #[.int .i64 (b:Int)] 3 (0,0))):=(J.block _ (by omega) (by omega)).trans ((ar.out.block _ (by omega) id).trans bw.out);have ac:Hid (s.heap[C.heap.size]? =some (.cells #[.slice none 0 0,.bool false] 90 (0,0))):=(J.block _ (by omega) (by omega)).trans br.out;have aY:Hid (s.heap[C.heap.size+1]? =some (.cells #[.slice none 0 0,.bool false] 90 (0,0))):=(J.block _ (by omega) (by omega)).trans bn.out;rw [b5] at ac aY;have bf:Hid _:=(ah.out.mono fE).trans bi.out iL;clear av aX J;go_wp2_with fail;have aN:Hid (∀j,S j->j<s.heap.size):=aU.out.lt
 have ax:Hid (∀(A:World) (r:Int) (z:Bool) (T:List En) (o:Option Addr) (q:Nat) (a:Act),T=G.take b->z=decide (b<G.length)->UB (s.heap.size+2) (w.heap.size+4) b z T A (.slice o T.length q)->ze A bd S {D with reads:=r}->D.reads<=r->r<=D.reads+1000->Kept (λk=>k=bd\/k=w.heap.size+4\/s.heap.size<=k) s A->A.heap[s.heap.size]? =some (.deferred (some []))->a.defers=[{target:=.collected s.heap.size,args:=#[] }]->a.tmps.getD 8 undef=.pointer (some ⟨w.heap.size+3,0,none⟩)->
  Xt Tryz.prog Tryz.f67 (λe w'=>(∃a c,e=.returned (.agg #[.slice a (G.take b).length c,.bool (decide (b<G.length))])/\w'.ownsRow 0 94 4 (.slice a (G.take b).length c) (G.take b).length (ur (G.take b))/\∀j,(Value.slice a (G.take b).length c).ownBlock=some j->w.heap.size<=j)/\(∃r:Int,D.reads<=r/\r<=D.reads+1000/\ze w' bd S {D with reads:=r })/\Kept (λi=>i=bd) w w') .ret a ((A.setCell ⟨w.heap.size+3,0,none⟩ (.slice o T.length q)).setCell ⟨w.heap.size+3,1,none⟩ (.bool z))):=by
  rintro A r z T o q a rfl rfl aI X b8 H d L b6 b3;have t:A.heap[w.heap.size+3]? =_:=(d.block _ (by omega) (by omega)).trans ac.out;have bj:=heap_setCell_same A (w.heap.size+3) 0 _ _ (.slice o (G.take b).length q) t;have bG:=heap_setCell_same _ (w.heap.size+3) 1 _ _ (.bool (decide (b<G.length))) bj;have E:Kept (λj=>j=w.heap.size+3) A ((A.setCell ⟨w.heap.size+3,0,none⟩ (.slice o (G.take b).length q)).setCell ⟨w.heap.size+3,1,none⟩ (.bool (decide (b<G.length)))):=(Kept.setCell (S:=λj=>j=w.heap.size+3) A ⟨w.heap.size+3,0,none⟩ _ rfl).trans (Kept.setCell (S:=λj=>j=w.heap.size+3) _ ⟨w.heap.size+3,1,none⟩ _ rfl) iL;generalize ((A.setCell ⟨w.heap.size+3,0,none⟩ (.slice o (G.take b).length q)).setCell ⟨w.heap.size+3,1,none⟩ (.bool (decide (b<G.length))))=cf at*;have co:=E.size;have bJ:=(lT L);have bC:=(E.block _ bJ (by omega)).trans L;have aC:Kept (λk=>k=s.heap.size) cf (cf.putObj s.heap.size (.deferred none)):=Kept.putObj _ _ _ rfl;have bR:=(aC.block _ (by omega) (by omega)).trans bG;refine j8 b6 bC (results_cell_row Tryz.results67 _ _ (w.heap.size+3) 90 _ (0,0) _ b3 bR Tryz.underlying90 rfl (by kernel_rfl)) ⟨⟨o,q,rfl,aC.owns (E.owns aI.own (λj g ag=>by have:=aI.ge j g;omega)) (λj g ag=>by have:=aI.ge j g;omega),λj g=>by have:=aI.ge j g;omega⟩,⟨r,b8,H,(X.kept E (λj g ag=>by have:=ad.out j g;omega)).kept aC (λj g ag=>by have:=ad.out j g;omega)⟩,?_⟩
  exact((bf.out.trans d (λj g=>by
   rcases g with h|h|h;.exact .inl h
   .exact .inr (by omega)
   .exact .inr (by omega))).trans E (λj g=>.inr (by omega))).trans aC (λj g=>.inr (by omega))
 refine vx (α:=En) (gf:= 190) (lb:=#[.pointer (some ⟨a7,0,none⟩),.pointer (some ⟨bg,0,none⟩),.pointer (some ⟨a4,0,none⟩)]) rfl (enters_of Tryz.func190 (by kernel_rfl) rfl)
  (λcc d ci=>XD cc bd S D a7 bg a4 R p (bN.out.kept d id id id) aB aE bX.out bA bU.out (by omega) (D.reads+1) (by omega) (by omega))
  (λk d=>by rw [d];omega) (λ_=>rfl)
  (Wp s bd S D (w.heap.size+4) (λy=>dJ x y.pl.key) b) (λc r pre A=>WI s bd S D (w.heap.size+4) G b c r A)
  (λr pre Q A h=>⟨h.disk,λk d=>by
   obtain⟨v,H,U⟩:=h.pg;have aA:=(U k).1 d;have cx:=H.ge k aA;have bu:=(H.own.lt k aA).2
   omega⟩)
  (λr cv pre Q A B h cd d f=>h.by d (λk d=>.inl d) f cd (by omega) (by omega))
  (λr pre Q A B h d=>h.by d (λk d=>.inr d) (h.disk.kept d (λj g W=>by have:=aN.out j g;omega)) (eD _) (by omega) (by omega))
  (λc r pre A B h d=>⟨h.c,by
   obtain⟨v,H⟩:=h.pg
   exact⟨v,H.kept d (by omega) (λk a3 W=>by omega)⟩,h.disk.kept d (λj g W=>by have:=aN.out j g;omega),h.kept.trans d (λi f=>.inl (.inr (.inr (by omega)))),h.rd⟩)
  ⟨⟨_,⟨aY.out,aP _ 0 94 4,⟨none,0,rfl⟩,λk d=>by cases d⟩,λk=>by simp [Value.ownBlock]⟩,λ_ h=>(by cases h),ai _,aU.out,Kept.refl _ _,eD _⟩
  (λy bF A=>∃K,s.heap.size+1<K/\A.heap[K]? =some (.cells (qE y).toArray 109 (0,0))/\bF={tmps:=#[.pointer (some ⟨bs,0,none⟩),.string x,.agg #[.string p.key,.int .i64 p.num],.int .i64 (b:Int),undef,.pointer (some ⟨w.heap.size,0,none⟩),.pointer (some ⟨w.heap.size+1,0,none⟩),.pointer (some ⟨w.heap.size+1+1,0,none⟩),.pointer (some ⟨w.heap.size+1+1+1,0,none⟩),.pointer (some ⟨w.heap.size+1+1+1+1,0,none⟩),.pointer (some ⟨K,0,none⟩),.pointer (some ⟨bs,0,none⟩),.agg #[.string p.key,.int .i64 p.num],.func (.func 190) #[] #[.pointer (some ⟨a7,0,none⟩),.pointer (some ⟨bg,0,none⟩),.pointer (some ⟨a4,0,none⟩)],.agg (qE y).toArray,undef,undef,undef,undef,undef,undef,undef,undef,undef,undef,undef,undef,undef,undef,undef,undef,undef,undef,undef,undef,undef,undef,undef,undef,undef,undef,undef,undef,undef],defers:=[] })
  (λy a A B h d=>by
   obtain⟨K,H,U,aA⟩:=h
   exact⟨K,H,(d.block _ (lT U) (by omega)).trans U,aA⟩)
  (λr pre y A B h _=>h) ?assign ?body ?done ?stop
 case assign=>
  intro l r pre y Q A cA f af bp L;dsimp only [qE];gi_wp2;exact L _ _ (Kept.alloc _ _ _) (f.by (Kept.alloc (λ_=>False) _ _) (λ_ h=>h.elim) (f.disk.kept (Kept.alloc (λ_=>False) _ _) nF) (eD _) (by omega) (by omega)) af ⟨A.heap.size,by omega,heap_alloc_new A _,rfl⟩
 case body=>
  rintro l r pre y Q bF A f af ⟨K,cp,aS,rfl⟩ bp;obtain⟨v,u,aF⟩:=f.pg;obtain⟨o,q,rfl⟩:=u.form;have F:Hid _:=f;have M:Hid _:=u;have a5:Hid (∀k,Q k↔(Value.slice o pre.length q).ownBlock=some k):=aF;have aK:Hid _:=aS;have aM:Hid _:=af.pre;have aL:r<=D.reads+1000:=by have:=af.le;omega
  have bS:=bm.out y (eA.1 (af.pre.subset (by simp))).1;have bx:=f.len;have bk:Hid (A.heap[w.heap.size]? =_):=(f.kept.block _ (by omega) (by omega)).trans bQ.out;have bB:Hid (A.heap[w.heap.size+2]? =_):=(f.kept.block _ (by omega) (by omega)).trans bI.out;have cu:A.cell? ⟨K,0,none⟩=some (.string y.pl.key):=cR aK.out rfl;have cz:A.cell? ⟨K,1,none⟩=some (.int .i64 y.pl.num):=cR aK.out rfl;have ct:A.cell? ⟨K,2,none⟩=some (.bool y.mark):=cR aK.out rfl;have cw:A.cell? ⟨K,3,none⟩=some (.int .i64 (y.size:Int)):=cR aK.out rfl;have bt:A.cell? ⟨w.heap.size,0,none⟩=some (.string x):=cR bk.out rfl;have cr:A.cell? ⟨w.heap.size+1+1,0,none⟩=some (.int .i64 (b:Int)):=cR bB.out rfl;have bl:A.cell? ⟨w.heap.size+1+1+1+1,0,none⟩=some (.slice o pre.length q):=cR u.at_ rfl;have bE:A.cell? ⟨w.heap.size+1+1+1+1,1,none⟩=some (.bool false):=cR u.at_ rfl;have cs:=aa A (w.heap.size+1+1+1+1) 1 _ _ u.at_;clear f af u aF aS;gi_wp2_with fail;refine⟨eR,rfl,?_⟩;refine((yK l).calls (Z7 A y.pl.key x bS bq)).mono ?_;rintro e bW ⟨rfl,aV⟩;rw [aV];clear aV bW
  cases O:dJ x y.pl.key with
  |false=>
   have ab:Hid _:=O;clear O;gi_wp2;have N:=Dt aM.out F.out.all ab.out;rw [be.out] at N;refine⟨Kept.refl _ _,rfl,⟨.slice o pre.length q,?_⟩,F.out.disk,F.out.kept,F.out.rd,aL⟩;rw [N,ao bx,decide_eq_false (by omega)];exact M.out
  |true=>
   have ab:Hid _:=O;clear O;by_cases al:pre.length=b
   .have bK:((pre.length:Int)==(b:Int))=true:=by rw [al];simp
    have bT:Hid _:=al;clear al;gi_wp2;have N:=Du aM.out F.out.all ab.out;rw [be.out] at N;have E:=Kept.setCell (S:=λj=>j=w.heap.size+4) A ⟨w.heap.size+4,1,none⟩ (.bool true) rfl;refine⟨E.mono (λj g=>.inl (by omega)),rfl,⟨.slice o pre.length q,?_⟩,F.out.disk.kept E (λj g W=>by have:=ad.out j g;omega),F.out.kept.trans E (λj g=>.inl (.inr (.inl g))),F.out.rd,aL⟩;rw [<-bT.out,N.2,aG N.1];exact⟨heap_setCell_same A (w.heap.size+4) 1 _ _ _ M.out.at_,E.owns M.out.own (λj g ag=>by have:=M.out.ge j g;omega),⟨o,q,rfl⟩,M.out.ge⟩
   .have bK:=beq_false_of_ne (by omega);have am:Hid (Kept (λ_=>False) A (A.alloc (.cells #[.string y.pl.key,.int .i64 y.pl.num,.bool y.mark,.int .i64 (y.size:Int)] 94))):=Kept.alloc _ _ _;have bh:Hid ((A.alloc (.cells #[.string y.pl.key,.int .i64 y.pl.num,.bool y.mark,.int .i64 (y.size:Int)] 94)).heap[A.heap.size]? =some (.cells (veV y).toArray 94 (0,0))):=heap_alloc_new A _;have bo:Hid _:=M.out.own;gi_wp2_with (gi_at_builtin;refine(yK l).append_lies _ rfl _ _ 44 rfl 0 94 az (.agg #[.string ⟨#[]⟩,.int .i64 0,.bool false,.int .i64 0]) 4 40 Tryz.underlying44 Y.out.1 Y.out.2.1 Y.out.2.2.1 Y.out.2.2.2 rfl (by decide) (.slice o pre.length q) pre.length (ur pre) rfl (am.out.owns bo.out nF) ⟨A.heap.size,0,none⟩ 1 1 (veV y) rfl rfl (World.news_of_block bh.out) (by simp [veV,Value.oneCell']) (by decide) (by unfold maxLen;omega) (by omega) (ai _) (A.heap.size+1) (by simp) ?_;intro P an V au Z aT cb;have bM:Hid _:=au;have aQ:Hid _:=aT;have aZ:Hid (Kept (λk=>(Value.slice o pre.length q).ownBlock=some k) (A.alloc (.cells #[.string y.pl.key,.int .i64 y.pl.num,.bool y.mark,.int .i64 (y.size:Int)] 94)) V):=Kept.grown Z (λk d=>d);have ak:Hid (V.heap[w.heap.size+4]? =some (.cells #[.slice o pre.length q,.bool false] 90 (0,0))):=(aZ.out.block _ (by simp;omega) (λW=>by have:=M.out.ge _ W;omega)).trans ((am.out.block _ (by omega) id).trans M.out.at_);have cm:V.cell? ⟨w.heap.size+1+1+1+1,0,none⟩=some (.slice o pre.length q):=(cR ak.out rfl);have cq:V.frozen? ⟨w.heap.size+1+1+1+1,0,none⟩=false:=aa V (w.heap.size+4) 0 _ _ ak.out;clear au Z aT);have bu:=heap_setCell_same V (w.heap.size+4) 0 _ _ (.slice (some ⟨P,0,none⟩) (pre.length+1) an) ak.out;have E:=Kept.setCell (S:=λj=>j=w.heap.size+4) V ⟨w.heap.size+4,0,none⟩ (.slice (some ⟨P,0,none⟩) (pre.length+1) an) rfl;have a6:Kept (λk=>k=w.heap.size+4\/Q k) A (V.setCell ⟨w.heap.size+4,0,none⟩ (.slice (some ⟨P,0,none⟩) (pre.length+1) an)):=(((am.out.mono fE).trans aZ.out (λk d=>.inl (.inr ((a5.out k).2 d)))).trans E (λk d=>.inl (.inl d)))
    have ch:s.heap.size+2<=P:=by
     rcases aQ.out with h|h;.exact M.out.ge P h
     .omega
    have I:(pre++[y]).length=pre.length+1:=by simp
    have aO:∀k,Q k->s.heap.size+2<=k:=λk d=>M.out.ge k ((a5.out k).1 d);refine⟨a6.mono (λk d=>by rcases d with h|h;exact .inl (by omega);exact .inr h),λk=>k=P,⟨⟨.slice (some ⟨P,0,none⟩) (pre.length+1) an,⟨bu,?_,⟨some ⟨P,0,none⟩,an,by rw [I]⟩,λk d=>?_⟩,λk=>?_⟩,λcy ap=>?_,by rw [I];omega,F.out.disk.kept a6 (λj g W=>?_),?_,F.out.rd⟩,λk d=>?_⟩
    .rw [I,Kx];exact E.owns bM.out (λj g ag=>by simp [Value.ownBlock] at g;omega)
    .simp [Value.ownBlock] at d;omega
    .simp [Value.ownBlock];exact eq_comm
    .rcases aj.1 ap with ap|ap;.exact F.out.all cy ap
     .rw [aD.1 ap];exact ab.out
    .have:=ad.out j g;rcases W with h|h;.omega
     .have:=aO j h;omega
    .exact F.out.kept.trans a6 (λk d=>by
      rcases d with h|h;.exact .inl (.inr (.inl h))
      .exact .inl (.inr (.inr (by have:=aO k h;omega))))
    .rw [d];rcases aQ.out with h|h;.exact .inl ((a5.out P).2 h)
     .exact .inr (by omega)
 case done=>
  rintro b7 r ba Q A aJ f rfl L;obtain⟨v,u,aF⟩:=f.pg;obtain⟨o,q,rfl⟩:=u.form;have aq:G=ba:=by rw [<-be.out,<-aJ.1];exact Vm f.all
  have I:=f.len;have bP:=f.rd;have t:A.heap[w.heap.size+3]? =_:=(f.kept.block _ (by omega) (by omega)).trans ac.out;have ay:Hid (∀a:Act,a.defers=[{target:=.collected s.heap.size,args:=#[] }]->a.tmps.getD 8 undef=.pointer (some ⟨w.heap.size+3,0,none⟩)->_):=λa H U=>ax.out A r false ba o q a (by rw [aq,ao I]) (by rw [aq,decide_eq_false (by omega)]) u f.disk (by omega) (by omega) f.kept L H U;have bl:A.cell? ⟨w.heap.size+1+1+1+1,0,none⟩=some (.slice o ba.length q):=cR u.at_ rfl;have bE:A.cell? ⟨w.heap.size+1+1+1+1,1,none⟩=some (.bool false):=cR u.at_ rfl;have b4:A.cell? ⟨w.heap.size+1+1+1,0,none⟩=some (.slice none 0 0):=cR t rfl;have bt:A.cell? ⟨w.heap.size+1+1+1,1,none⟩=some (.bool false):=cR t rfl;have b9:=aa A (w.heap.size+1+1+1) 0 _ _ t;have b2:=aa A (w.heap.size+1+1+1) 1 _ _ t;clear f aJ u aF L t aq;dsimp only;go_wp2;exact ay.out _ rfl rfl
 case stop=>
  rintro b7 c r pre A aJ f rfl L;obtain⟨v,u⟩:=f.pg;obtain⟨T,a8⟩:∃T,T=G.take b:=⟨_,rfl⟩;obtain⟨z,bc⟩:∃m,m=decide (b<G.length):=⟨_,rfl⟩;rw [<-a8,<-bc] at u;obtain⟨o,q,rfl⟩:=u.form;obtain rfl:c=.exit 0:=f.c;have bP:=f.rd;have t:A.heap[w.heap.size+3]? =_:=(f.kept.block _ (by omega) (by omega)).trans ac.out;have ay:Hid (∀a:Act,a.defers=[{target:=.collected s.heap.size,args:=#[] }]->a.tmps.getD 8 undef=.pointer (some ⟨w.heap.size+3,0,none⟩)->_):=λa H U=>ax.out A r z T o q a a8 bc u f.disk (by omega) (by omega) f.kept L H U;have bl:A.cell? ⟨w.heap.size+1+1+1+1,0,none⟩=some (.slice o T.length q):=cR u.at_ rfl;have bE:A.cell? ⟨w.heap.size+1+1+1+1,1,none⟩=some (.bool z):=cR u.at_ rfl;have b4:A.cell? ⟨w.heap.size+1+1+1,0,none⟩=some (.slice none 0 0):=cR t rfl;have bt:A.cell? ⟨w.heap.size+1+1+1,1,none⟩=some (.bool false):=cR t rfl;have b9:=aa A (w.heap.size+1+1+1) 0 _ _ t;have b2:=aa A (w.heap.size+1+1+1) 1 _ _ t;clear f aJ u L t a8 bc;dsimp only;go_wp2;exact ay.out _ rfl rfl
end prog
namespace prog
open Go.ChangeShapes Go.WideShapes Go.ChangeAt Go.RowKit disk ref
open Go.MuLone
open keys (zg zd zq zl zh)
theorem Vn:∀a b:List UInt8,Op.bytesLess a b=qN a b
 |[],[]=>rfl
 |[],_::_=>rfl
 |_::_,[]=>rfl
 |x::a,y::b=>by
  unfold Op.bytesLess qN;have d:=Vn a b;by_cases e:x=y
  .subst e;have f:=UInt8.lt_irrefl x;simp [d,f]
  .have c:=beq_false_of_ne e;simp [c,e]
theorem Jo(a b:ByteArray):Op.bytesLess a.toList b.toList=qD a b:=by
 rw [Vn,eU,eU];rfl
theorem UC(w:World)(p k:ByteArray)(n:Int)(c:0<=n)(b:n<=9223372036854775807):
 Calls Tryz.prog 68 #[.string p,.string k,.int .i64 n] w λe w'=>e=.returned (.agg #[.string (jR p k n).key,.int .i64 (jR p k n).num])/\Kept (λ_=>False) w w':=by
 unfold jR;by_cases h:qD k p=true
 .have a:Op.bytesLess k.toList p.toList=true:=by rw [Jo];exact h
  rw [aB h];go_enter Tryz.func68,Tryz.ntmps68;go_wp2;exact bodyPost_ret (results_cell_row Tryz.results68 _ _ w.heap.size 107 _ (0,0) _ rfl (heap_alloc_new w _) Tryz.underlying107 rfl (by kernel_rfl)) rfl ⟨rfl,Kept.alloc _ _ _⟩
 .have a:Op.bytesLess k.toList p.toList=false:=by rw [Jo];simpa using h
  rw [az h];go_enter Tryz.func68,Tryz.ntmps68;go_wp2;exact bodyPost_ret (results_cell_row Tryz.results68 _ _ w.heap.size 107 _ (0,0) _ rfl (heap_alloc_new w _) Tryz.underlying107 rfl (by kernel_rfl)) rfl ⟨rfl,Kept.alloc _ _ _⟩
def uu(p k:ByteArray)(n m c:Int):Prop:=
 (c=2/\(p.toList==[])=false/\zh p.data.toList=false)\/(c=2/\((p.toList==[])=true\/((p.toList==[])=false/\zh p.data.toList=true))/\(k.toList==[])=false/\zh k.data.toList=false)\/(c=4/\((p.toList==[])=true\/((p.toList==[])=false/\zh p.data.toList=true))/\((k.toList==[])=true\/((k.toList==[])=false/\zh k.data.toList=true))/\(n<0\/(¬n<0/\m<1)\/(¬n<0/\¬m<1/\50<m)))\/c=0/\((p.toList==[])=true\/((p.toList==[])=false/\zh p.data.toList=true))/\((k.toList==[])=true\/((k.toList==[])=false/\zh k.data.toList=true))/\¬n<0/\¬m<1/\¬50<m
theorem uu.zero{p k:ByteArray}{n m:Int}(h:uu p k n m 0):((p.toList==[])=true\/((p.toList==[])=false/\zh p.data.toList=true))/\((k.toList==[])=true\/((k.toList==[])=false/\zh k.data.toList=true))/\¬n<0/\¬m<1/\¬50<m:=by
 rcases h with h|h|h|h;.exact absurd h.1 (by decide)
 .exact absurd h.1 (by decide)
 .exact absurd h.1 (by decide)
 .exact h.2
theorem dK(p k:ByteArray)(n m:Int):uu p k n m (qR p k n m):=by
 have d:(p≠ByteArray.empty)↔(p.toList==[])=false:=by rw [ne_eq,<-gO];simp
 have e:(k≠ByteArray.empty)↔(k.toList==[])=false:=by rw [ne_eq,<-gO];simp
 have c:∀q:ByteArray,((q≠ByteArray.empty)↔(q.toList==[])=false)->¬(q≠ByteArray.empty/\zh q.data.toList=false)->(q.toList==[])=true\/((q.toList==[])=false/\zh q.data.toList=true):=λq g h=>by
  cases i:(q.toList==[]) with
  |true=>exact .inl rfl
  |false=>
   refine .inr ⟨rfl,?_⟩
   cases j:zh q.data.toList with
   |true=>rfl
   |false=>exact absurd ⟨g.2 i,j⟩ h
 unfold qR;by_cases a:p≠ByteArray.empty/\zh p.data.toList=false
 .rw [aB (.inl a)];exact .inl ⟨rfl,d.1 a.1,a.2⟩
 .by_cases b:k≠ByteArray.empty/\zh k.data.toList=false
  .rw [aB (.inr b)];exact .inr (.inl ⟨rfl,c p d a,e.1 b.1,b.2⟩)
  .rw [az (λh=>h.elim a b)];by_cases f:n<0\/m<1\/50<m
   .rw [aB f];exact .inr (.inr (.inl ⟨rfl,c p d a,c k e b,by omega⟩))
   .rw [az f];exact .inr (.inr (.inr ⟨rfl,c p d a,c k e b,by omega,by omega,by omega⟩))
theorem QI(w:World)(bs:Nat)(q:Option Nat)(y:zt w bs 0 q)(p k:ByteArray)(n m:Int)(Z:p.size<=maxLen)(W:k.size<=maxLen)(c o:Int)(Q:uu p k n m c)(B:(c≠0/\o=c)\/(c=0/\q=none/\o=8)):
 Calls Tryz.prog 45 #[.pointer (some ⟨bs,0,none⟩),.string p,.string k,.int .i64 n,.int .i64 m] w λe w'=>e=.returned (.tuple #[.agg #[.slice none 0 0,.bool false],.int .i64 o])/\zt w' bs 0 q/\Kept (λk=>k=bs) w w':=by
 change Hid _ at y;have u:Hid (Kept (λ_=>False) w (w.alloc (.cells #[.slice none 0 0,.bool false] 90))):=Kept.alloc _ _ _;have H:Hid ((w.alloc (.cells #[.slice none 0 0,.bool false] 90)).heap[w.heap.size]? =some (.cells #[.slice none 0 0,.bool false] 90 (0,0))):=heap_alloc_new w _;have hbs:=y.lt;have T:(w.alloc (.cells #[.slice none 0 0,.bool false] 90)).heap.size=w.heap.size+1:=by simp
 have O:Hid (∀K,K=w.alloc (.cells #[.slice none 0 0,.bool false] 90)->Calls Tryz.prog 47 #[.pointer (some ⟨bs,0,none⟩)] K λe a=>e=.returned (.tuple #[])/\zt a bs 1 q/\a.heap[w.heap.size]? =some (.cells #[.slice none 0 0,.bool false] 90 (0,0))/\Kept (λk=>k=bs) w a/\w.heap.size<a.heap.size):=by rintro K rfl;refine(qj (y.kept u id)).mono ?_;rintro e a ⟨rfl,h,d⟩;have Y:=d.size;exact⟨rfl,h,(d.block _ (by omega) (by omega)).trans H,(u.mono fE).trans d iL,by omega⟩
 have x:Hid (∀(a:World),zt a bs 1 q->a.heap[w.heap.size]? =some (.cells #[.slice none 0 0,.bool false] 90 (0,0))->Kept (λk=>k=bs) w a->∀tmps:Array Value,tmps.getD 10 undef=.pointer (some ⟨w.heap.size,0,none⟩)->tmps.getD 11 undef=.int .i64 o->bodyPostD Tryz.prog Tryz.f45 (λe w'=>e=.returned (.tuple #[.agg #[.slice none 0 0,.bool false],.int .i64 o])/\zt w' bs 0 q/\Kept (λk=>k=bs) w w') .ret {tmps:=tmps,defers:=[{target:=.fn (.func 48) #[],args:=#[.pointer (some ⟨bs,0,none⟩)] }]} ((a.setCell ⟨w.heap.size,0,none⟩ (.slice none 0 0)).setCell ⟨w.heap.size,1,none⟩ (.bool false))):=by
  intro a g b i tmps C G;have R:=(lT b);have D:=heap_setCell_same a w.heap.size 0 _ _ (.slice none 0 0) b;have E:=heap_setCell_same _ w.heap.size 1 _ _ (.bool false) D;have z:Kept (λj=>j=w.heap.size) a ((a.setCell ⟨w.heap.size,0,none⟩ (.slice none 0 0)).setCell ⟨w.heap.size,1,none⟩ (.bool false)):=(Kept.setCell (S:=λj=>j=w.heap.size) a ⟨w.heap.size,0,none⟩ _ rfl).trans (Kept.setCell (S:=λj=>j=w.heap.size) _ ⟨w.heap.size,1,none⟩ _ rfl) iL;generalize ((a.setCell ⟨w.heap.size,0,none⟩ (.slice none 0 0)).setCell ⟨w.heap.size,1,none⟩ (.bool false))=ae at*;refine leaves_cons (f:= 48) (args:=#[.pointer (some ⟨bs,0,none⟩)]) (by simp) (by simp [go_sem]) ?_;refine(qh (g.kept z (by omega))).mono ?_;rintro e u' ad ⟨rfl,rfl,A,t⟩;have F:=(t.block _ (by have:=z.size;omega) (by omega)).trans E;refine⟨_,qW rfl _ _ _ _ _ _ _ C F Tryz.underlying90 rfl (by kernel_rfl),?_,A,?_⟩;.rw [G];rfl
  .exact(i.trans z (λj ac=>.inr (by omega))).trans t iL
 rcases Q with⟨rfl,h,d⟩|⟨rfl,r|⟨r,v⟩,h,d⟩|⟨rfl,r|⟨r,v⟩,h|⟨h,I⟩,d|⟨d,J⟩|⟨d,J,M⟩⟩|⟨rfl,r|⟨r,v⟩,h|⟨h,I⟩,d,J,M⟩;all_goals rcases B with⟨l,rfl⟩|⟨l,rfl,rfl⟩
 all_goals first
  |exact absurd rfl l
  |exact absurd l (by decide)
  |(clear l
    go_enter_defers Tryz.func45,Tryz.ntmps45
    go_wp2_with (first
     |(go_at_call 47;refine(O _ rfl).mono ?_;rintro e a ⟨rfl,g,b,i,L⟩;have ab:a.cell? ⟨w.heap.size,0,none⟩=some (.slice none 0 0):=(cR b rfl);have U:a.cell? ⟨w.heap.size,1,none⟩=some (.bool false):=(cR b rfl);have V:=aa a w.heap.size 0 _ _ b;have X:=aa a w.heap.size 1 _ _ b;have N:=g.c2;try simp only [Option.map_none] at N;change Hid _ at g b i)
     |(go_at_call 49;refine(keys.qu _ a (by assumption)).mono ?_;rintro e P ⟨rfl,s⟩;rw [s];clear s P))
    exact x a g b i _ rfl rfl)
theorem UD(w:World)(bs bd:Nat)(S:Nat->Prop)(D:Dk)(ag:zt w bs 0 (some bd))(y:ze w bd S D)(ah:¬S bs)(aw:0<=D.reads)(aT:D.reads<=4611686018427350000)(v ar:Nat)(an:yi (D.look 1) v ar)(p k:ByteArray)(n m:Int)(aO:p.size<=maxLen)(ae:k.size<=maxLen)(aI:n<=9223372036854775807)(ac:uu p k n m 0)(N:List En)(M:List Nat)(hF:yo (λj=>D.look (j:Nat)) v N M)(ak:M.length<=979)(hbs:∀j∈M,21<=j)(W:∀a5∈N,a5.pl.key.size<=9223372036854775807)(K:List En)(au:Jm p k n N=K):
 Calls Tryz.prog 45 #[.pointer (some ⟨bs,0,none⟩),.string p,.string k,.int .i64 n,.int .i64 m] w λe w'=>(∃a c,e=.returned (.tuple #[.agg #[.slice a (K.take m.toNat).length c,.bool (decide (m.toNat<K.length))],.int .i64 0])/\w'.ownsRow 0 94 4 (.slice a (K.take m.toNat).length c) (K.take m.toNat).length (ur (K.take m.toNat))/\∀j,(Value.slice a (K.take m.toNat).length c).ownBlock=some j->w.heap.size<=j)/\zt w' bs 0 (some bd)/\(∃r:Int,D.reads<=r/\r<=D.reads+1000/\ze w' bd S {D with reads:=r })/\Kept (λi=>i=bd\/i=bs) w w':=by
 have aQ:Hid (ze w bd S D):=y;have al:bs≠bd:=λe=>ah (by rw [e];exact y.bdS);have ax:Hid (∀j,S j->j≠bs):=λj l e=>ah (by rw [<-e];exact l);have aU:=y.lt bd y.bdS;have aD:Hid _:=y.lt;have aN:=ag.lt;have am:Hid (0<=n/\1<=m/\m<=50):=by obtain⟨_,_,t,ay,aK⟩:=ac.zero;exact⟨by omega,by omega,by omega⟩
 obtain⟨T,af⟩:∃T,T=K.take m.toNat:=⟨_,rfl⟩;obtain⟨q,Z⟩:∃b,b=decide (m.toNat<K.length):=⟨_,rfl⟩;rw [<-af,<-Z]
 have aF:Hid (∀w',zt w' bs 1 (some bd)->ze w' bd S D->Calls Tryz.prog 67 #[.pointer (some ⟨bs,0,none⟩),.string p,.agg #[.string (jR p k n).key,.int .i64 (jR p k n).num],.int .i64 m] w' λe B=>(∃a c,e=.returned (.agg #[.slice a T.length c,.bool q])/\B.ownsRow 0 94 4 (.slice a T.length c) T.length (ur T)/\∀j,(Value.slice a T.length c).ownBlock=some j->w'.heap.size<=j)/\(∃r:Int,D.reads<=r/\r<=D.reads+1000/\ze B bd S {D with reads:=r })/\Kept (λi=>i=bd) w' B):=λw' u t=>by have ay:=am.out;have:=Dv w' bs bd S D 1 u t ah aw (by omega) v ar an p (by unfold maxLen at aO;omega) (jR p k n) m.toNat (by omega) N M hF ak hbs W K au;rw [show ((m.toNat:Nat):Int)=m from by omega,<-af,<-Z] at this;exact this
 change Hid _ at ag;clear y an hF hbs W au af Z;have X:Hid (Kept (λ_=>False) w (w.alloc (.cells #[.slice none 0 0,.bool false] 90))):=Kept.alloc _ _ _;have av:Hid ((w.alloc (.cells #[.slice none 0 0,.bool false] 90)).heap[w.heap.size]? =some (.cells #[.slice none 0 0,.bool false] 90 (0,0))):=heap_alloc_new w _;have aY:(w.alloc (.cells #[.slice none 0 0,.bool false] 90)).heap.size=w.heap.size+1:=by simp
 have aL:Hid (∀aJ,aJ=w.alloc (.cells #[.slice none 0 0,.bool false] 90)->Calls Tryz.prog 47 #[.pointer (some ⟨bs,0,none⟩)] aJ λe d=>e=.returned (.tuple #[])/\zt d bs 1 (some bd)/\ze d bd S D/\d.heap[w.heap.size]? =some (.cells #[.slice none 0 0,.bool false] 90 (0,0))/\Kept (λk=>k=bs) w d/\w.heap.size<d.heap.size):=by rintro aJ rfl;refine(qj (ag.kept X id)).mono ?_;rintro e d ⟨rfl,u,t⟩;have a0:=t.size;have ae:=(X.mono (S':=λk=>k=bs) fE).trans t iL;exact⟨rfl,u,aQ.kept ae ax,(t.block _ (by omega) (by omega)).trans av,ae,by omega⟩
 have aG:=am.1;obtain⟨ad,u,t,ay,aK⟩:=ac.zero;clear ac;rcases ad with ad|⟨ad,aV⟩<;>rcases u with u|⟨u,aX⟩
 all_goals
  go_enter_defers Tryz.func45,Tryz.ntmps45
  go_wp2_with (first
   |(go_at_call 47;refine(aL _ rfl).mono ?_;rintro e d ⟨rfl,z,Q,Y,V,aM⟩;have P:Hid (zt d bs 1 (some bd)):=z;have aH:Hid (ze d bd S D):=Q;have az:Hid (d.heap[w.heap.size]? =some (.cells #[.slice none 0 0,.bool false] 90 (0,0))):=Y;have ao:Hid (Kept (λk=>k=bs) w d):=V;have a1:d.cell? ⟨bs,2,none⟩=some (.pointer (some ⟨bd,0,none⟩)):=z.c2;clear z Q Y V)
   |(go_at_call 49;refine(keys.qu _ d (by assumption)).mono ?_;rintro e aP ⟨rfl,O⟩;rw [O];clear O aP)
   |(go_at_call 68;refine(UC d p k n aG aI).mono ?_;rintro e L ⟨rfl,C⟩;have s:Hid (Kept (λ_=>False) d L):=C;have aR:=C.size;clear C)
   |(go_at_call 67;refine(aF L (P.kept s id) (aH.kept s nF)).mono ?_;rintro e g ⟨⟨A,J,rfl,F,U⟩,⟨aC,ai,ab,R⟩,I⟩;have G:Hid (∀j,(Value.slice A T.length J).ownBlock=some j->L.heap.size<=j):=U;have aA:Hid (ze g bd S {D with reads:=aC }):=R;have H:Hid (Kept (λi=>i=bd) L g):=I;have o:g.heap[w.heap.size]? =some (.cells #[.slice none 0 0,.bool false] 90 (0,0)):=(I.block _ (by omega) (by omega)).trans ((s.block _ (by omega) id).trans az);have a2:g.cell? ⟨w.heap.size,0,none⟩=some (.slice none 0 0):=(cR o rfl);have a3:g.cell? ⟨w.heap.size,1,none⟩=some (.bool false):=(cR o rfl);have a4:=aa g w.heap.size 0 _ _ o;have aZ:=aa g w.heap.size 1 _ _ o;change Hid _ at F o;clear U R I))
  have ap:=heap_setCell_same g w.heap.size 0 _ _ (.slice A T.length J) o.out;have aq:=heap_setCell_same _ w.heap.size 1 _ _ (.bool q) ap;have E:Kept (λj=>j=w.heap.size) g ((g.setCell ⟨w.heap.size,0,none⟩ (.slice A T.length J)).setCell ⟨w.heap.size,1,none⟩ (.bool q)):=(Kept.setCell (S:=λj=>j=w.heap.size) g ⟨w.heap.size,0,none⟩ _ rfl).trans (Kept.setCell (S:=λj=>j=w.heap.size) _ ⟨w.heap.size,1,none⟩ _ rfl) iL;generalize ((g.setCell ⟨w.heap.size,0,none⟩ (.slice A T.length J)).setCell ⟨w.heap.size,1,none⟩ (.bool q))=a7 at*;have aW:=H.size;have aS:=E.size;refine leaves_cons (f:= 48) (args:=#[.pointer (some ⟨bs,0,none⟩)]) (by simp) (by simp [go_sem]) ?_;refine(qh (((P.kept s id).kept H al).kept E (by omega))).mono ?_;rintro e u' a6 ⟨rfl,rfl,aB,x⟩;have aE:=(x.block _ (by omega) (by omega)).trans aq;refine⟨_,qW rfl _ _ _ _ _ _ _ rfl aE Tryz.underlying90 rfl (by kernel_rfl),⟨A,J,rfl,x.owns (E.owns F (λj l aj=>by have:=G.out j l;omega)) (λj l aj=>by have:=G.out j l;omega),λj l=>by have:=G.out j l;omega⟩,aB,⟨aC,ai,ab,(aA.kept E (λj l aj=>by have:=aD.out j l;omega)).kept x ax⟩,?_⟩;exact((((ao.mono (S':=λi=>i=bd\/i=bs) (λ_ h=>.inr h)).trans s fE).trans H (λ_ h=>.inl (.inl h))).trans E (λj l=>.inr (by omega))).trans x (λ_ h=>.inl (.inr h))
end prog
end Go.Proofs.YtcoengihaobddaaGreatDoor

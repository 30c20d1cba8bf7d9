/- Part 12 of 36 of a proof: Law19, Ref5, Ref6, Ref7, Book7 -/
import Derived.Test.YtcoengihaobddaaGreatDoorJb11
set_option maxHeartbeats 8000000
set_option linter.unusedVariables false
set_option linter.unusedSimpArgs false
set_option maxRecDepth 8000
namespace Go.Proofs.YtcoengihaobddaaGreatDoor
namespace law
open Go.RowKit disk ref book
theorem qt.askedV{X:ze}{w w':World}{x L t:Nat}{c:List (Nat×(Nat->Prop))}{G:Option Addr}{H:Nat}{F aa:Nat->Prop}{a b:Option Addr}{M Z:Nat}{J vs:List xU}(p:qt X w x L t c G H F aa a b M Z J vs)(V:x<=w.heap.size)(i:Nat)(z:i<c.length)
 {e:Ending} (s:Vp X w w' c[i].2 c[i].1 t L (.slice G c.length H) F aa a M J vs e):e=.returned (.bool true)/\ja X w' x L (t+1)/\za (λk=>x<=k) w w':=by
 obtain⟨N,⟨X',W,b',O,Q,K,I,ab,C,D,S⟩,y⟩:=s;have B:∀j (n:j<c.length) k,c[j].2 k->k<w.heap.size:=λj n=>(p.one j n).lt;have E:∀k,(Value.slice G c.length H).ownBlock=some k->k<w.heap.size:=λk y=>(p.row.lt k y).2
 have o:∀j (n:j<(c.set i (c[i].1,X')).length),(j=i/\(c.set i (c[i].1,X'))[j]=(c[i].1,X'))\/(∃f:j<c.length,j≠i/\(c.set i (c[i].1,X'))[j]=c[j]):=λj n=>by
  by_cases l:j=i;.subst l;exact .inl ⟨rfl,by simp⟩
  .exact .inr ⟨by simpa using n,l,List.getElem_set_ne (iw l) _⟩
 have r:(c.set i (c[i].1,X')).length=c.length:=ew ..;refine⟨N,⟨c.set i (c[i].1,X'),G,H,F,W,a,b',M,O,J,Q,?_,?_,λj n=>?_,λj k n v P u h=>?_,λj n u h=>?_,λj n u h=>?_,λk v=>?_,λj n u h=>?_,p.bF,λk v=>?_,p.bP,?_,?_,?_⟩,⟨y.os,y.tape,y.output,y.size,λk q R=>y.block k q (λd=>R ?_)⟩⟩
 .rw [r]
  have l:(c.set i (c[i].1,X')).map (λY=>qz Y.1)=c.map λY=>qz Y.1:=by
   rw [lU];apply mB (by simp);intro j g h2;simp only [mE,ia];split
   next m=>subst m;rfl
   next=>rfl
  rw [l]
  exact y.owns p.row (λk q d=>by
   have g:=p.rowF k q;rcases d with d|d|d;.exact p.rsep i z k d q
   .exact g.2.1 d
   .exact g.2.2.1 d)
 .rw [r];exact I
 .rcases o j n with⟨l,m⟩|⟨f,l,m⟩;.subst l;rw [m];exact K
  .rw [m];refine((p.one j f).kept y (λk q d=>?_)).later (by omega);rcases d with d|d|d;.exact p.apart i j z f (iw l) k d q
   .exact(p.sep j f k q).2.1 d
   .exact(p.sep j f k q).2.2 d
 .rcases o j n with⟨l,m⟩|⟨f,l,m⟩<;>rcases o k v with⟨U,T⟩|⟨A,U,T⟩<;>rw [m] at h<;>rw [T]
  .omega
  .intro d;rcases C u h with g|g;.exact p.apart i k z A (iw U) u g d
   .have:=B k A u d;omega
  .intro d;rcases C u d with g|g;.exact p.apart j i f z l u h g
   .have:=B j f u h;omega
  .exact p.apart j k f A P u h
 .rcases o j n with⟨l,m⟩|⟨f,l,m⟩<;>rw [m] at h
  .exact S u h
  .refine⟨(p.sep j f u h).1,λd=>?_,(p.sep j f u h).2.2⟩;rcases D u d with g|g;.exact(p.sep j f u h).2.1 g
   .have:=B j f u h;omega
 .rw [r];intro d;rcases o j n with⟨l,m⟩|⟨f,l,m⟩<;>rw [m] at h
  .rcases C u h with g|g;.exact p.rsep i z u g d
   .have:=E u d;omega
  .exact p.rsep j f u h d
 .rw [r] at v;have g:=p.rowF k v;refine⟨g.1,λd=>?_,g.2.2⟩;rcases D k d with h2|h2;.exact g.2.1 h2
  .have:=E k v;omega
 .rcases o j n with⟨l,m⟩|⟨f,l,m⟩<;>rw [m] at h
  .rcases C u h with g|g;.exact p.bX i z u g
   .omega
  .exact p.bX j f u h
 .rcases D k v with g|g;.exact p.bH k g
  .omega
 .have:=p.fewE;omega
 .have:=p.fewV;omega
 .rw [r];have:=p.fewO;omega
 .rcases d with d|d|d;.exact p.bX i z k d
  .exact p.bH k d
  .rw [d];exact p.bP
end law
namespace ref
theorem ji.inj{vs:List zB}(h:ji vs){i j:Nat}(c:i<vs.length)(b:j<vs.length)(e:vs[i].key=vs[j].key/\vs[i].num=vs[j].num):i=j:=by
 rcases Nat.lt_trichotomy i j with a|a|a;.exact absurd e (eB.1 h i j c b a)
 .exact a
 .exact absurd ⟨e.1.symm,e.2.symm⟩ (eB.1 h j i b c a)
structure KX (vs:List zB) (f:zB->Bool) (L:List zB) (tk:Nat->Bool) (j:Nat):Prop where
 sorted:L.Pairwise λa b=>a.ahead b=true
 perm:L.Perm (vs.filter f)
 apart:ji vs
 le:j<=L.length
 is:∀i (hi:i<vs.length),tk i=true↔vs[i]∈L.take j
def kE(vs:List zB)(f:zB->Bool)(tk:Nat->Bool)(i:Nat)(b:Int):Prop:=
 (b= -1/\∀c (hc:c<vs.length),c<i->tk c=false->f vs[c]=false)\/
  ∃m,∃hm:m<vs.length,b=(m:Int)/\m<i/\tk m=false/\f vs[m]=true/\∀c (hc:c<vs.length),c<i->tk c=false->f vs[c]=true->c=m\/vs[m].ahead vs[c]=true
theorem kE.start(vs:List zB)(f:zB->Bool)(tk:Nat->Bool):kE vs f tk 0 (-1):=.inl ⟨rfl,λc _ h=>by omega⟩
section
variable {vs:List zB} {f:zB->Bool} {L:List zB} {tk:Nat->Bool} {i j:Nat} {b:Int}
theorem kE.skip(h:kE vs f tk i b)(s:i<vs.length)(j:tk i=true\/f vs[i]=false):kE vs f tk (i+1) b:=by
 have l:tk i=false->f vs[i]=true->False:=λe h2=>by rcases j with j|j<;>simp_all
 rcases h with⟨e,h2⟩|⟨m,p,e,h2,r,q,o⟩
 .refine .inl ⟨e,λc k n d=>?_⟩;rcases iJ c i with a|a;.exact h2 c k a d
  .obtain rfl:c=i:=by omega
   cases g:f vs[c] with
   |false=>rfl
   |true=>exact(l d g).elim
 .refine .inr ⟨m,p,e,by omega,r,q,λc k n d g=>?_⟩;rcases iJ c i with a|a;.exact o c k a d g
  .obtain rfl:c=i:=by omega
   exact(l d g).elim
theorem kE.first(h:kE vs f tk i (-1))(g:i<vs.length)(k:tk i=false)(j:f vs[i]=true):kE vs f tk (i+1) (i:Int):=by
 rcases h with⟨_,h2⟩|⟨m,o,n,_⟩
 .refine .inr ⟨i,g,rfl,by omega,k,j,λc e l d a=>?_⟩;rcases iJ c i with b|b;.rw [h2 c e b d] at a;cases a
  .exact .inl (by omega)
 .omega
theorem kE.other{m:Nat}(u:ji vs)(h:kE vs f tk i (m:Int))(n:i<vs.length)(s:m<vs.length)(x:tk i=false)(r:f vs[i]=true):kE vs f tk (i+1) (if vs[i].ahead vs[m]=true then (i:Int) else (m:Int)):=by
 rcases h with⟨q,_⟩|⟨k,o,q,h2,w,v,l⟩;.omega
 .obtain rfl:k=m:=by omega
  by_cases a:vs[i].ahead vs[k]=true
  .rw [aB a];refine .inr ⟨i,n,rfl,by omega,x,r,λc j p g b=>?_⟩;rcases iJ c i with d|d
   .rcases l c j d g b with rfl|t;.exact .inr a
    .exact .inr (zB.ahead_trans a t)
   .exact .inl (by omega)
  .rw [aw a];refine .inr ⟨k,s,rfl,by omega,w,v,λc j p g b=>?_⟩;rcases iJ c i with d|d;.exact l c j d g b
   .obtain rfl:c=i:=by omega
    refine .inr (zB.ahead_total (λe=>?_) a);have:=u.inj n o e;omega
theorem KX.mem(h:KX vs f L tk j){v:zB}:v∈L↔v∈vs/\f v=true:=by rw [h.perm.mem_iff,ei]
theorem KX.left(h:KX vs f L tk j)(d:j<L.length):∃c,∃a:c<vs.length,vs[c]=L[j]/\tk c=false/\f vs[c]=true:=by
 have i:=(h.mem).1 (ai d);obtain⟨c,a,e⟩:=ed i.1;refine⟨c,a,e,?_,by rw [e];exact i.2⟩
 cases l:tk c with
 |false=>rfl
 |true=>
  have b:=(h.is c a).1 l;rw [e] at b;obtain⟨q,m,k⟩:=i8.1 b;have g:=eB.1 h.sorted q j (by omega) d (by omega);rw [k] at g;exact absurd g (zB.ahead_irrefl _)
theorem KX.end_(h:KX vs f L tk j)(g:kE vs f tk vs.length (-1)):L.length=j:=by
 have i:=h.le;rcases iJ j L.length with d|d
 .obtain⟨c,a,_,h2,e⟩:=h.left d;rcases g with⟨_,b⟩|⟨m,_,b,_⟩;.rw [b c a a h2] at e;cases e
  .omega
 .omega
theorem KX.next{m:Nat}(h:KX vs f L tk j)(k:m<vs.length)(t:kE vs f tk vs.length (m:Int)):∃d:j<L.length,L[j]=vs[m]/\KX vs f L (λc=>decide (c=m)||tk c) (j+1):=by
 rcases t with⟨v,_⟩|⟨e,A,v,h2,r,y,x⟩;.omega
 .obtain rfl:e=m:=by omega
  have p:vs[e]∈L:=h.mem.2 ⟨ai k,y⟩;obtain⟨q,w,i⟩:=ed p
  have B:j<=q:=by
   rcases iJ q j with g|g
   .have:vs[e]∈L.take j:=by rw [<-i];exact i8.2 ⟨q,by omega,rfl⟩
    rw [(h.is e k).2 this] at r;cases r
   .exact g
  have d:j<L.length:=by omega
  have l:L[j]=vs[e]:=by
   obtain⟨c,b,n,u,z⟩:=h.left d;rcases x c b b u z with rfl|g;.exact n.symm
   .rcases iJ j q with o|o
    .have s:=eB.1 h.sorted j q d w o;rw [i,<-n] at s;exact absurd g (zB.ahead_asymm s)
    .obtain rfl:j=q:=by omega
     exact i
  refine⟨d,l,h.sorted,h.perm,h.apart,by omega,λc b=>?_⟩;rw [ao d,ah,az,l];simp only [iY,aR];constructor
  .rintro(rfl|a);.exact .inr rfl
   .exact .inl ((h.is c b).1 a)
  .rintro(a|a);.exact .inr ((h.is c b).2 a)
   .exact .inl (h.apart.inj b k (by rw [a];exact⟨rfl,rfl⟩))
end
end ref
namespace law
open Go.ChangeShapes Go.WideShapes Go.ChangeAt Go.RowKit disk ref book
open keys (zh zd zx zq zp)
variable {tk:Nat->Bool}{m ib cap j:Nat}{w wr:World}{F G:Nat->Prop}{vs L:List zB}{last:Int}{a:Option Addr}{cs:List (List Value)}{f:zB->Bool}
def Qc(n:Nat)(tk:Nat->Bool):List Value:=(List.range n).map λi=>Value.bool (tk i)
theorem Vq{n:Nat}{i:Nat}(h:i<n):(Qc n tk)[i]? =some (.bool (tk i)):=by simp [Qc,h]
theorem UO{n:Nat}:(Qc n tk).toArray.setIfInBounds m (.bool true)=(Qc n (λc=>decide (c=m)||tk c)).toArray:=by
 apply Array.ext;.simp [Qc]
 .intro i b h2;simp only [List.setIfInBounds_toArray,List.getElem_toArray,mE];have a:i<n:=by simpa [Qc] using h2
  by_cases e:m=i;.subst e;simp [Qc]
  .rw [aw e];simp [Qc,iw e]
def Vr(wr:World)(b:Nat):Nat:=match wr.cell? ⟨b,0,none⟩ with
 |some (.slice _ n _)=>n
 |_=>0
structure KY (w:World) (F G:Nat->Prop) (ib:Nat) (vs:List zB) (last:Int) (a:Option Addr) (cap:Nat) (cs:List (List Value)) (f:zB->Bool) (L:List zB) (m j:Nat) (tk:Nat->Bool) (wr:World):Prop where
 sel:KX vs f L tk j
 jm:j<=m
 ref:q9 wr F G ib vs last a cap cs
 pg:∃va vc,wr.heap[w.heap.size+1]? =some (.cells #[.slice va j vc,.bool false] 90 (0,0))/\wr.ownsRow 0 94 4 (.slice va j vc) j (qq (L.take j))/\∀k,(Value.slice va j vc).ownBlock=some k->w.heap.size+3<=k
 tk:wr.heap[w.heap.size+2]? =some (.cells (Qc vs.length tk).toArray 4 (0,0))
 res:wr.heap[w.heap.size]? =some (.cells #[.slice none 0 0,.bool false] 90 (0,0))
 kept:za (λk=>w.heap.size<=k) w wr
 size:w.heap.size+3<=wr.heap.size
theorem KY.kept0{b:World}(h:KY w F G ib vs last a cap cs f L m j tk wr)(k:za (λ_=>False) wr b):KY w F G ib vs last a cap cs f L m j tk b:=by
 obtain⟨g,d,c,h2,i⟩:=h.pg;have e:=h.size;exact⟨h.sel,h.jm,h.ref.kept k nF nF,⟨g,d,(k.block _ (by omega) id).trans c,k.owns h2 nF,i⟩,(k.block _ (by omega) id).trans h.tk,(k.block _ (by omega) id).trans h.res,h.kept.trans k fE,aD e k.size⟩
theorem KY.more{A n:World}{r:Option Addr}{s d o mb:Nat}{v:zB}(h:KY w F G ib vs last a cap cs f L m j tk wr)(hF:∀k,F k->k<w.heap.size)(C:∀k,G k->k<w.heap.size)(x:j<m)(M:mb<vs.length)(z:j<L.length)(e:L[j]=v)(I:KX vs f L (λc=>decide (c=mb)||tk c) (j+1))
 (J:wr.heap[w.heap.size+1]? =some (.cells #[.slice r j s,.bool false] 90 (0,0))) (g:∀k,(Value.slice r j s).ownBlock=some k->w.heap.size+3<=k) (b:za (λk=>k=w.heap.size+2) wr A) (B:A.heap[w.heap.size+2]? =some (.cells (Qc vs.length (λc=>decide (c=mb)||tk c)).toArray 4 (0,0))) (i:za (λk=>(Value.slice r j s).ownBlock=some k) A n) (E:n.ownsRow 0 94 4 (.slice (some ⟨d,0,none⟩) (j+1) o) (j+1) (qq (L.take j)++ZG v)) (t:(Value.slice r j s).ownBlock=some d\/d=wr.heap.size+1+1):
 KY w F G ib vs last a cap cs f L m (j+1) (λc=>decide (c=mb)||tk c) (n.setCell ⟨w.heap.size+1,0,none⟩ (.slice (some ⟨d,0,none⟩) (j+1) o)):=by
 have R:=h.size;have O:=b.size;have K:=i.size;have u:n.heap[w.heap.size+1]? =_:=(i.block _ (by omega) (λl=>by have:=g _ l;omega)).trans ((b.block _ (by omega) (by omega)).trans J);have D:=heap_setCell_same n (w.heap.size+1) 0 _ _ (.slice (some ⟨d,0,none⟩) (j+1) o) u;have p:=za.setCell (S:=λk=>k=w.heap.size+1) n ⟨w.heap.size+1,0,none⟩ (.slice (some ⟨d,0,none⟩) (j+1) o) rfl
 have N:w.heap.size+3<=d:=by
  rcases t with y|y;.exact g d y
  .omega
 generalize (n.setCell ⟨w.heap.size+1,0,none⟩ (.slice (some ⟨d,0,none⟩) (j+1) o))=P at*;have q:za (λk=>w.heap.size<=k) wr P:=((b.mono (λk b=>by omega)).trans i (λk b=>.inl (by have:=g k b;omega))).trans p (λk b=>.inl (by omega));refine⟨I,x,h.ref.kept q (λk b l=>by have:=hF k b;omega) (λk b l=>by have:=C k b;omega),⟨some ⟨d,0,none⟩,o,D,?_,λk b=>?_⟩,?_,?_,h.kept.trans q (λk b=>.inl b),by have:=p.size;omega⟩
 .have H:qq (L.take (j+1))=qq (L.take j)++ZG v:=by
   rw [ao z,e];simp [qq]
  rw [H];exact p.owns E (λk b Q=>by simp [Value.ownBlock] at b;omega)
 .simp [Value.ownBlock] at b;omega
 .exact(p.block _ (by omega) (by omega)).trans ((i.block _ (by omega) (λl=>by have:=g _ l;omega)).trans B)
 .exact(p.block _ (by omega) (by omega)).trans ((i.block _ (by omega) (λl=>by have:=g _ l;omega)).trans ((b.block _ (by omega) (by omega)).trans h.res))
theorem KY.len(h:KY w F G ib vs last a cap cs f L m j tk wr):Vr wr (w.heap.size+1)=j:=by
 obtain⟨d,c,b,_⟩:=h.pg;unfold Vr;rw [aG wr _ 0 _ _ _ b];rfl
theorem Tryz.infoBool:(Tryz.prog.info? 4).map (λi=>(i.zero,i.size,i.bytes))=some (some (.bool false),1,1):=by kernel_rfl
theorem Tryz.infoVer:(Tryz.prog.info? 94).map (λi=>(i.zero,i.size,i.bytes))=some (some (.agg #[.string ⟨#[]⟩,.int .i64 0,.bool false,.int .i64 0]),4,40):=by kernel_rfl
theorem jX{P:Program}{fn:Func}{p u:Tmp}{a:TypeId}(h:fn.results=#[.cell p a,.tmp u])(tmps:Array Value)(w:World)(g:Nat)(t:TypeId)(cs:Array Value)(b:Nat×Nat)(d:TypeDesc)
 (f:tmps.getD p undef=.pointer (some ⟨g,0,none⟩)) (e:w.heap[g]? =some (.cells cs t b))
 (k:P.underlying a=some d) (i:(match d with|.struct _|.array _ _=>true|_=>false)=true) (j:(P.info? a).map (·.size)=some cs.size):
 (results fn tmps).run P w=.ok (.tuple #[.agg cs,tmps.getD u undef]) w:=by
 have c:tmps[p]?.getD undef=.pointer (some ⟨g,0,none⟩):=by simpa using f
 simp [results,h,c,asAddr,run_loadVar_row w g t a cs b d e k i j]
theorem GV(n k:Nat)(h:k=n):madeCells (Value.bool false).cells k=(Qc n (λ_=>false)).toArray:=by
 subst h;apply Array.ext;.simp [madeCells,Qc]
 .intro i a h2;simp [madeCells,Qc,Value.cells,Nat.mod_one]
theorem Db(w:World)(a b c:Obj):(((w.alloc a).alloc b).alloc c).heap[w.heap.size]? =some a/\(((w.alloc a).alloc b).alloc c).heap[w.heap.size+1]? =some b/\(((w.alloc a).alloc b).alloc c).heap[w.heap.size+2]? =some c/\za (λ_=>False) w (((w.alloc a).alloc b).alloc c)/\(((w.alloc a).alloc b).alloc c).heap.size=w.heap.size+3:=by
 have k3:=za.alloc (λ_=>False) ((w.alloc a).alloc b) c;have k2:=za.alloc (λ_=>False) (w.alloc a) b;have f:(w.alloc a).heap.size=w.heap.size+1:=by simp
 have g:((w.alloc a).alloc b).heap.size=w.heap.size+2:=by simp
 have d:=ac (w.alloc a) b;have e:=ac ((w.alloc a).alloc b) c;rw [f] at d;rw [g] at e;exact⟨(k3.block _ (by omega) id).trans ((k2.block w.heap.size (by simp) id).trans (ac w _)),(k3.block _ (by omega) id).trans d,e,((za.alloc _ _ _).trans k2 iL).trans k3 iL,by simp⟩
def Dj(w:World)(L:List zB)(m:Nat)(e:Ending)(w':World):Prop:=∃x more,e=.returned (.tuple #[.agg #[x,.bool more],.int .i64 0])/\gC w w' L m x more/\za (λ_=>False) w w'
theorem Vs(w A:World)(L:List zB)(m j:Nat)(b:Bool)(e:Option Addr)(d:Nat)(a:Act)(p:L.take m=L.take j)(u:j<=L.length)(t:b=decide (m<L.length))(s:A.heap[w.heap.size]? =some (.cells #[.slice none 0 0,.bool false] 90 (0,0)))(r:A.ownsRow 0 94 4 (.slice e j d) j (qq (L.take j)))(f:∀k,(Value.slice e j d).ownBlock=some k->w.heap.size+3<=k)(c:za (λk=>w.heap.size<=k) w A)(q:a.defers=[])(n:a.tmps.getD 10 undef=.pointer (some ⟨w.heap.size,0,none⟩))(i:a.tmps.getD 11 undef=.int .i64 0):
 bodyPost Tryz.prog Tryz.f108 (Dj w L m) .ret a ((A.setCell ⟨w.heap.size,0,none⟩ (.slice e j d)).setCell ⟨w.heap.size,1,none⟩ (.bool b)):=by
 have l:=heap_setCell_same A w.heap.size 0 _ _ (.slice e j d) s;have h:=heap_setCell_same _ w.heap.size 1 _ _ (.bool b) l;have o:za (λj=>j=w.heap.size) A ((A.setCell ⟨w.heap.size,0,none⟩ (.slice e j d)).setCell ⟨w.heap.size,1,none⟩ (.bool b)):=(za.setCell (S:=λj=>j=w.heap.size) A ⟨w.heap.size,0,none⟩ _ rfl).trans (za.setCell (S:=λj=>j=w.heap.size) _ ⟨w.heap.size,1,none⟩ _ rfl) iL;generalize ((A.setCell ⟨w.heap.size,0,none⟩ (.slice e j d)).setCell ⟨w.heap.size,1,none⟩ (.bool b))=y at*;have g:(L.take m).length=j:=by rw [p,aC];omega
 refine bodyPost_ret (v:=.tuple #[.agg #[.slice e j d,.bool b],.int .i64 0]) ((jX Tryz.results108 _ _ w.heap.size 90 _ (0,0) _ n h Tryz.underlying90 rfl (by kernel_rfl)).trans (by rw [i];rfl)) q ⟨_,_,rfl,⟨t,e,d,by rw [g],?_,?_⟩,?_⟩
 .rw [g,p];exact o.owns r (λk c x=>by have:=f k c;omega)
 .rw [g];exact λk c=>by have:=f k c;omega
 .exact((za.refl (λ_=>False) w).trans c (λk c=>.inr c)).trans o (λk c=>.inr (by omega))
theorem Vt(w:World)(F G:Nat->Prop)(ib:Nat)(vs:List zB)(last:Int)(h:zJ w F G ib vs last)(hF:∀k,F k->k<w.heap.size)(bf:∀k,G k->k<w.heap.size)(hap:ji vs)(bC:vs.length<=6000)(ap:∀v∈vs,v.key.size<=9223372036854775807)(p k:ByteArray)(n:Int)(m:Nat)(bk:p.size<=maxLen)(y:k.size<=maxLen)(bi:qH p k n m=0)(bx:m<=1000)(L:List zB)(aS:yw vs p k n L):
 Calls Tryz.prog 108 #[.pointer (some ⟨ib,0,none⟩),.string p,.string k,.int .i64 n,.int .i64 (m:Int)] w (Dj w L m):=by
 obtain⟨a,cap,cs,Z⟩:=h;have bM:=Z.lt;have ba:p.size<=9223372036854775807:=by unfold maxLen at bk;omega
 have a1:k.size<=9223372036854775807:=by unfold maxLen at y;omega
 obtain⟨f,aR⟩:∃f:zB->Bool,f=λv=>qU v p k n:=⟨_,rfl⟩;have ak:Hid (KX vs f L (λ_=>false) 0):=⟨aS.sorted,by rw [aR];exact aS.perm,hap,aj _,λi bT=>by simp⟩;have bh:Hid (∀v,qU v p k n=f v):=λv=>by rw [aR]
 change Hid _ at Z hF bf ap bi;clear hap aS aR;obtain⟨aq,I,H,K,J⟩:=yv Tryz.infoVer;have R:Hid (Tryz.prog.info? 94=some aq/\aq.zero=some (.agg #[.string ⟨#[]⟩,.int .i64 0,.bool false,.int .i64 0])/\aq.size=4/\aq.bytes=40):=⟨I,H,K,J⟩;clear I H K J;obtain⟨bw,I,H,K,J⟩:=yv Tryz.infoBool
 have bJ:∀aZ:World,(Instr.makeSlice 39 (.int .i64 (vs.length:Int)) (.int .i64 (vs.length:Int))).run Tryz.prog aZ=.ok (.slice (some ⟨aZ.heap.size,0,none⟩) vs.length vs.length) (aZ.alloc (.cells (Qc vs.length (λ_=>false)).toArray 4)):=λaZ=>by have:=run_make (P:=Tryz.prog) aZ 39 4 bw _ Tryz.underlying39 I H .i64 .i64 (vs.length:Int) (vs.length:Int) (by omega) (by omega) (by rw [J];omega) (by omega);rw [this,GV vs.length _ (by rw [K];omega)];rfl
 clear I H K J;go_enter Tryz.func108,Tryz.ntmps108;have bY:=Z.c0;go_wp2_with (go_at_call 155;refine(vU _ p k bk y n m).mono ?_;rintro e ae ⟨rfl,ab⟩;rw [ab,bi.out];clear ab ae);obtain⟨a4,a7,a6,k3,bo⟩:=Db w (.cells #[.slice none 0 0,.bool false] 90) (.cells #[.slice none 0 0,.bool false] 90) (.cells (Qc vs.length (λ_=>false)).toArray 4);have bn:Hid (KY w F G ib vs last a cap cs f L m 0 (λ_=>false) (((w.alloc (.cells #[.slice none 0 0,.bool false] 90)).alloc (.cells #[.slice none 0 0,.bool false] 90)).alloc (.cells (Qc vs.length (λ_=>false)).toArray 4))):=⟨ak,aj _,Z.kept k3 nF nF,⟨none,0,a7,aV _ 0 94 4,λk y=>by cases y⟩,a6,a4,k3.mono fE,by omega⟩;clear a4 a7 a6 k3 bo;generalize (((w.alloc (.cells #[.slice none 0 0,.bool false] 90)).alloc (.cells #[.slice none 0 0,.bool false] 90)).alloc (.cells (Qc vs.length (λ_=>false)).toArray 4))=aZ at*;go_loopw [15] (λ_ wr=>∃j tk,KY w F G ib vs last a cap cs f L m j tk wr) (λ_ wr=>L.length-Vr wr (w.heap.size+1))
 case atStart=>exact⟨0,_,bn⟩
 case round=>
  obtain⟨j,tk,am⟩:=hrel;change Hid _ at am;go_wp2_with fail;have bm:Hid _:=am.len;go_loopw [15,16] (λb i bp=>∃(c:Nat) (B:Int),c<=vs.length/\i=.int .i64 c/\b=.int .i64 B/\kE vs f tk c B/\KY w F G ib vs last a cap cs f L m j tk bp) (λ_ i _=>vs.length-(intOf i).toNat)
  case atStart=>exact⟨0, -1,aj _,rfl,rfl,kE.start _ _ _,am⟩
  case round=>
   obtain⟨c,B,be,rfl,rfl,T,d⟩:=hrel;have z:Hid (kE vs f tk c B):=T;change Hid _ at d;clear T;have aY:=d.ref.c0;by_cases s:c<vs.length
   .obtain⟨g,rfl⟩:=d.ref.rowAt (by omega);obtain⟨au,ay,av,al,t,aw,_⟩:=d.ref.cells c s;have ar:=ap.out _ (ai s);have bG:(c:Int)<(vs.length:Int):=by omega
    obtain⟨v,Q⟩:∃v,v=vs[c]:=⟨_,rfl⟩;rw [<-Q] at au ay av aw ar;have ag:Hid _:=Q;clear Q;go_wp2_with fail;refine(Y6 _ v _ rfl ar p k ba a1 n).mono ?_;rintro e ae ⟨rfl,aI⟩;rw [bh.out v];have q:Hid (KY w F G ib vs last (some ⟨g,0,none⟩) cap cs f L m j tk ae):=d.kept0 aI;clear aI au ay av aw aY;have ut:ae.cell? ⟨w.heap.size+2,c,none⟩=some (.bool (tk c)):=by rw [aG ae _ c _ _ _ q.tk];simpa using Vq s
    cases C:tk c with
    |true=>
     rw [C] at ut;have V:Hid (tk c=true):=C;clear C;go_wp2;go_roundw
     case rel=>exact⟨c+1,B,by omega,by go_num,rfl,z.skip s (.inl V),q⟩
     case measure=>simp [intOf];omega
    |false=>
     rw [C] at ut;have V:Hid _:=C;clear C
     cases Y:f v with
     |false=>
      have X:Hid _:=Y;clear Y;go_wp2;go_roundw
      case rel=>exact⟨c+1,B,by omega,by go_num,rfl,z.skip s (.inr (by rw [<-ag.out];exact X)),q⟩
      case measure=>simp [intOf];omega
     |true=>
      have X:Hid (f vs[c]=true):=(by rw [<-ag.out];exact Y);clear Y;by_cases O:B<0
      .have W:Hid (kE vs f tk (c+1) c):=by
        have aU:=z.out;rcases z.out with⟨rfl,_⟩|⟨_,_,rfl,_⟩;.exact aU.first s V X.out
        .omega
       go_wp2;go_roundw
       case rel=>exact⟨c+1,c,by omega,by go_num,rfl,W,q⟩
       case measure=>simp [intOf];omega
      .obtain⟨mb,l,rfl⟩:∃mb:Nat,mb<vs.length/\B=mb:=by
        rcases z.out with⟨rfl,_⟩|⟨mb,l,rfl,_⟩;.omega
        .exact⟨mb,l,rfl⟩
       have W:Hid _:=kE.other ak.apart z s l V X.out;obtain⟨bc,bg,a0,bB,a2,bd,_⟩:=q.ref.cells c s;obtain⟨aY,bA,bq,bs,a5,bv,_⟩:=q.ref.cells mb l;have bj:=ap.out _ (ai l);have u0:=q.ref.c0;have a9:(mb:Int)<(vs.length:Int):=by omega
       have bb:=decide_eq_false O;have aC:=q.ref.lt;have r:=(q.ref.row.lt g rfl).2;rw [<-ag.out] at bc bg a0 bd
       have aE:Hid (kE vs f tk (c+1) (if v.ahead vs[mb]=true then (c:Int) else (mb:Int))):=by have:=W.out;rw [<-ag.out] at this;exact this
       clear W;generalize vs[mb]=u at*;go_wp2_with fail;go_region_held3 (λw'=>w'.cell? ⟨ib,0,none⟩=some (.slice (some ⟨g,0,none⟩) vs.length cap)/\w'.cell? ⟨g,c*4,none⟩=some (.string v.key)/\w'.cell? ⟨g,c*4+1,none⟩=some (.int .i64 v.num)/\w'.cell? ⟨g,c*4+2,none⟩=some (.bool v.mark)/\w'.cell? ⟨g,c*4+3,none⟩=some (.slice bB v.body.length a2)/\w'.cell? ⟨g,mb*4,none⟩=some (.string u.key)/\w'.cell? ⟨g,mb*4+1,none⟩=some (.int .i64 u.num)/\w'.cell? ⟨g,mb*4+2,none⟩=some (.bool u.mark)/\w'.cell? ⟨g,mb*4+3,none⟩=some (.slice bs u.body.length a5)) (go_keep) ((go_at_call 157;refine(JW _ v u _ _ rfl rfl ar bj).mono ?_;rintro e bW ⟨rfl,az⟩;have o:=(za.drew (λ_=>False) ae).trans az iL;have aD:Hid _:=q.kept0 o;have bS:=(o.cell (a:=⟨ib,0,none⟩) aC id).trans u0;have b3:=(o.cell (a:=⟨g,c*4,none⟩) r id).trans bc;have b5:=(o.cell (a:=⟨g,c*4+1,none⟩) r id).trans bg;have b2:=(o.cell (a:=⟨g,c*4+2,none⟩) r id).trans a0;have bX:=(o.cell (a:=⟨g,c*4+3,none⟩) r id).trans bd;have bP:=(o.cell (a:=⟨g,mb*4,none⟩) r id).trans aY;have b0:=(o.cell (a:=⟨g,mb*4+1,none⟩) r id).trans bA;have b7:=(o.cell (a:=⟨g,mb*4+2,none⟩) r id).trans bq;have bQ:=(o.cell (a:=⟨g,mb*4+3,none⟩) r id).trans bv;clear az o))
       cases aA:v.ahead u with
       |true=>
        go_wp2;go_roundw
        case rel=>exact⟨c+1,c,by omega,by go_num,rfl,by have:=aE.out;rw [aA] at this;exact this,aD⟩
        case measure=>simp [intOf];omega
       |false=>
        go_wp2;go_roundw
        case rel=>exact⟨c+1,mb,by omega,by go_num,rfl,by have:=aE.out;rw [aA] at this;exact this,aD⟩
        case measure=>simp [intOf];omega
   .have a8:c=vs.length:=by omega
    subst a8;obtain⟨M,N,D,ad,x⟩:=d.pg;change Hid _ at D ad x;have br:wr.cell? ⟨w.heap.size+1,0,none⟩=some (.slice M j N):=cR D.out rfl;have bV:wr.cell? ⟨w.heap.size+1,1,none⟩=some (.bool false):=cR D.out rfl;have bZ:wr.cell? ⟨w.heap.size,0,none⟩=some (.slice none 0 0):=cR d.res rfl;have b6:wr.cell? ⟨w.heap.size,1,none⟩=some (.bool false):=cR d.res rfl;have bR:=aa wr (w.heap.size) 0 _ _ d.res;have bO:=aa wr (w.heap.size) 1 _ _ d.res;have b1:=aa wr (w.heap.size+1) 1 _ _ D.out;have aC:=d.size;by_cases O:B<0
    .have bb:=aJ O
     have aW:Hid (L.length=j):=by
      have aU:=z.out;rcases z.out with⟨rfl,_⟩|⟨_,_,rfl,_⟩;.exact d.sel.end_ aU
      .omega
     go_wp2;exact Vs w wr L m j false M N _ (by rw [an (by have:=d.jm;have:=aW.out;omega),an (by have:=aW.out;omega)]) d.sel.le (by have:=d.jm;have:=aW.out;exact(decide_eq_false (by omega)).symm) d.res ad x d.kept rfl rfl rfl
    .obtain⟨mb,l,rfl⟩:∃mb:Nat,mb<vs.length/\B=mb:=by
      rcases z.out with⟨rfl,_⟩|⟨mb,l,rfl,_⟩;.omega
      .exact⟨mb,l,rfl⟩
     obtain⟨aO,aP,ah⟩:=d.sel.next l z.out;change Hid _ at ah aP;have bH:=d.jm;by_cases bl:j=m
     .subst bl;go_wp2;have aQ:=za.setCell (S:=λk=>k=w.heap.size+1) wr ⟨w.heap.size+1,1,none⟩ (.bool true) rfl;exact Vs w _ L j j true M N _ rfl (by omega) (aJ aO).symm ((aQ.block _ (by omega) (by omega)).trans d.res) (aQ.owns ad (λk y bu=>by have:=x.out k y;omega)) x (d.kept.trans aQ (λk y=>.inl (by omega))) rfl rfl rfl
     .have bL:=beq_false_of_ne (by omega);obtain⟨g,rfl⟩:=d.ref.rowAt (by omega);obtain⟨au,ay,av,al,t,aw,_⟩:=d.ref.cells mb l;have a9:(mb:Int)<(vs.length:Int):=by omega
      obtain⟨v,Q⟩:∃v,v=vs[mb]:=⟨_,rfl⟩;rw [<-Q] at au ay av aw;have ag:Hid _:=Q;clear Q;have ut:wr.cell? ⟨w.heap.size+2,mb,none⟩=some (.bool (tk mb)):=by rw [aG wr _ mb _ _ _ d.tk];simpa using Vq l
      have uf:=aa wr (w.heap.size+2) mb _ _ d.tk;have bK:=hF.out g (d.ref.foot2 g rfl);have bD:¬ib=w.heap.size+2:=by omega
      have bt:¬g=w.heap.size+2:=by omega
      have ab:w.heap.size+1<wr.heap.size:=by omega
      have bE:¬w.heap.size+1=wr.heap.size:=by omega
      obtain⟨A,af⟩:∃A,A=wr.setCell ⟨w.heap.size+1+1,mb,none⟩ (.bool true):=⟨_,rfl⟩;have aX:za (λk=>k=w.heap.size+2) wr A:=by rw [af];exact za.setCell wr ⟨w.heap.size+1+1,mb,none⟩ (.bool true) rfl
      have aK:A.heap[w.heap.size+2]? =some (.cells (Qc vs.length (λc=>decide (c=mb)||tk c)).toArray 4 (0,0)):=by rw [af,<-UO];exact heap_setCell_same wr (w.heap.size+2) mb _ _ (.bool true) d.tk
      have aT:A.heap.size=wr.heap.size:=by rw [af];simp
      have bI:(wr.setCell ⟨w.heap.size+1+1,mb,none⟩ (.bool true)).cell? ⟨w.heap.size+1,0,none⟩=some (.slice M j N):=by rw [<-af,aX.cell (a:=⟨w.heap.size+1,0,none⟩) ab (by show ¬w.heap.size+1=w.heap.size+2;omega)];exact br
      have E:Hid (za (λk=>k=w.heap.size+2) wr ((A.alloc (.cells #[.string v.key,.int .i64 v.num,.bool v.mark,.slice al v.body.length t] 123)).alloc (.cells #[.string v.key,.int .i64 v.num,.bool v.mark,.int .i64 (v.body.length:Int)] 94))):=(aX.trans (za.alloc (λk=>k=w.heap.size+2) _ _) iL).trans (za.alloc (λk=>k=w.heap.size+2) _ _) iL;have aN:Hid (((A.alloc (.cells #[.string v.key,.int .i64 v.num,.bool v.mark,.slice al v.body.length t] 123)).alloc (.cells #[.string v.key,.int .i64 v.num,.bool v.mark,.int .i64 (v.body.length:Int)] 94)).heap[w.heap.size+2]? =_):=(((za.alloc (λ_=>False) _ _).trans (za.alloc (λ_=>False) _ _) iL).block _ (by rw [aT];omega) id).trans aK
      have aF:Hid (((A.alloc (.cells #[.string v.key,.int .i64 v.num,.bool v.mark,.slice al v.body.length t] 123)).alloc (.cells #[.string v.key,.int .i64 v.num,.bool v.mark,.int .i64 (v.body.length:Int)] 94)).heap[wr.heap.size+1]? =some (.cells (ZG v).toArray 94 (0,0))):=by have:=ac (A.alloc (.cells #[.string v.key,.int .i64 v.num,.bool v.mark,.slice al v.body.length t] 123)) (.cells #[.string v.key,.int .i64 v.num,.bool v.mark,.int .i64 (v.body.length:Int)] 94);rw [World.size_alloc,aT] at this;exact this
      rw [af] at E aN aF;clear af aX aK aT;have aH:=E.owns ad (λk y bu=>by have:=x.out k y;omega);change Hid _ at aH;go_wp2_with (refine wpList_append_lies _ rfl (.tmp 104) (.tmp 115) 44 rfl 0 94 aq _ 4 40 Tryz.underlying44 R.1 R.2.1 R.2.2.1 R.2.2.2 rfl (by omega) (.slice M j N) j (qq (L.take j)) (by rfl) (by exact aH) ⟨wr.heap.size+1,0,none⟩ 1 1 (ZG v) (by rfl) (by rfl) (by exact World.news_of_block aF) (by simp [ZG,Value.oneCell']) (by omega) (by unfold maxLen;omega) (by omega) (aj _) (wr.heap.size+1+1) (by simp) ?_;intro b4 bU ax ao U aB bz;have aL:Hid _:=za.grown U (λk y=>y);have a3:Hid _:=d.more hF bf (by omega) l aO (aP.trans ag.symm) ah D x E aN aL ao aB;have aM:Hid (ax.heap[w.heap.size+1]? =some (.cells #[.slice M j N,.bool false] 90 (0,0))):=(aL.block _ (by have:=E.size;omega) (λbe=>by have:=x.out _ be;omega)).trans ((E.block _ (by omega) (by omega)).trans D);have bN:ax.cell? ⟨w.heap.size+1,0,none⟩=some (.slice M j N):=(cR aM.out rfl);have bF:ax.frozen? ⟨w.heap.size+1,0,none⟩=false:=aa ax (w.heap.size+1) 0 _ _ aM.out;change Hid _ at ao aB;clear U);go_roundw
      case rel=>exact⟨j+1,_,a3⟩
      case measure=>
       rw [a3.len,bm.out];omega
theorem Vu(w:World)(ib:Nat)(p k:ByteArray)(n m:Int)(f:p.size<=maxLen)(h:k.size<=maxLen)(d:¬qH p k n m=0):
 Calls Tryz.prog 108 #[.pointer (some ⟨ib,0,none⟩),.string p,.string k,.int .i64 n,.int .i64 m] w λe w'=>e=.returned (.tuple #[.agg #[.slice none 0 0,.bool false],.int .i64 (qH p k n m)])/\za (λ_=>False) w w':=by
 obtain⟨c,b⟩:∃c,c=qH p k n m:=⟨_,rfl⟩;have g:Hid (qH p k n m=c):=b.symm;rw [<-b] at d ⊢;have j:(c !=0)=true:=by simpa using d
 clear b d;go_enter Tryz.func108,Tryz.ntmps108;go_wp2_with (go_at_call 155;refine(vU _ p k f h n m).mono ?_;rintro e i ⟨rfl,a⟩;rw [a,g.out];clear a i);exact bodyPost_ret (v:=.tuple #[.agg #[.slice none 0 0,.bool false],.int .i64 c]) (jX Tryz.results108 _ _ w.heap.size 90 _ (0,0) _ rfl (ac w _) Tryz.underlying90 rfl (by kernel_rfl)) rfl ⟨rfl,za.alloc _ _ _⟩
theorem dF{p k:ByteArray}{n m:Int}(h:qH p k n m=0):1<=m/\m<=50:=by
 unfold qH at h;split at h;.omega
 .split at h;.omega
  .omega
structure Qz (w w':World) (L:List zB) (m:Int) (x:Value) (more:Bool) (c:Int):Prop where
 kept:za (λ_=>False) w w'
 yes:c=0->gC w w' L m.toNat x more
 no:c≠0->x=.slice none 0 0/\more=false
theorem J9(w:World)(F G:Nat->Prop)(ib:Nat)(vs:List zB)(last:Int)(h:zJ w F G ib vs last)(hF:∀k,F k->k<w.heap.size)(t:∀k,G k->k<w.heap.size)(hap:ji vs)(d:vs.length<=6000)(i:∀v∈vs,v.key.size<=9223372036854775807)(p k:ByteArray)(n m:Int)(f:p.size<=maxLen)(j:k.size<=maxLen)(L:List zB)(o:yw vs p k n L):
 Calls Tryz.prog 108 #[.pointer (some ⟨ib,0,none⟩),.string p,.string k,.int .i64 n,.int .i64 m] w λe w'=>∃l a,e=.returned (.tuple #[.agg #[l,.bool a],.int .i64 (qH p k n m)])/\Qz w w' L m l a (qH p k n m):=by
 by_cases b:qH p k n m=0
 .obtain⟨g,h2⟩:=dF b;obtain⟨q,rfl⟩:=lw (show 0<=m by omega);refine(Vt w F G ib vs last h hF t hap d i p k n q f j b (by omega) L o).mono ?_;rintro e w' ⟨l,a,rfl,s,r⟩;exact⟨l,a,by rw [b],r,λ_=>s,λc=>absurd b c⟩
 .refine(Vu w ib p k n m f j b).mono ?_;rintro e w' ⟨rfl,g⟩;exact⟨_,_,rfl,g,λc=>absurd c b,λ_=>⟨rfl,rfl⟩⟩
end law
namespace book
open Go.RowKit disk ref
theorem xq.pushV{w t:World}{g:Nat}{l:Value}{F I:Nat->Prop}{a b:Option Addr}{T p:Nat}{M vs:List xU}(h:xq w g l F I a b T p M vs)(X:vs.length<4398046511104)(e:xU)(Z:e.ss.length=4)
 (aa:Qr w e.P e.g e.ss vs.length) (x:∀k,e.P k->¬F k/\¬I k/\k≠g/\k<w.heap.size) (A:¬F e.g/\¬I e.g/\e.g≠g/\e.g<w.heap.size)
 (ae:Obj) (m v:Nat) (C:t.ownsRow 0 129 1 (.slice (some ⟨m,0,none⟩) (vs.length+1) v) (vs.length+1) (vs.map xU.val++[.slice (some ⟨e.g,0,none⟩) 4 4]))
 (E:(w.alloc ae).grownBy t (Value.slice b vs.length p).ownBlock) (H:(Value.slice b vs.length p).ownBlock=some m\/m=w.heap.size+1):
 xq (t.setCell ⟨g,2,none⟩ (.slice (some ⟨m,0,none⟩) (vs.length+1) v)) g l F (λk=>I k\/e.P k\/k=e.g\/k=m) a (some ⟨m,0,none⟩) T v M (vs++[e])/\
  za (λk=>(Value.slice b vs.length p).ownBlock=some k\/k=g) w (t.setCell ⟨g,2,none⟩ (.slice (some ⟨m,0,none⟩) (vs.length+1) v)):=by
 have P:=h.head.lt;have o:∀k,(Value.slice b vs.length p).ownBlock=some k->I k:=λk d=>h.rows.foot2 k d;have k1:za (λk=>(Value.slice b vs.length p).ownBlock=some k) w t:=(za.alloc _ w ae).trans (za.grown (S:=λk=>(Value.slice b vs.length p).ownBlock=some k) E (λk d=>d)) iL;have k2:=za.setCell (S:=λk=>k=g) t ⟨g,2,none⟩ (.slice (some ⟨m,0,none⟩) (vs.length+1) v) rfl;have u:za (λk=>(Value.slice b vs.length p).ownBlock=some k\/k=g) w (t.setCell ⟨g,2,none⟩ (.slice (some ⟨m,0,none⟩) (vs.length+1) v)):=(k1.mono iL).trans k2 (λ_ h=>.inl (.inr h));have r:(vs++[e]).length=vs.length+1:=by simp
 have B:I m\/w.heap.size<=m:=by
  rcases H with f|f;.exact .inl (o _ f)
  .exact .inr (by omega)
 have G:m≠g:=by
  rcases B with q|q;.exact λf=>h.hbp (by rw [<-f];exact q)
  .omega
 have s:∀i (j:i<(vs++[e]).length),(∃n:i<vs.length,(vs++[e])[i]=vs[i])\/(i=vs.length/\(vs++[e])[i]=e):=λi j=>by
  by_cases q:i<vs.length;.exact .inl ⟨q,iH q⟩
  .right;have f:i=vs.length:=by omega
   subst f;exact⟨rfl,by simp⟩
 have Q:∀i (j:i<vs.length) k,vs[i].P k->¬((Value.slice b vs.length p).ownBlock=some k\/k=g):=λi j k d c=>by
  rcases c with c|c;.exact h.rows.row2 i j k d c
  .exact h.hbp (by rw [<-c];exact(h.rows.foot i j).2 k d)
 have N:∀i (j:i<vs.length),¬((Value.slice b vs.length p).ownBlock=some vs[i].g\/vs[i].g=g):=λi j c=>by
  rcases c with c|c
  .rcases h.rows.row.2 with⟨af,q⟩|⟨ag,ab,ad,W,_,R,_⟩;.omega
   .rw [W] at c;simp [Value.ownBlock] at c;subst c;have:=(h.rows.vets i j).head;rw [R] at this;simp at this
  .exact h.hbp (by rw [<-c];exact(h.rows.foot i j).1)
 have U:∀k,e.P k->¬((Value.slice b vs.length p).ownBlock=some k\/k=g):=λk d c=>by
  rcases c with c|c;.exact(x k d).2.1 (o k c)
  .exact(x k d).2.2.1 c
 have J:¬((Value.slice b vs.length p).ownBlock=some e.g\/e.g=g):=λc=>by
  rcases c with c|c;.exact A.2.1 (o _ c)
  .exact A.2.2.1 c
 have z:=h.flt;have y:=h.hlt;have Y:=u.size
 have D:m<(t.setCell ⟨g,2,none⟩ (.slice (some ⟨m,0,none⟩) (vs.length+1) v)).heap.size:=by have:=(C.lt m rfl).2;simpa using this
 have K:∀k,I k->k<w.heap.size->(k=m->(Value.slice b vs.length p).ownBlock=some k):=λk d ac f=>by
  rcases H with L|L;.rw [f];exact L
  .omega
 refine⟨⟨⟨?_⟩,h.bytes.kept u (λi j c=>?_),⟨?_,λi j=>?_,λi j=>?_,λk d=>?_,λi j k d=>?_⟩,h.fbp,λc=>?_,λk d c=>?_,h.few,by rw [r];omega,λk d=>by have:=z k d;omega,λk d=>?_⟩,u⟩
 .rw [r];have f:=(k1.block g P (λc=>h.hbp (o g c))).trans h.head.head;rw [heap_setCell_same t g 2 _ _ _ f];rfl
 .rcases c with c|c;.exact h.apart i j (o i c)
  .exact h.fbp (by rw [<-c];exact j)
 .rw [r,eh];have:=k2.owns C (λk d f=>by simp [Value.ownBlock] at d;omega);simpa [xU.val,Z] using this
 .rcases s i j with⟨n,f⟩|⟨rfl,f⟩;.rw [f];exact(h.rows.vets i n).kept u (Q i n) (N i n)
  .rw [f];exact aa.kept u U J
 .rcases s i j with⟨n,f⟩|⟨rfl,f⟩<;>rw [f]
  .exact⟨.inl (h.rows.foot i n).1,λk d=>.inl ((h.rows.foot i n).2 k d)⟩
  .exact⟨.inr (.inr (.inl rfl)),λk d=>.inr (.inl d)⟩
 .rw [r] at d;simp only [Value.ownBlock,ij] at d;exact .inr (.inr (.inr d.symm))
 .rw [r];simp only [Value.ownBlock,ne_eq,ij];intro V;rcases s i j with⟨n,f⟩|⟨rfl,f⟩<;>rw [f] at d
  .have O:=(h.rows.foot i n).2 k d;exact h.rows.row2 i n k d (K k O (y k O) V.symm)
  .rcases B with q|q;.exact(x k d).2.1 (by rw [<-V];exact q)
   .have:=(x k d).2.2.2;omega
 .rcases c with c|c|c|c;.exact h.hbp c
  .exact(x g c).2.2.1 rfl
  .exact A.2.2.1 c.symm
  .exact G c.symm
 .rcases c with c|c|c|c;.exact h.apart k d c
  .exact(x k c).1 d
  .exact A.1 (by rw [<-c];exact d)
  .rcases B with q|q;.exact h.apart k d (by rw [c];exact q)
   .have:=z k d;omega
 .rcases d with d|d|d|d;.have:=y k d;omega
  .have:=(x k d).2.2.2;omega
  .have:=A.2.2.2;omega
  .rw [d];exact D
end book
end Go.Proofs.YtcoengihaobddaaGreatDoor

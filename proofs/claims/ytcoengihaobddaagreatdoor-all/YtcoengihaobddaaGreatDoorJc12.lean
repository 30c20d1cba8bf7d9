/- Part 12 of 36 of a proof: Law19, Ref5, Ref6, Ref7, Book7 -/
import Derived.Test.YtcoengihaobddaaGreatDoorJc11
set_option maxHeartbeats 8000000
set_option linter.unusedVariables false
set_option linter.unusedSimpArgs false
set_option maxRecDepth 8000
namespace Go.Proofs.YtcoengihaobddaaGreatDoor
namespace law
open Go.RowKit disk ref book
theorem qv.askedV{W:zd}{w w':World}{x K t:Nat}{c:List (Nat×(Nat->Prop))}{H:Option Addr}{G:Nat}{F aa:Nat->Prop}{a b:Option Addr}{L Y:Nat}{N vs:List xZ}(p:qv W w x K t c H G F aa a b L Y N vs)(V:x<=w.heap.size)(i:Nat)(B:i<c.length)
 {e:Ending} (s:Vp W w w' c[i].2 c[i].1 t K (.slice H c.length G) F aa a L N vs e):e=.returned (.bool true)/\jf W w' x K (t+1)/\za (λk=>x<=k) w w':=by
 obtain⟨J,⟨X',Z,b',R,S,M,I,ab,C,E,P⟩,y⟩:=s;have z:∀j (n:j<c.length) k,c[j].2 k->k<w.heap.size:=λj n=>(p.one j n).lt;have D:∀k,(Value.slice H c.length G).ownBlock=some k->k<w.heap.size:=λk y=>(p.row.lt k y).2
 have o:∀j (n:j<(c.set i (c[i].1,X')).length),(j=i/\(c.set i (c[i].1,X'))[j]=(c[i].1,X'))\/(∃f:j<c.length,j≠i/\(c.set i (c[i].1,X'))[j]=c[j]):=λj n=>by
  by_cases l:j=i;.subst l;exact .inl ⟨rfl,by simp⟩
  .exact .inr ⟨by simpa using n,l,List.getElem_set_ne (iw l) _⟩
 have v:(c.set i (c[i].1,X')).length=c.length:=ew ..;refine⟨J,⟨c.set i (c[i].1,X'),H,G,F,Z,a,b',L,R,N,S,?_,?_,λj n=>?_,λj k n r Q u h=>?_,λj n u h=>?_,λj n u h=>?_,λk r=>?_,λj n u h=>?_,p.bF,λk r=>?_,p.bP,?_,?_,?_⟩,⟨y.os,y.tape,y.output,y.size,λk q O=>y.block k q (λd=>O ?_)⟩⟩
 .rw [v]
  have l:(c.set i (c[i].1,X')).map (λX=>qu X.1)=c.map λX=>qu X.1:=by
   rw [lU];apply mB (by simp);intro j g h2;simp only [mE,ia];split
   next m=>subst m;rfl
   next=>rfl
  rw [l]
  exact y.owns p.row (λk q d=>by
   have g:=p.rowF k q;rcases d with d|d|d;.exact p.rsep i B k d q
   .exact g.2.1 d
   .exact g.2.2.1 d)
 .rw [v];exact I
 .rcases o j n with⟨l,m⟩|⟨f,l,m⟩;.subst l;rw [m];exact M
  .rw [m];refine((p.one j f).kept y (λk q d=>?_)).later (by omega);rcases d with d|d|d;.exact p.apart i j B f (iw l) k d q
   .exact(p.sep j f k q).2.1 d
   .exact(p.sep j f k q).2.2 d
 .rcases o j n with⟨l,m⟩|⟨f,l,m⟩<;>rcases o k r with⟨T,U⟩|⟨A,T,U⟩<;>rw [m] at h<;>rw [U]
  .omega
  .intro d;rcases C u h with g|g;.exact p.apart i k B A (iw T) u g d
   .have:=z k A u d;omega
  .intro d;rcases C u d with g|g;.exact p.apart j i f B l u h g
   .have:=z j f u h;omega
  .exact p.apart j k f A Q u h
 .rcases o j n with⟨l,m⟩|⟨f,l,m⟩<;>rw [m] at h
  .exact P u h
  .refine⟨(p.sep j f u h).1,λd=>?_,(p.sep j f u h).2.2⟩;rcases E u d with g|g;.exact(p.sep j f u h).2.1 g
   .have:=z j f u h;omega
 .rw [v];intro d;rcases o j n with⟨l,m⟩|⟨f,l,m⟩<;>rw [m] at h
  .rcases C u h with g|g;.exact p.rsep i B u g d
   .have:=D u d;omega
  .exact p.rsep j f u h d
 .rw [v] at r;have g:=p.rowF k r;refine⟨g.1,λd=>?_,g.2.2⟩;rcases E k d with h2|h2;.exact g.2.1 h2
  .have:=D k r;omega
 .rcases o j n with⟨l,m⟩|⟨f,l,m⟩<;>rw [m] at h
  .rcases C u h with g|g;.exact p.bX i B u g
   .omega
  .exact p.bX j f u h
 .rcases E k r with g|g;.exact p.bH k g
  .omega
 .have:=p.fewE;omega
 .have:=p.fewV;omega
 .rw [v];have:=p.fewO;omega
 .rcases d with d|d|d;.exact p.bX i B k d
  .exact p.bH k d
  .rw [d];exact p.bP
end law
namespace ref
theorem jp.inj{vs:List zB}(h:jp vs){i j:Nat}(c:i<vs.length)(b:j<vs.length)(e:vs[i].key=vs[j].key/\vs[i].num=vs[j].num):i=j:=by
 rcases Nat.lt_trichotomy i j with a|a|a;.exact absurd e (eB.1 h i j c b a)
 .exact a
 .exact absurd ⟨e.1.symm,e.2.symm⟩ (eB.1 h j i b c a)
structure KX (vs:List zB) (f:zB->Bool) (L:List zB) (tk:Nat->Bool) (j:Nat):Prop where
 sorted:L.Pairwise λa b=>a.ahead b=true
 perm:L.Perm (vs.filter f)
 apart:jp vs
 le:j<=L.length
 is:∀i (hi:i<vs.length),tk i=true↔vs[i]∈L.take j
def kI(vs:List zB)(f:zB->Bool)(tk:Nat->Bool)(i:Nat)(b:Int):Prop:=
 (b= -1/\∀c (hc:c<vs.length),c<i->tk c=false->f vs[c]=false)\/
  ∃m,∃hm:m<vs.length,b=(m:Int)/\m<i/\tk m=false/\f vs[m]=true/\∀c (hc:c<vs.length),c<i->tk c=false->f vs[c]=true->c=m\/vs[m].ahead vs[c]=true
theorem kI.start(vs:List zB)(f:zB->Bool)(tk:Nat->Bool):kI vs f tk 0 (-1):=.inl ⟨rfl,λc _ h=>by omega⟩
section
variable {vs:List zB} {f:zB->Bool} {L:List zB} {tk:Nat->Bool} {i j:Nat} {b:Int}
theorem kI.skip(h:kI vs f tk i b)(s:i<vs.length)(j:tk i=true\/f vs[i]=false):kI vs f tk (i+1) b:=by
 have l:tk i=false->f vs[i]=true->False:=λg h2=>by rcases j with j|j<;>simp_all
 rcases h with⟨g,h2⟩|⟨m,p,g,h2,o,q,r⟩
 .refine .inl ⟨g,λc k n a=>?_⟩;rcases iJ c i with d|d;.exact h2 c k d a
  .obtain rfl:c=i:=by omega
   cases e:f vs[c] with
   |false=>rfl
   |true=>exact(l a e).elim
 .refine .inr ⟨m,p,g,by omega,o,q,λc k n a e=>?_⟩;rcases iJ c i with d|d;.exact r c k d a e
  .obtain rfl:c=i:=by omega
   exact(l a e).elim
theorem kI.first(h:kI vs f tk i (-1))(k:i<vs.length)(g:tk i=false)(e:f vs[i]=true):kI vs f tk (i+1) (i:Int):=by
 rcases h with⟨_,h2⟩|⟨m,n,o,_⟩
 .refine .inr ⟨i,k,rfl,by omega,g,e,λc j l d a=>?_⟩;rcases iJ c i with b|b;.rw [h2 c j b d] at a;cases a
  .exact .inl (by omega)
 .omega
theorem kI.other{m:Nat}(u:jp vs)(h:kI vs f tk i (m:Int))(o:i<vs.length)(t:m<vs.length)(r:tk i=false)(q:f vs[i]=true):kI vs f tk (i+1) (if vs[i].ahead vs[m]=true then (i:Int) else (m:Int)):=by
 rcases h with⟨w,_⟩|⟨j,l,w,h2,s,v,p⟩;.omega
 .obtain rfl:j=m:=by omega
  by_cases a:vs[i].ahead vs[j]=true
  .rw [aB a];refine .inr ⟨i,o,rfl,by omega,r,q,λc k n g b=>?_⟩;rcases iJ c i with d|d
   .rcases p c k d g b with rfl|x;.exact .inr a
    .exact .inr (zB.ahead_trans a x)
   .exact .inl (by omega)
  .rw [aw a];refine .inr ⟨j,t,rfl,by omega,s,v,λc k n g b=>?_⟩;rcases iJ c i with d|d;.exact p c k d g b
   .obtain rfl:c=i:=by omega
    refine .inr (zB.ahead_total (λe=>?_) a);have:=u.inj o l e;omega
theorem KX.mem(h:KX vs f L tk j){v:zB}:v∈L↔v∈vs/\f v=true:=by rw [h.perm.mem_iff,ei]
theorem KX.left(h:KX vs f L tk j)(d:j<L.length):∃c,∃a:c<vs.length,vs[c]=L[j]/\tk c=false/\f vs[c]=true:=by
 have b:=(h.mem).1 (ai d);obtain⟨c,a,e⟩:=ed b.1;refine⟨c,a,e,?_,by rw [e];exact b.2⟩
 cases k:tk c with
 |false=>rfl
 |true=>
  have g:=(h.is c a).1 k;rw [e] at g;obtain⟨q,m,l⟩:=i8.1 g;have i:=eB.1 h.sorted q j (by omega) d (by omega);rw [l] at i;exact absurd i (zB.ahead_irrefl _)
theorem KX.end_(h:KX vs f L tk j)(g:kI vs f tk vs.length (-1)):L.length=j:=by
 have i:=h.le;rcases iJ j L.length with a|a
 .obtain⟨c,e,_,h2,d⟩:=h.left a;rcases g with⟨_,b⟩|⟨m,_,b,_⟩;.rw [b c e e h2] at d;cases d
  .omega
 .omega
theorem KX.next{m:Nat}(h:KX vs f L tk j)(i:m<vs.length)(t:kI vs f tk vs.length (m:Int)):∃e:j<L.length,L[j]=vs[m]/\KX vs f L (λc=>decide (c=m)||tk c) (j+1):=by
 rcases t with⟨x,_⟩|⟨d,A,x,h2,o,w,y⟩;.omega
 .obtain rfl:d=m:=by omega
  have l:vs[d]∈L:=h.mem.2 ⟨ai i,w⟩;obtain⟨q,u,k⟩:=ed l
  have B:j<=q:=by
   rcases iJ q j with g|g
   .have:vs[d]∈L.take j:=by rw [<-k];exact i8.2 ⟨q,by omega,rfl⟩
    rw [(h.is d i).2 this] at o;cases o
   .exact g
  have e:j<L.length:=by omega
  have r:L[j]=vs[d]:=by
   obtain⟨c,b,p,z,v⟩:=h.left e;rcases y c b b z v with rfl|g;.exact p.symm
   .rcases iJ j q with s|s
    .have n:=eB.1 h.sorted j q e u s;rw [k,<-p] at n;exact absurd g (zB.ahead_asymm n)
    .obtain rfl:j=q:=by omega
     exact k
  refine⟨e,r,h.sorted,h.perm,h.apart,by omega,λc b=>?_⟩;rw [ao e,ah,az,r];simp only [iY,aR];constructor
  .rintro(rfl|a);.exact .inr rfl
   .exact .inl ((h.is c b).1 a)
  .rintro(a|a);.exact .inr ((h.is c b).2 a)
   .exact .inl (h.apart.inj b i (by rw [a];exact⟨rfl,rfl⟩))
end
end ref
namespace law
open Go.ChangeShapes Go.WideShapes Go.ChangeAt Go.RowKit disk ref book
open keys (zh ze zy zs zq)
variable {tk:Nat->Bool}{m ib cap j:Nat}{w wr:World}{F G:Nat->Prop}{vs L:List zB}{last:Int}{a:Option Addr}{cs:List (List Value)}{f:zB->Bool}
def Qc(n:Nat)(tk:Nat->Bool):List Value:=(List.range n).map λi=>Value.bool (tk i)
theorem Vq{n:Nat}{i:Nat}(h:i<n):(Qc n tk)[i]? =some (.bool (tk i)):=by simp [Qc,h]
theorem UO{n:Nat}:(Qc n tk).toArray.setIfInBounds m (.bool true)=(Qc n (λc=>decide (c=m)||tk c)).toArray:=by
 apply Array.ext;.simp [Qc]
 .intro i a h2;simp only [List.setIfInBounds_toArray,List.getElem_toArray,mE];have b:i<n:=by simpa [Qc] using h2
  by_cases e:m=i;.subst e;simp [Qc]
  .rw [aw e];simp [Qc,iw e]
def Vr(wr:World)(b:Nat):Nat:=match wr.cell? ⟨b,0,none⟩ with
 |some (.slice _ n _)=>n
 |_=>0
structure KY (w:World) (F G:Nat->Prop) (ib:Nat) (vs:List zB) (last:Int) (a:Option Addr) (cap:Nat) (cs:List (List Value)) (f:zB->Bool) (L:List zB) (m j:Nat) (tk:Nat->Bool) (wr:World):Prop where
 sel:KX vs f L tk j
 jm:j<=m
 ref:yc wr F G ib vs last a cap cs
 pg:∃va vc,wr.heap[w.heap.size+1]? =some (.cells #[.slice va j vc,.bool false] 90 (0,0))/\wr.ownsRow 0 94 4 (.slice va j vc) j (qr (L.take j))/\∀k,(Value.slice va j vc).ownBlock=some k->w.heap.size+3<=k
 tk:wr.heap[w.heap.size+2]? =some (.cells (Qc vs.length tk).toArray 4 (0,0))
 res:wr.heap[w.heap.size]? =some (.cells #[.slice none 0 0,.bool false] 90 (0,0))
 kept:za (λk=>w.heap.size<=k) w wr
 size:w.heap.size+3<=wr.heap.size
theorem KY.kept0{b:World}(h:KY w F G ib vs last a cap cs f L m j tk wr)(k:za (λ_=>False) wr b):KY w F G ib vs last a cap cs f L m j tk b:=by
 obtain⟨d,c,e,h2,g⟩:=h.pg;have i:=h.size;exact⟨h.sel,h.jm,h.ref.kept k nF nF,⟨d,c,(k.block _ (by omega) id).trans e,k.owns h2 nF,g⟩,(k.block _ (by omega) id).trans h.tk,(k.block _ (by omega) id).trans h.res,h.kept.trans k fE,aD i k.size⟩
theorem KY.more{A n:World}{r:Option Addr}{s d o mb:Nat}{v:zB}(h:KY w F G ib vs last a cap cs f L m j tk wr)(hF:∀k,F k->k<w.heap.size)(E:∀k,G k->k<w.heap.size)(u:j<m)(N:mb<vs.length)(t:j<L.length)(e:L[j]=v)(J:KX vs f L (λc=>decide (c=mb)||tk c) (j+1))
 (H:wr.heap[w.heap.size+1]? =some (.cells #[.slice r j s,.bool false] 90 (0,0))) (g:∀k,(Value.slice r j s).ownBlock=some k->w.heap.size+3<=k) (b:za (λk=>k=w.heap.size+2) wr A) (y:A.heap[w.heap.size+2]? =some (.cells (Qc vs.length (λc=>decide (c=mb)||tk c)).toArray 4 (0,0))) (i:za (λk=>(Value.slice r j s).ownBlock=some k) A n) (D:n.ownsRow 0 94 4 (.slice (some ⟨d,0,none⟩) (j+1) o) (j+1) (qr (L.take j)++ZG v)) (B:(Value.slice r j s).ownBlock=some d\/d=wr.heap.size+1+1):
 KY w F G ib vs last a cap cs f L m (j+1) (λc=>decide (c=mb)||tk c) (n.setCell ⟨w.heap.size+1,0,none⟩ (.slice (some ⟨d,0,none⟩) (j+1) o)):=by
 have R:=h.size;have M:=b.size;have K:=i.size;have x:n.heap[w.heap.size+1]? =_:=(i.block _ (by omega) (λl=>by have:=g _ l;omega)).trans ((b.block _ (by omega) (by omega)).trans H);have I:=heap_setCell_same n (w.heap.size+1) 0 _ _ (.slice (some ⟨d,0,none⟩) (j+1) o) x;have p:=za.setCell (S:=λk=>k=w.heap.size+1) n ⟨w.heap.size+1,0,none⟩ (.slice (some ⟨d,0,none⟩) (j+1) o) rfl
 have O:w.heap.size+3<=d:=by
  rcases B with z|z;.exact g d z
  .omega
 generalize (n.setCell ⟨w.heap.size+1,0,none⟩ (.slice (some ⟨d,0,none⟩) (j+1) o))=Q at*;have q:za (λk=>w.heap.size<=k) wr Q:=((b.mono (λk b=>by omega)).trans i (λk b=>.inl (by have:=g k b;omega))).trans p (λk b=>.inl (by omega));refine⟨J,u,h.ref.kept q (λk b l=>by have:=hF k b;omega) (λk b l=>by have:=E k b;omega),⟨some ⟨d,0,none⟩,o,I,?_,λk b=>?_⟩,?_,?_,h.kept.trans q (λk b=>.inl b),by have:=p.size;omega⟩
 .have C:qr (L.take (j+1))=qr (L.take j)++ZG v:=by
   rw [ao t,e];simp [qr]
  rw [C];exact p.owns D (λk b P=>by simp [Value.ownBlock] at b;omega)
 .simp [Value.ownBlock] at b;omega
 .exact(p.block _ (by omega) (by omega)).trans ((i.block _ (by omega) (λl=>by have:=g _ l;omega)).trans y)
 .exact(p.block _ (by omega) (by omega)).trans ((i.block _ (by omega) (λl=>by have:=g _ l;omega)).trans ((b.block _ (by omega) (by omega)).trans h.res))
theorem KY.len(h:KY w F G ib vs last a cap cs f L m j tk wr):Vr wr (w.heap.size+1)=j:=by
 obtain⟨d,c,b,_⟩:=h.pg;unfold Vr;rw [aG wr _ 0 _ _ _ b];rfl
theorem Tryz.infoBool:(Tryz.prog.info? 4).map (λi=>(i.zero,i.size,i.bytes))=some (some (.bool false),1,1):=by kernel_rfl
theorem Tryz.infoVer:(Tryz.prog.info? 94).map (λi=>(i.zero,i.size,i.bytes))=some (some (.agg #[.string ⟨#[]⟩,.int .i64 0,.bool false,.int .i64 0]),4,40):=by kernel_rfl
theorem j7{P:Program}{fn:Func}{p u:Tmp}{a:TypeId}(h:fn.results=#[.cell p a,.tmp u])(tmps:Array Value)(w:World)(g:Nat)(t:TypeId)(cs:Array Value)(c:Nat×Nat)(d:TypeDesc)
 (e:tmps.getD p undef=.pointer (some ⟨g,0,none⟩)) (j:w.heap[g]? =some (.cells cs t c))
 (i:P.underlying a=some d) (f:(match d with|.struct _|.array _ _=>true|_=>false)=true) (k:(P.info? a).map (·.size)=some cs.size):
 (results fn tmps).run P w=.ok (.tuple #[.agg cs,tmps.getD u undef]) w:=by
 have b:tmps[p]?.getD undef=.pointer (some ⟨g,0,none⟩):=by simpa using e
 simp [results,h,b,asAddr,run_loadVar_row w g t a cs c d j i f k]
theorem GV(n k:Nat)(h:k=n):madeCells (Value.bool false).cells k=(Qc n (λ_=>false)).toArray:=by
 subst h;apply Array.ext;.simp [madeCells,Qc]
 .intro i a h2;simp [madeCells,Qc,Value.cells,Nat.mod_one]
theorem Db(w:World)(a b c:Obj):(((w.alloc a).alloc b).alloc c).heap[w.heap.size]? =some a/\(((w.alloc a).alloc b).alloc c).heap[w.heap.size+1]? =some b/\(((w.alloc a).alloc b).alloc c).heap[w.heap.size+2]? =some c/\za (λ_=>False) w (((w.alloc a).alloc b).alloc c)/\(((w.alloc a).alloc b).alloc c).heap.size=w.heap.size+3:=by
 have k3:=za.alloc (λ_=>False) ((w.alloc a).alloc b) c;have k2:=za.alloc (λ_=>False) (w.alloc a) b;have g:(w.alloc a).heap.size=w.heap.size+1:=by simp
 have f:((w.alloc a).alloc b).heap.size=w.heap.size+2:=by simp
 have e:=ac (w.alloc a) b;have d:=ac ((w.alloc a).alloc b) c;rw [g] at e;rw [f] at d;exact⟨(k3.block _ (by omega) id).trans ((k2.block w.heap.size (by simp) id).trans (ac w _)),(k3.block _ (by omega) id).trans e,d,((za.alloc _ _ _).trans k2 iL).trans k3 iL,by simp⟩
def Dj(w:World)(L:List zB)(m:Nat)(e:Ending)(w':World):Prop:=∃x more,e=.returned (.tuple #[.agg #[x,.bool more],.int .i64 0])/\gB w w' L m x more/\za (λ_=>False) w w'
theorem Vs(w A:World)(L:List zB)(m j:Nat)(b:Bool)(c:Option Addr)(e:Nat)(a:Act)(i:L.take m=L.take j)(u:j<=L.length)(s:b=decide (m<L.length))(t:A.heap[w.heap.size]? =some (.cells #[.slice none 0 0,.bool false] 90 (0,0)))(r:A.ownsRow 0 94 4 (.slice c j e) j (qr (L.take j)))(f:∀k,(Value.slice c j e).ownBlock=some k->w.heap.size+3<=k)(d:za (λk=>w.heap.size<=k) w A)(q:a.defers=[])(h:a.tmps.getD 10 undef=.pointer (some ⟨w.heap.size,0,none⟩))(l:a.tmps.getD 11 undef=.int .i64 0):
 bodyPost Tryz.prog Tryz.f108 (Dj w L m) .ret a ((A.setCell ⟨w.heap.size,0,none⟩ (.slice c j e)).setCell ⟨w.heap.size,1,none⟩ (.bool b)):=by
 have n:=heap_setCell_same A w.heap.size 0 _ _ (.slice c j e) t;have o:=heap_setCell_same _ w.heap.size 1 _ _ (.bool b) n;have p:za (λj=>j=w.heap.size) A ((A.setCell ⟨w.heap.size,0,none⟩ (.slice c j e)).setCell ⟨w.heap.size,1,none⟩ (.bool b)):=(za.setCell (S:=λj=>j=w.heap.size) A ⟨w.heap.size,0,none⟩ _ rfl).trans (za.setCell (S:=λj=>j=w.heap.size) _ ⟨w.heap.size,1,none⟩ _ rfl) iL;generalize ((A.setCell ⟨w.heap.size,0,none⟩ (.slice c j e)).setCell ⟨w.heap.size,1,none⟩ (.bool b))=y at*;have g:(L.take m).length=j:=by rw [i,aC];omega
 refine bodyPost_ret (v:=.tuple #[.agg #[.slice c j e,.bool b],.int .i64 0]) ((j7 Tryz.results108 _ _ w.heap.size 90 _ (0,0) _ h o Tryz.underlying90 rfl (by kernel_rfl)).trans (by rw [l];rfl)) q ⟨_,_,rfl,⟨s,c,e,by rw [g],?_,?_⟩,?_⟩
 .rw [g,i];exact p.owns r (λk d x=>by have:=f k d;omega)
 .rw [g];exact λk d=>by have:=f k d;omega
 .exact((za.refl (λ_=>False) w).trans d (λk d=>.inr d)).trans p (λk d=>.inr (by omega))
theorem Vt(w:World)(F G:Nat->Prop)(ib:Nat)(vs:List zB)(last:Int)(h:zG w F G ib vs last)(hF:∀k,F k->k<w.heap.size)(a6:∀k,G k->k<w.heap.size)(hap:jp vs)(bD:vs.length<=6000)(aq:∀v∈vs,v.key.size<=9223372036854775807)(p k:ByteArray)(n:Int)(m:Nat)(bj:p.size<=maxLen)(x:k.size<=maxLen)(bi:qH p k n m=0)(bx:m<=1000)(L:List zB)(aU:yz vs p k n L):
 Calls Tryz.prog 108 #[.pointer (some ⟨ib,0,none⟩),.string p,.string k,.int .i64 n,.int .i64 (m:Int)] w (Dj w L m):=by
 obtain⟨a,cap,cs,ab⟩:=h;have bM:=ab.lt;have a4:p.size<=9223372036854775807:=by unfold maxLen at bj;omega
 have a3:k.size<=9223372036854775807:=by unfold maxLen at x;omega
 obtain⟨f,aR⟩:∃f:zB->Bool,f=λv=>qW v p k n:=⟨_,rfl⟩;have am:Hid (KX vs f L (λ_=>false) 0):=⟨aU.sorted,by rw [aR];exact aU.perm,hap,aj _,λi bZ=>by simp⟩;have bl:Hid (∀v,qW v p k n=f v):=λv=>by rw [aR]
 change Hid _ at ab hF a6 aq bi;clear hap aU aR;obtain⟨ar,J,H,K,I⟩:=yy Tryz.infoVer;have T:Hid (Tryz.prog.info? 94=some ar/\ar.zero=some (.agg #[.string ⟨#[]⟩,.int .i64 0,.bool false,.int .i64 0])/\ar.size=4/\ar.bytes=40):=⟨J,H,K,I⟩;clear J H K I;obtain⟨bp,J,H,K,I⟩:=yy Tryz.infoBool
 have bK:∀aZ:World,(Instr.makeSlice 39 (.int .i64 (vs.length:Int)) (.int .i64 (vs.length:Int))).run Tryz.prog aZ=.ok (.slice (some ⟨aZ.heap.size,0,none⟩) vs.length vs.length) (aZ.alloc (.cells (Qc vs.length (λ_=>false)).toArray 4)):=λaZ=>by have:=run_make (P:=Tryz.prog) aZ 39 4 bp _ Tryz.underlying39 J H .i64 .i64 (vs.length:Int) (vs.length:Int) (by omega) (by omega) (by rw [I];omega) (by omega);rw [this,GV vs.length _ (by rw [K];omega)];rfl
 clear J H K I;go_enter Tryz.func108,Tryz.ntmps108;have b2:=ab.c0;go_wp2_with (go_at_call 155;refine(vX _ p k bj x n m).mono ?_;rintro e af ⟨rfl,U⟩;rw [U,bi.out];clear U af);obtain⟨bb,bc,bf,k3,bu⟩:=Db w (.cells #[.slice none 0 0,.bool false] 90) (.cells #[.slice none 0 0,.bool false] 90) (.cells (Qc vs.length (λ_=>false)).toArray 4);have bm:Hid (KY w F G ib vs last a cap cs f L m 0 (λ_=>false) (((w.alloc (.cells #[.slice none 0 0,.bool false] 90)).alloc (.cells #[.slice none 0 0,.bool false] 90)).alloc (.cells (Qc vs.length (λ_=>false)).toArray 4))):=⟨am,aj _,ab.kept k3 nF nF,⟨none,0,bc,aV _ 0 94 4,λk x=>by cases x⟩,bf,bb,k3.mono fE,by omega⟩;clear bb bc bf k3 bu;generalize (((w.alloc (.cells #[.slice none 0 0,.bool false] 90)).alloc (.cells #[.slice none 0 0,.bool false] 90)).alloc (.cells (Qc vs.length (λ_=>false)).toArray 4))=aZ at*;go_loopw [15] (λ_ wr=>∃j tk,KY w F G ib vs last a cap cs f L m j tk wr) (λ_ wr=>L.length-Vr wr (w.heap.size+1))
 case atStart=>exact⟨0,_,bm⟩
 case round=>
  obtain⟨j,tk,ah⟩:=hrel;change Hid _ at ah;go_wp2_with fail;have bd:Hid _:=ah.len;go_loopw [15,16] (λb i bt=>∃(c:Nat) (z:Int),c<=vs.length/\i=.int .i64 c/\b=.int .i64 z/\kI vs f tk c z/\KY w F G ib vs last a cap cs f L m j tk bt) (λ_ i _=>vs.length-(intOf i).toNat)
  case atStart=>exact⟨0, -1,aj _,rfl,rfl,kI.start _ _ _,ah⟩
  case round=>
   obtain⟨c,z,a7,rfl,rfl,V,d⟩:=hrel;have B:Hid (kI vs f tk c z):=V;change Hid _ at d;clear V;have aX:=d.ref.c0;by_cases r:c<vs.length
   .obtain⟨g,rfl⟩:=d.ref.rowAt (by omega);obtain⟨av,au,ax,ao,t,aw,_⟩:=d.ref.cells c r;have al:=aq.out _ (ai r);have bL:(c:Int)<(vs.length:Int):=by omega
    obtain⟨v,O⟩:∃v,v=vs[c]:=⟨_,rfl⟩;rw [<-O] at av au ax aw al;have ag:Hid _:=O;clear O;go_wp2_with fail;refine(Y6 _ v _ rfl al p k a4 a3 n).mono ?_;rintro e af ⟨rfl,aO⟩;rw [bl.out v];have q:Hid (KY w F G ib vs last (some ⟨g,0,none⟩) cap cs f L m j tk af):=d.kept0 aO;clear aO av au ax aw aX;have ut:af.cell? ⟨w.heap.size+2,c,none⟩=some (.bool (tk c)):=by rw [aG af _ c _ _ _ q.tk];simpa using Vq r
    cases D:tk c with
    |true=>
     rw [D] at ut;have R:Hid (tk c=true):=D;clear D;go_wp2;go_roundw
     case rel=>exact⟨c+1,z,by omega,by go_num,rfl,B.skip r (.inl R),q⟩
     case measure=>simp [intOf];omega
    |false=>
     rw [D] at ut;have R:Hid _:=D;clear D
     cases Z:f v with
     |false=>
      have Y:Hid _:=Z;clear Z;go_wp2;go_roundw
      case rel=>exact⟨c+1,z,by omega,by go_num,rfl,B.skip r (.inr (by rw [<-ag.out];exact Y)),q⟩
      case measure=>simp [intOf];omega
     |true=>
      have Y:Hid (f vs[c]=true):=(by rw [<-ag.out];exact Z);clear Z;by_cases N:z<0
      .have X:Hid (kI vs f tk (c+1) c):=by
        have aQ:=B.out;rcases B.out with⟨rfl,_⟩|⟨_,_,rfl,_⟩;.exact aQ.first r R Y.out
        .omega
       go_wp2;go_roundw
       case rel=>exact⟨c+1,c,by omega,by go_num,rfl,X,q⟩
       case measure=>simp [intOf];omega
      .obtain⟨mb,l,rfl⟩:∃mb:Nat,mb<vs.length/\z=mb:=by
        rcases B.out with⟨rfl,_⟩|⟨mb,l,rfl,_⟩;.omega
        .exact⟨mb,l,rfl⟩
       have X:Hid _:=kI.other am.apart B r l R Y.out;obtain⟨bn,bk,a2,bs,ba,a0,_⟩:=q.ref.cells c r;obtain⟨aX,bA,bw,bv,a5,bq,_⟩:=q.ref.cells mb l;have a9:=aq.out _ (ai l);have u0:=q.ref.c0;have bg:(mb:Int)<(vs.length:Int):=by omega
       have a1:=decide_eq_false N;have aB:=q.ref.lt;have s:=(q.ref.row.lt g rfl).2;rw [<-ag.out] at bn bk a2 a0
       have aF:Hid (kI vs f tk (c+1) (if v.ahead vs[mb]=true then (c:Int) else (mb:Int))):=by have:=X.out;rw [<-ag.out] at this;exact this
       clear X;generalize vs[mb]=u at*;go_wp2_with fail;go_region_held3 (λw'=>w'.cell? ⟨ib,0,none⟩=some (.slice (some ⟨g,0,none⟩) vs.length cap)/\w'.cell? ⟨g,c*4,none⟩=some (.string v.key)/\w'.cell? ⟨g,c*4+1,none⟩=some (.int .i64 v.num)/\w'.cell? ⟨g,c*4+2,none⟩=some (.bool v.mark)/\w'.cell? ⟨g,c*4+3,none⟩=some (.slice bs v.body.length ba)/\w'.cell? ⟨g,mb*4,none⟩=some (.string u.key)/\w'.cell? ⟨g,mb*4+1,none⟩=some (.int .i64 u.num)/\w'.cell? ⟨g,mb*4+2,none⟩=some (.bool u.mark)/\w'.cell? ⟨g,mb*4+3,none⟩=some (.slice bv u.body.length a5)) (go_keep) ((go_at_call 157;refine(JW _ v u _ _ rfl rfl al a9).mono ?_;rintro e b7 ⟨rfl,aE⟩;have o:=(za.drew (λ_=>False) af).trans aE iL;have aK:Hid _:=q.kept0 o;have bP:=(o.cell (a:=⟨ib,0,none⟩) aB id).trans u0;have bY:=(o.cell (a:=⟨g,c*4,none⟩) s id).trans bn;have b4:=(o.cell (a:=⟨g,c*4+1,none⟩) s id).trans bk;have bV:=(o.cell (a:=⟨g,c*4+2,none⟩) s id).trans a2;have bO:=(o.cell (a:=⟨g,c*4+3,none⟩) s id).trans a0;have bS:=(o.cell (a:=⟨g,mb*4,none⟩) s id).trans aX;have b6:=(o.cell (a:=⟨g,mb*4+1,none⟩) s id).trans bA;have bR:=(o.cell (a:=⟨g,mb*4+2,none⟩) s id).trans bw;have bW:=(o.cell (a:=⟨g,mb*4+3,none⟩) s id).trans bq;clear aE o))
       cases aL:v.ahead u with
       |true=>
        go_wp2;go_roundw
        case rel=>exact⟨c+1,c,by omega,by go_num,rfl,by have:=aF.out;rw [aL] at this;exact this,aK⟩
        case measure=>simp [intOf];omega
       |false=>
        go_wp2;go_roundw
        case rel=>exact⟨c+1,mb,by omega,by go_num,rfl,by have:=aF.out;rw [aL] at this;exact this,aK⟩
        case measure=>simp [intOf];omega
   .have be:c=vs.length:=by omega
    subst be;obtain⟨M,Q,C,ad,y⟩:=d.pg;change Hid _ at C ad y;have br:wr.cell? ⟨w.heap.size+1,0,none⟩=some (.slice M j Q):=cR C.out rfl;have b1:wr.cell? ⟨w.heap.size+1,1,none⟩=some (.bool false):=cR C.out rfl;have b0:wr.cell? ⟨w.heap.size,0,none⟩=some (.slice none 0 0):=cR d.res rfl;have bT:wr.cell? ⟨w.heap.size,1,none⟩=some (.bool false):=cR d.res rfl;have b3:=aa wr (w.heap.size) 0 _ _ d.res;have bX:=aa wr (w.heap.size) 1 _ _ d.res;have b5:=aa wr (w.heap.size+1) 1 _ _ C.out;have aB:=d.size;by_cases N:z<0
    .have a1:=aJ N
     have aS:Hid (L.length=j):=by
      have aQ:=B.out;rcases B.out with⟨rfl,_⟩|⟨_,_,rfl,_⟩;.exact d.sel.end_ aQ
      .omega
     go_wp2;exact Vs w wr L m j false M Q _ (by rw [an (by have:=d.jm;have:=aS.out;omega),an (by have:=aS.out;omega)]) d.sel.le (by have:=d.jm;have:=aS.out;exact(decide_eq_false (by omega)).symm) d.res ad y d.kept rfl rfl rfl
    .obtain⟨mb,l,rfl⟩:∃mb:Nat,mb<vs.length/\z=mb:=by
      rcases B.out with⟨rfl,_⟩|⟨mb,l,rfl,_⟩;.omega
      .exact⟨mb,l,rfl⟩
     obtain⟨aM,aH,ak⟩:=d.sel.next l B.out;change Hid _ at ak aH;have bG:=d.jm;by_cases a8:j=m
     .subst a8;go_wp2;have aW:=za.setCell (S:=λk=>k=w.heap.size+1) wr ⟨w.heap.size+1,1,none⟩ (.bool true) rfl;exact Vs w _ L j j true M Q _ rfl (by omega) (aJ aM).symm ((aW.block _ (by omega) (by omega)).trans d.res) (aW.owns ad (λk x bo=>by have:=y.out k x;omega)) y (d.kept.trans aW (λk x=>.inl (by omega))) rfl rfl rfl
     .have bI:=beq_false_of_ne (by omega);obtain⟨g,rfl⟩:=d.ref.rowAt (by omega);obtain⟨av,au,ax,ao,t,aw,_⟩:=d.ref.cells mb l;have bg:(mb:Int)<(vs.length:Int):=by omega
      obtain⟨v,O⟩:∃v,v=vs[mb]:=⟨_,rfl⟩;rw [<-O] at av au ax aw;have ag:Hid _:=O;clear O;have ut:wr.cell? ⟨w.heap.size+2,mb,none⟩=some (.bool (tk mb)):=by rw [aG wr _ mb _ _ _ d.tk];simpa using Vq l
      have uf:=aa wr (w.heap.size+2) mb _ _ d.tk;have bF:=hF.out g (d.ref.foot2 g rfl);have bC:¬ib=w.heap.size+2:=by omega
      have bB:¬g=w.heap.size+2:=by omega
      have U:w.heap.size+1<wr.heap.size:=by omega
      have bE:¬w.heap.size+1=wr.heap.size:=by omega
      obtain⟨A,ae⟩:∃A,A=wr.setCell ⟨w.heap.size+1+1,mb,none⟩ (.bool true):=⟨_,rfl⟩;have aY:za (λk=>k=w.heap.size+2) wr A:=by rw [ae];exact za.setCell wr ⟨w.heap.size+1+1,mb,none⟩ (.bool true) rfl
      have aP:A.heap[w.heap.size+2]? =some (.cells (Qc vs.length (λc=>decide (c=mb)||tk c)).toArray 4 (0,0)):=by rw [ae,<-UO];exact heap_setCell_same wr (w.heap.size+2) mb _ _ (.bool true) d.tk
      have aT:A.heap.size=wr.heap.size:=by rw [ae];simp
      have bJ:(wr.setCell ⟨w.heap.size+1+1,mb,none⟩ (.bool true)).cell? ⟨w.heap.size+1,0,none⟩=some (.slice M j Q):=by rw [<-ae,aY.cell (a:=⟨w.heap.size+1,0,none⟩) U (by show ¬w.heap.size+1=w.heap.size+2;omega)];exact br
      have E:Hid (za (λk=>k=w.heap.size+2) wr ((A.alloc (.cells #[.string v.key,.int .i64 v.num,.bool v.mark,.slice ao v.body.length t] 123)).alloc (.cells #[.string v.key,.int .i64 v.num,.bool v.mark,.int .i64 (v.body.length:Int)] 94))):=(aY.trans (za.alloc (λk=>k=w.heap.size+2) _ _) iL).trans (za.alloc (λk=>k=w.heap.size+2) _ _) iL;have aC:Hid (((A.alloc (.cells #[.string v.key,.int .i64 v.num,.bool v.mark,.slice ao v.body.length t] 123)).alloc (.cells #[.string v.key,.int .i64 v.num,.bool v.mark,.int .i64 (v.body.length:Int)] 94)).heap[w.heap.size+2]? =_):=(((za.alloc (λ_=>False) _ _).trans (za.alloc (λ_=>False) _ _) iL).block _ (by rw [aT];omega) id).trans aP
      have az:Hid (((A.alloc (.cells #[.string v.key,.int .i64 v.num,.bool v.mark,.slice ao v.body.length t] 123)).alloc (.cells #[.string v.key,.int .i64 v.num,.bool v.mark,.int .i64 (v.body.length:Int)] 94)).heap[wr.heap.size+1]? =some (.cells (ZG v).toArray 94 (0,0))):=by have:=ac (A.alloc (.cells #[.string v.key,.int .i64 v.num,.bool v.mark,.slice ao v.body.length t] 123)) (.cells #[.string v.key,.int .i64 v.num,.bool v.mark,.int .i64 (v.body.length:Int)] 94);rw [World.size_alloc,aT] at this;exact this
      rw [ae] at E aC az;clear ae aY aP aT;have aD:=E.owns ad (λk x bo=>by have:=y.out k x;omega);change Hid _ at aD;go_wp2_with (refine wpList_append_lies _ rfl (.tmp 104) (.tmp 115) 44 rfl 0 94 ar _ 4 40 Tryz.underlying44 T.1 T.2.1 T.2.2.1 T.2.2.2 rfl (by omega) (.slice M j Q) j (qr (L.take j)) (by rfl) (by exact aD) ⟨wr.heap.size+1,0,none⟩ 1 1 (ZG v) (by rfl) (by rfl) (by exact World.news_of_block az) (by simp [ZG,Value.oneCell']) (by omega) (by unfold maxLen;omega) (by omega) (aj _) (wr.heap.size+1+1) (by simp) ?_;intro bQ bU ay ap W aI bz;have aN:Hid _:=za.grown W (λk x=>x);have bh:Hid _:=d.more hF a6 (by omega) l aM (aH.trans ag.symm) ak C y E aC aN ap aI;have aA:Hid (ay.heap[w.heap.size+1]? =some (.cells #[.slice M j Q,.bool false] 90 (0,0))):=(aN.block _ (by have:=E.size;omega) (λa7=>by have:=y.out _ a7;omega)).trans ((E.block _ (by omega) (by omega)).trans C);have bH:ay.cell? ⟨w.heap.size+1,0,none⟩=some (.slice M j Q):=(cR aA.out rfl);have bN:ay.frozen? ⟨w.heap.size+1,0,none⟩=false:=aa ay (w.heap.size+1) 0 _ _ aA.out;change Hid _ at ap aI;clear W);go_roundw
      case rel=>exact⟨j+1,_,bh⟩
      case measure=>
       rw [bh.len,bd.out];omega
theorem Vu(w:World)(ib:Nat)(p k:ByteArray)(n m:Int)(f:p.size<=maxLen)(h:k.size<=maxLen)(b:¬qH p k n m=0):
 Calls Tryz.prog 108 #[.pointer (some ⟨ib,0,none⟩),.string p,.string k,.int .i64 n,.int .i64 m] w λe w'=>e=.returned (.tuple #[.agg #[.slice none 0 0,.bool false],.int .i64 (qH p k n m)])/\za (λ_=>False) w w':=by
 obtain⟨c,d⟩:∃c,c=qH p k n m:=⟨_,rfl⟩;have i:Hid (qH p k n m=c):=d.symm;rw [<-d] at b ⊢;have j:(c !=0)=true:=by simpa using b
 clear d b;go_enter Tryz.func108,Tryz.ntmps108;go_wp2_with (go_at_call 155;refine(vX _ p k f h n m).mono ?_;rintro e g ⟨rfl,a⟩;rw [a,i.out];clear a g);exact bodyPost_ret (v:=.tuple #[.agg #[.slice none 0 0,.bool false],.int .i64 c]) (j7 Tryz.results108 _ _ w.heap.size 90 _ (0,0) _ rfl (ac w _) Tryz.underlying90 rfl (by kernel_rfl)) rfl ⟨rfl,za.alloc _ _ _⟩
theorem dE{p k:ByteArray}{n m:Int}(h:qH p k n m=0):1<=m/\m<=50:=by
 unfold qH at h;split at h;.omega
 .split at h;.omega
  .omega
structure Qz (w w':World) (L:List zB) (m:Int) (x:Value) (more:Bool) (c:Int):Prop where
 kept:za (λ_=>False) w w'
 yes:c=0->gB w w' L m.toNat x more
 no:c≠0->x=.slice none 0 0/\more=false
theorem J9(w:World)(F G:Nat->Prop)(ib:Nat)(vs:List zB)(last:Int)(h:zG w F G ib vs last)(hF:∀k,F k->k<w.heap.size)(r:∀k,G k->k<w.heap.size)(hap:jp vs)(c:vs.length<=6000)(g:∀v∈vs,v.key.size<=9223372036854775807)(p k:ByteArray)(n m:Int)(f:p.size<=maxLen)(i:k.size<=maxLen)(L:List zB)(t:yz vs p k n L):
 Calls Tryz.prog 108 #[.pointer (some ⟨ib,0,none⟩),.string p,.string k,.int .i64 n,.int .i64 m] w λe w'=>∃l a,e=.returned (.tuple #[.agg #[l,.bool a],.int .i64 (qH p k n m)])/\Qz w w' L m l a (qH p k n m):=by
 by_cases b:qH p k n m=0
 .obtain⟨j,h2⟩:=dE b;obtain⟨q,rfl⟩:=lw (show 0<=m by omega);refine(Vt w F G ib vs last h hF r hap c g p k n q f i b (by omega) L t).mono ?_;rintro e w' ⟨l,a,rfl,o,s⟩;exact⟨l,a,by rw [b],s,λ_=>o,λd=>absurd b d⟩
 .refine(Vu w ib p k n m f i b).mono ?_;rintro e w' ⟨rfl,j⟩;exact⟨_,_,rfl,j,λd=>absurd d b,λ_=>⟨rfl,rfl⟩⟩
end law
namespace book
open Go.RowKit disk ref
theorem xx.pushV{w t:World}{f:Nat}{l:Value}{F J:Nat->Prop}{a b:Option Addr}{O p:Nat}{R vs:List xZ}(h:xx w f l F J a b O p R vs)(ab:vs.length<4398046511104)(e:xZ)(aa:e.ss.length=4)
 (Y:Qr w e.P e.g e.ss vs.length) (x:∀k,e.P k->¬F k/\¬J k/\k≠f/\k<w.heap.size) (A:¬F e.g/\¬J e.g/\e.g≠f/\e.g<w.heap.size)
 (ad:Obj) (m v:Nat) (y:t.ownsRow 0 129 1 (.slice (some ⟨m,0,none⟩) (vs.length+1) v) (vs.length+1) (vs.map xZ.val++[.slice (some ⟨e.g,0,none⟩) 4 4]))
 (E:(w.alloc ad).grownBy t (Value.slice b vs.length p).ownBlock) (H:(Value.slice b vs.length p).ownBlock=some m\/m=w.heap.size+1):
 xx (t.setCell ⟨f,2,none⟩ (.slice (some ⟨m,0,none⟩) (vs.length+1) v)) f l F (λk=>J k\/e.P k\/k=e.g\/k=m) a (some ⟨m,0,none⟩) O v R (vs++[e])/\
  za (λk=>(Value.slice b vs.length p).ownBlock=some k\/k=f) w (t.setCell ⟨f,2,none⟩ (.slice (some ⟨m,0,none⟩) (vs.length+1) v)):=by
 have V:=h.head.lt;have o:∀k,(Value.slice b vs.length p).ownBlock=some k->J k:=λk d=>h.rows.foot2 k d;have k1:za (λk=>(Value.slice b vs.length p).ownBlock=some k) w t:=(za.alloc _ w ad).trans (za.grown (S:=λk=>(Value.slice b vs.length p).ownBlock=some k) E (λk d=>d)) iL;have k2:=za.setCell (S:=λk=>k=f) t ⟨f,2,none⟩ (.slice (some ⟨m,0,none⟩) (vs.length+1) v) rfl;have u:za (λk=>(Value.slice b vs.length p).ownBlock=some k\/k=f) w (t.setCell ⟨f,2,none⟩ (.slice (some ⟨m,0,none⟩) (vs.length+1) v)):=(k1.mono iL).trans k2 (λ_ h=>.inl (.inr h));have r:(vs++[e]).length=vs.length+1:=by simp
 have C:J m\/w.heap.size<=m:=by
  rcases H with g|g;.exact .inl (o _ g)
  .exact .inr (by omega)
 have G:m≠f:=by
  rcases C with q|q;.exact λg=>h.hbp (by rw [<-g];exact q)
  .omega
 have s:∀i (j:i<(vs++[e]).length),(∃n:i<vs.length,(vs++[e])[i]=vs[i])\/(i=vs.length/\(vs++[e])[i]=e):=λi j=>by
  by_cases q:i<vs.length;.exact .inl ⟨q,iH q⟩
  .right;have g:i=vs.length:=by omega
   subst g;exact⟨rfl,by simp⟩
 have M:∀i (j:i<vs.length) k,vs[i].P k->¬((Value.slice b vs.length p).ownBlock=some k\/k=f):=λi j k d c=>by
  rcases c with c|c;.exact h.rows.row2 i j k d c
  .exact h.hbp (by rw [<-c];exact(h.rows.foot i j).2 k d)
 have L:∀i (j:i<vs.length),¬((Value.slice b vs.length p).ownBlock=some vs[i].g\/vs[i].g=f):=λi j c=>by
  rcases c with c|c
  .rcases h.rows.row.2 with⟨af,q⟩|⟨ag,X,ae,Z,_,T,_⟩;.omega
   .rw [Z] at c;simp [Value.ownBlock] at c;subst c;have:=(h.rows.vets i j).head;rw [T] at this;simp at this
  .exact h.hbp (by rw [<-c];exact(h.rows.foot i j).1)
 have N:∀k,e.P k->¬((Value.slice b vs.length p).ownBlock=some k\/k=f):=λk d c=>by
  rcases c with c|c;.exact(x k d).2.1 (o k c)
  .exact(x k d).2.2.1 c
 have I:¬((Value.slice b vs.length p).ownBlock=some e.g\/e.g=f):=λc=>by
  rcases c with c|c;.exact A.2.1 (o _ c)
  .exact A.2.2.1 c
 have B:=h.flt;have z:=h.hlt;have W:=u.size
 have D:m<(t.setCell ⟨f,2,none⟩ (.slice (some ⟨m,0,none⟩) (vs.length+1) v)).heap.size:=by have:=(y.lt m rfl).2;simpa using this
 have K:∀k,J k->k<w.heap.size->(k=m->(Value.slice b vs.length p).ownBlock=some k):=λk d ac g=>by
  rcases H with P|P;.rw [g];exact P
  .omega
 refine⟨⟨⟨?_⟩,h.bytes.kept u (λi j c=>?_),⟨?_,λi j=>?_,λi j=>?_,λk d=>?_,λi j k d=>?_⟩,h.fbp,λc=>?_,λk d c=>?_,h.few,by rw [r];omega,λk d=>by have:=B k d;omega,λk d=>?_⟩,u⟩
 .rw [r];have g:=(k1.block f V (λc=>h.hbp (o f c))).trans h.head.head;rw [heap_setCell_same t f 2 _ _ _ g];rfl
 .rcases c with c|c;.exact h.apart i j (o i c)
  .exact h.fbp (by rw [<-c];exact j)
 .rw [r,eh];have:=k2.owns y (λk d g=>by simp [Value.ownBlock] at d;omega);simpa [xZ.val,aa] using this
 .rcases s i j with⟨n,g⟩|⟨rfl,g⟩;.rw [g];exact(h.rows.vets i n).kept u (M i n) (L i n)
  .rw [g];exact Y.kept u N I
 .rcases s i j with⟨n,g⟩|⟨rfl,g⟩<;>rw [g]
  .exact⟨.inl (h.rows.foot i n).1,λk d=>.inl ((h.rows.foot i n).2 k d)⟩
  .exact⟨.inr (.inr (.inl rfl)),λk d=>.inr (.inl d)⟩
 .rw [r] at d;simp only [Value.ownBlock,ij] at d;exact .inr (.inr (.inr d.symm))
 .rw [r];simp only [Value.ownBlock,ne_eq,ij];intro U;rcases s i j with⟨n,g⟩|⟨rfl,g⟩<;>rw [g] at d
  .have Q:=(h.rows.foot i n).2 k d;exact h.rows.row2 i n k d (K k Q (z k Q) U.symm)
  .rcases C with q|q;.exact(x k d).2.1 (by rw [<-U];exact q)
   .have:=(x k d).2.2.2;omega
 .rcases c with c|c|c|c;.exact h.hbp c
  .exact(x f c).2.2.1 rfl
  .exact A.2.2.1 c.symm
  .exact G c.symm
 .rcases c with c|c|c|c;.exact h.apart k d c
  .exact(x k c).1 d
  .exact A.1 (by rw [<-c];exact d)
  .rcases C with q|q;.exact h.apart k d (by rw [c];exact q)
   .have:=B k d;omega
 .rcases d with d|d|d|d;.have:=z k d;omega
  .have:=(x k d).2.2.2;omega
  .have:=A.2.2.2;omega
  .rw [d];exact D
end book
end Go.Proofs.YtcoengihaobddaaGreatDoor

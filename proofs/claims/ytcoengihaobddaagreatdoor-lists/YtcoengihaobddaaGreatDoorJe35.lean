/- Part 35 of 50 of a proof: Law18, Law19, Ref5, Ref6, Ref7, Book7, Call1 -/
import Derived.Test.YtcoengihaobddaaGreatDoorJe33
set_option maxHeartbeats 8000000
set_option linter.unusedVariables false
set_option linter.unusedSimpArgs false
set_option maxRecDepth 8000
namespace Go.Proofs.YtcoengihaobddaaGreatDoor
namespace law
open Go.RowKit disk ref book
theorem Dw(c:Int):¬yH true c=0:=by
 show ¬(if c=0\/c=5 then (8:Int) else c)=0;split;.omega
 .omega
structure Paged (w w':World) (S':Nat->Prop) (vs:List zw) (p k:ByteArray) (n m:Int) (x:Value) (more:Bool) (c:Int):Prop where
 yes:c=0->∃L,qB vs p k n L/\uv w w' L m.toNat x more/\∀j,x.ownBlock=some j->¬S' j
 no:c≠0->x=.slice none 0 0/\more=false
theorem Dx(M:za)(A:yg M)(w:World)(X:Nat->Prop)(bo t:Nat)(h:qm)(bd:Nat)(D:Dk)(S N:Nat->Prop)(ib:Nat)(V:zP)(last:Int)(o:yY M w X bo t h bd D S N ib V last)(Q:t<=4398046511104)(bs:Nat)(hbs:h.s=yp bs)
 (p k:ByteArray) (B:p.size<=maxLen) (f:k.size<=maxLen) (n m:Int) (H:zs n) (I:zs m):
 Calls Tryz.prog 45 #[.pointer (some ⟨bs,0,none⟩),.string p,.string k,.int .i64 n,.int .i64 m] w λe w'=>∃r S' x b,e=.returned (.tuple #[.agg #[x,.bool b],.int .i64 (yH h.shut (qR p k n m))])/\xx M w w' bd bs S S' D r 1000/\
  xY M w' bs bd h D r V/\Paged w w' S' V.vs p k n m x b (yH h.shut (qR p k n m))/\X bs/\¬S bs/\¬N bs/\bs≠bo:=by
 have P:=o.n0t;have O:=o.tt
 cases o.st using yj.elim with
 |live d c s j z v g shut mb live=>
  have e:d=bs:=by rw [c] at hbs;unfold yp at hbs;simpa using hbs
  subst e;refine(A.live w bd d S D V p k n m ⟨o.disk,j,g,live,o.fu,o.reads0,by have:=o.reads1;omega,by omega⟩ B f H I).mono ?_;rintro e w' ⟨r,S',x,b,u,a,q,C,E,J⟩;rw [shut]
  exact⟨r,S',x,b,u,⟨a.disk,a.foot,a.kept,a.reads0,a.reads1,a.size,a.fuse⟩,.live shut a.sto q,⟨λl=>by
   obtain⟨L,F,K⟩:=C l
   exact⟨L,F,K,J⟩,E⟩,s,j,z,v⟩
 |shut d c s j z v g shut y=>
  have e:d=bs:=by rw [c] at hbs;unfold yp at hbs;simpa using hbs
  subst e;refine(A.shut w d p k n m g B f).mono ?_;rintro e w' ⟨u,a,q⟩;rw [shut];exact⟨D,S,_,false,u,⟨o.disk.kept q (λi G l=>j (by rw [<-l];exact G)),λk f=>.inl f,q.mono (λk f=>.inr f),by omega,by omega,rfl,o.fu⟩,.shut shut a rfl,⟨λl=>absurd l (Dw _),λ_=>⟨rfl,rfl⟩⟩,s,j,z,v⟩
 |gone c y=>rw [c] at hbs;cases hbs
structure Dy (M:za) (w w':World) (X:Nat->Prop) (bo t bp:Nat) (lv:Value) (F H:Nat->Prop) (a:Option Addr) (ca:Nat) (es vs:List js) (e:Ending):Prop where
 ret:e=.returned (.bool true)
 st:∃X' H' b' cb' vs',One M w' X' bo (t+1)/\jh w' bp lv F H' a b' ca cb' es vs'/\vs'.length<=vs.length+1/\(∀k,X' k->X k\/w.heap.size<=k)/\(∀k,H' k->H k\/w.heap.size<=k)/\∀k,X' k->¬F k/\¬H' k/\k≠bp
 kept:Kept (λk=>X k\/H k\/k=bp) w w'
theorem qt.askedV{M:za}{w w':World}{v N t:Nat}{c:List (Nat×(Nat->Prop))}{I:Option Addr}{H:Nat}{F ac:Nat->Prop}{a b:Option Addr}{O aa:Nat}{Q vs:List js}(p:qt M w v N t c I H F ac a b O aa Q vs)(Y:v<=w.heap.size)(i:Nat)(C:i<c.length)
 {e:Ending} (s:Dy M w w' c[i].2 c[i].1 t N (.slice I c.length H) F ac a O Q vs e):e=.returned (.bool true)/\ju M w' v N (t+1)/\Kept (λk=>v<=k) w w':=by
 obtain⟨K,⟨z,ab,b',U,V,P,J,ad,D,G,S⟩,y⟩:=s;have A:∀j (n:j<c.length) k,c[j].2 k->k<w.heap.size:=λj n=>(p.one j n).lt;have E:∀k,(Value.slice I c.length H).ownBlock=some k->k<w.heap.size:=λk y=>(p.row.lt k y).2
 have o:∀j (n:j<(c.set i (c[i].1,z)).length),(j=i/\(c.set i (c[i].1,z))[j]=(c[i].1,z))\/(∃f:j<c.length,j≠i/\(c.set i (c[i].1,z))[j]=c[j]):=λj n=>by
  by_cases l:j=i;.subst l;exact .inl ⟨rfl,by simp⟩
  .exact .inr ⟨by simpa using n,l,List.getElem_set_ne (iK l) _⟩
 have u:(c.set i (c[i].1,z)).length=c.length:=eQ ..;refine⟨K,⟨c.set i (c[i].1,z),I,H,F,ab,a,b',O,U,Q,V,?_,?_,λj n=>?_,λj k n r T x h=>?_,λj n x h=>?_,λj n x h=>?_,λk r=>?_,λj n x h=>?_,p.bF,λk r=>?_,p.bP,?_,?_,?_⟩,⟨y.os,y.tape,y.output,y.size,λk q R=>y.block k q (λd=>R ?_)⟩⟩
 .rw [u]
  have l:(c.set i (c[i].1,z)).map (λZ=>yp Z.1)=c.map λZ=>yp Z.1:=by
   rw [mf];apply mT (by simp);intro j g L;simp only [mY,ig];split
   next m=>subst m;rfl
   next=>rfl
  rw [l]
  exact y.owns p.row (λk q d=>by
   have g:=p.rowF k q;rcases d with d|d|d;.exact p.rsep i C k d q
   .exact g.2.1 d
   .exact g.2.2.1 d)
 .rw [u];exact J
 .rcases o j n with⟨l,m⟩|⟨f,l,m⟩;.subst l;rw [m];exact P
  .rw [m];refine((p.one j f).kept y (λk q d=>?_)).later (by omega);rcases d with d|d|d;.exact p.apart i j C f (iK l) k d q
   .exact(p.sep j f k q).2.1 d
   .exact(p.sep j f k q).2.2 d
 .rcases o j n with⟨l,m⟩|⟨f,l,m⟩<;>rcases o k r with⟨W,X⟩|⟨B,W,X⟩<;>rw [m] at h<;>rw [X]
  .omega
  .intro d;rcases D x h with g|g;.exact p.apart i k C B (iK W) x g d
   .have:=A k B x d;omega
  .intro d;rcases D x d with g|g;.exact p.apart j i f C l x h g
   .have:=A j f x h;omega
  .exact p.apart j k f B T x h
 .rcases o j n with⟨l,m⟩|⟨f,l,m⟩<;>rw [m] at h
  .exact S x h
  .refine⟨(p.sep j f x h).1,λd=>?_,(p.sep j f x h).2.2⟩;rcases G x d with g|g;.exact(p.sep j f x h).2.1 g
   .have:=A j f x h;omega
 .rw [u];intro d;rcases o j n with⟨l,m⟩|⟨f,l,m⟩<;>rw [m] at h
  .rcases D x h with g|g;.exact p.rsep i C x g d
   .have:=E x d;omega
  .exact p.rsep j f x h d
 .rw [u] at r;have g:=p.rowF k r;refine⟨g.1,λd=>?_,g.2.2⟩;rcases G k d with L|L;.exact g.2.1 L
  .have:=E k r;omega
 .rcases o j n with⟨l,m⟩|⟨f,l,m⟩<;>rw [m] at h
  .rcases D x h with g|g;.exact p.bX i C x g
   .omega
  .exact p.bX j f x h
 .rcases G k r with g|g;.exact p.bH k g
  .omega
 .have:=p.fewE;omega
 .have:=p.fewV;omega
 .rw [u];have:=p.fewO;omega
 .rcases d with d|d|d;.exact p.bX i C k d
  .exact p.bH k d
  .rw [d];exact p.bP
end law
namespace ref
theorem xt.inj{vs:List zw}(h:xt vs){i j:Nat}(c:i<vs.length)(b:j<vs.length)(e:vs[i].key=vs[j].key/\vs[i].num=vs[j].num):i=j:=by
 rcases mo i j with a|a|a;.exact absurd e (eB.1 h i j c b a)
 .exact a
 .exact absurd ⟨e.1.symm,e.2.symm⟩ (eB.1 h j i b c a)
structure UU (vs:List zw) (f:zw->Bool) (L:List zw) (tk:Nat->Bool) (j:Nat):Prop where
 sorted:L.Pairwise λa b=>a.ahead b=true
 perm:L.Perm (vs.filter f)
 apart:xt vs
 le:j<=L.length
 is:∀i (hi:i<vs.length),tk i=true↔vs[i]∈L.take j
def vO(vs:List zw)(f:zw->Bool)(tk:Nat->Bool)(i:Nat)(b:Int):Prop:=
 (b= -1/\∀c (hc:c<vs.length),c<i->tk c=false->f vs[c]=false)\/
  ∃m,∃hm:m<vs.length,b=(m:Int)/\m<i/\tk m=false/\f vs[m]=true/\∀c (hc:c<vs.length),c<i->tk c=false->f vs[c]=true->c=m\/vs[m].ahead vs[c]=true
theorem vO.start(vs:List zw)(f:zw->Bool)(tk:Nat->Bool):vO vs f tk 0 (-1):=.inl ⟨rfl,λc _ h=>by omega⟩
section
variable {vs:List zw} {f:zw->Bool} {L:List zw} {tk:Nat->Bool} {i j:Nat} {b:Int}
theorem vO.skip(h:vO vs f tk i b)(t:i<vs.length)(k:tk i=true\/f vs[i]=false):vO vs f tk (i+1) b:=by
 have n:tk i=false->f vs[i]=true->False:=λg j=>by rcases k with k|k<;>simp_all
 rcases h with⟨g,j⟩|⟨m,q,g,j,p,r,s⟩
 .refine .inl ⟨g,λc l o a=>?_⟩;rcases iZ c i with d|d;.exact j c l d a
  .obtain rfl:c=i:=by omega
   cases e:f vs[c] with
   |false=>rfl
   |true=>exact(n a e).elim
 .refine .inr ⟨m,q,g,by omega,p,r,λc l o a e=>?_⟩;rcases iZ c i with d|d;.exact s c l d a e
  .obtain rfl:c=i:=by omega
   exact(n a e).elim
theorem vO.first(h:vO vs f tk i (-1))(l:i<vs.length)(j:tk i=false)(e:f vs[i]=true):vO vs f tk (i+1) (i:Int):=by
 rcases h with⟨_,g⟩|⟨m,o,p,_⟩
 .refine .inr ⟨i,l,rfl,by omega,j,e,λc k n d a=>?_⟩;rcases iZ c i with b|b;.rw [g c k b d] at a;cases a
  .exact .inl (by omega)
 .omega
theorem vO.other{m:Nat}(u:xt vs)(h:vO vs f tk i (m:Int))(o:i<vs.length)(t:m<vs.length)(r:tk i=false)(q:f vs[i]=true):vO vs f tk (i+1) (if vs[i].ahead vs[m]=true then (i:Int) else (m:Int)):=by
 rcases h with⟨w,_⟩|⟨j,l,w,y,s,v,p⟩;.omega
 .obtain rfl:j=m:=by omega
  by_cases a:vs[i].ahead vs[j]=true
  .rw [aB a];refine .inr ⟨i,o,rfl,by omega,r,q,λc k n g b=>?_⟩;rcases iZ c i with d|d
   .rcases p c k d g b with rfl|x;.exact .inr a
    .exact .inr (zw.ahead_trans a x)
   .exact .inl (by omega)
  .rw [az a];refine .inr ⟨j,t,rfl,by omega,s,v,λc k n g b=>?_⟩;rcases iZ c i with d|d;.exact p c k d g b
   .obtain rfl:c=i:=by omega
    refine .inr (zw.ahead_total (λe=>?_) a);have:=u.inj o l e;omega
theorem UU.mem(h:UU vs f L tk j){v:zw}:v∈L↔v∈vs/\f v=true:=by rw [h.perm.mem_iff,eA]
theorem UU.left(h:UU vs f L tk j)(d:j<L.length):∃c,∃a:c<vs.length,vs[c]=L[j]/\tk c=false/\f vs[c]=true:=by
 have b:=(h.mem).1 (ag d);obtain⟨c,a,e⟩:=ei b.1;refine⟨c,a,e,?_,by rw [e];exact b.2⟩
 cases k:tk c with
 |false=>rfl
 |true=>
  have g:=(h.is c a).1 k;rw [e] at g;obtain⟨q,m,l⟩:=iT.1 g;have i:=eB.1 h.sorted q j (by omega) d (by omega);rw [l] at i;exact absurd i (zw.ahead_irrefl _)
theorem UU.end_(h:UU vs f L tk j)(i:vO vs f tk vs.length (-1)):L.length=j:=by
 have k:=h.le;rcases iZ j L.length with a|a
 .obtain⟨c,e,_,g,d⟩:=h.left a;rcases i with⟨_,b⟩|⟨m,_,b,_⟩;.rw [b c e e g] at d;cases d
  .omega
 .omega
theorem UU.next{m:Nat}(h:UU vs f L tk j)(i:m<vs.length)(t:vO vs f tk vs.length (m:Int)):∃e:j<L.length,L[j]=vs[m]/\UU vs f L (λc=>decide (c=m)||tk c) (j+1):=by
 rcases t with⟨x,_⟩|⟨d,A,x,C,o,w,y⟩;.omega
 .obtain rfl:d=m:=by omega
  have l:vs[d]∈L:=h.mem.2 ⟨ag i,w⟩;obtain⟨q,u,k⟩:=ei l
  have B:j<=q:=by
   rcases iZ q j with g|g
   .have:vs[d]∈L.take j:=by rw [<-k];exact iT.2 ⟨q,by omega,rfl⟩
    rw [(h.is d i).2 this] at o;cases o
   .exact g
  have e:j<L.length:=by omega
  have r:L[j]=vs[d]:=by
   obtain⟨c,b,p,z,v⟩:=h.left e;rcases y c b b z v with rfl|g;.exact p.symm
   .rcases iZ j q with s|s
    .have n:=eB.1 h.sorted j q e u s;rw [k,<-p] at n;exact absurd g (zw.ahead_asymm n)
    .obtain rfl:j=q:=by omega
     exact k
  refine⟨e,r,h.sorted,h.perm,h.apart,by omega,λc b=>?_⟩;rw [ar e,aj,aD,r];simp only [lj,aO];constructor
  .rintro(rfl|a);.exact .inr rfl
   .exact .inl ((h.is c b).1 a)
  .rintro(a|a);.exact .inr ((h.is c b).2 a)
   .exact .inl (h.apart.inj b i (by rw [a];exact⟨rfl,rfl⟩))
end
end ref
namespace law
open Go.ChangeShapes Go.WideShapes Go.ChangeAt Go.RowKit disk ref book
open keys (zg zd zq zl zh)
variable {tk:Nat->Bool}{m ib cap j:Nat}{w wr:World}{F G:Nat->Prop}{vs L:List zw}{last:Int}{a:Option Addr}{cs:List (List Value)}{f:zw->Bool}
def YK(n:Nat)(tk:Nat->Bool):List Value:=(List.range n).map λi=>Value.bool (tk i)
theorem Dz{n:Nat}{i:Nat}(h:i<n):(YK n tk)[i]? =some (.bool (tk i)):=by simp [YK,h]
theorem Bv{n:Nat}:(YK n tk).toArray.setIfInBounds m (.bool true)=(YK n (λc=>decide (c=m)||tk c)).toArray:=by
 apply Array.ext;.simp [YK]
 .intro i b a;simp only [List.setIfInBounds_toArray,List.getElem_toArray,mY];have d:i<n:=by simpa [YK] using a
  by_cases e:m=i;.subst e;simp [YK]
  .rw [az e];simp [YK,iK e]
def DA(wr:World)(b:Nat):Nat:=match wr.cell? ⟨b,0,none⟩ with
 |some (.slice _ n _)=>n
 |_=>0
structure UV (w:World) (F G:Nat->Prop) (ib:Nat) (vs:List zw) (last:Int) (a:Option Addr) (cap:Nat) (cs:List (List Value)) (f:zw->Bool) (L:List zw) (m j:Nat) (tk:Nat->Bool) (wr:World):Prop where
 sel:UU vs f L tk j
 jm:j<=m
 ref:ys wr F G ib vs last a cap cs
 pg:∃va vc,wr.heap[w.heap.size+1]? =some (.cells #[.slice va j vc,.bool false] 90 (0,0))/\wr.ownsRow 0 94 4 (.slice va j vc) j (zJ (L.take j))/\∀k,(Value.slice va j vc).ownBlock=some k->w.heap.size+3<=k
 tk:wr.heap[w.heap.size+2]? =some (.cells (YK vs.length tk).toArray 4 (0,0))
 res:wr.heap[w.heap.size]? =some (.cells #[.slice none 0 0,.bool false] 90 (0,0))
 kept:Kept (λk=>w.heap.size<=k) w wr
 size:w.heap.size+3<=wr.heap.size
theorem UV.kept0{b:World}(h:UV w F G ib vs last a cap cs f L m j tk wr)(k:Kept (λ_=>False) wr b):UV w F G ib vs last a cap cs f L m j tk b:=by
 obtain⟨e,c,g,d,i⟩:=h.pg;have l:=h.size;exact⟨h.sel,h.jm,h.ref.kept k nF nF,⟨e,c,(k.block _ (by omega) id).trans g,k.owns d nF,i⟩,(k.block _ (by omega) id).trans h.tk,(k.block _ (by omega) id).trans h.res,h.kept.trans k fE,aF l k.size⟩
theorem UV.more{A n:World}{r:Option Addr}{s d o mb:Nat}{v:zw}(h:UV w F G ib vs last a cap cs f L m j tk wr)(hF:∀k,F k->k<w.heap.size)(E:∀k,G k->k<w.heap.size)(u:j<m)(N:mb<vs.length)(t:j<L.length)(e:L[j]=v)(J:UU vs f L (λc=>decide (c=mb)||tk c) (j+1))
 (H:wr.heap[w.heap.size+1]? =some (.cells #[.slice r j s,.bool false] 90 (0,0))) (g:∀k,(Value.slice r j s).ownBlock=some k->w.heap.size+3<=k) (b:Kept (λk=>k=w.heap.size+2) wr A) (y:A.heap[w.heap.size+2]? =some (.cells (YK vs.length (λc=>decide (c=mb)||tk c)).toArray 4 (0,0))) (i:Kept (λk=>(Value.slice r j s).ownBlock=some k) A n) (D:n.ownsRow 0 94 4 (.slice (some ⟨d,0,none⟩) (j+1) o) (j+1) (zJ (L.take j)++Z8 v)) (B:(Value.slice r j s).ownBlock=some d\/d=wr.heap.size+1+1):
 UV w F G ib vs last a cap cs f L m (j+1) (λc=>decide (c=mb)||tk c) (n.setCell ⟨w.heap.size+1,0,none⟩ (.slice (some ⟨d,0,none⟩) (j+1) o)):=by
 have R:=h.size;have M:=b.size;have K:=i.size;have x:n.heap[w.heap.size+1]? =_:=(i.block _ (by omega) (λl=>by have:=g _ l;omega)).trans ((b.block _ (by omega) (by omega)).trans H);have I:=heap_setCell_same n (w.heap.size+1) 0 _ _ (.slice (some ⟨d,0,none⟩) (j+1) o) x;have p:=Kept.setCell (S:=λk=>k=w.heap.size+1) n ⟨w.heap.size+1,0,none⟩ (.slice (some ⟨d,0,none⟩) (j+1) o) rfl
 have O:w.heap.size+3<=d:=by
  rcases B with z|z;.exact g d z
  .omega
 generalize (n.setCell ⟨w.heap.size+1,0,none⟩ (.slice (some ⟨d,0,none⟩) (j+1) o))=Q at*;have q:Kept (λk=>w.heap.size<=k) wr Q:=((b.mono (λk b=>by omega)).trans i (λk b=>.inl (by have:=g k b;omega))).trans p (λk b=>.inl (by omega));refine⟨J,u,h.ref.kept q (λk b l=>by have:=hF k b;omega) (λk b l=>by have:=E k b;omega),⟨some ⟨d,0,none⟩,o,I,?_,λk b=>?_⟩,?_,?_,h.kept.trans q (λk b=>.inl b),by have:=p.size;omega⟩
 .have C:zJ (L.take (j+1))=zJ (L.take j)++Z8 v:=by
   rw [ar t,e];simp [zJ]
  rw [C];exact p.owns D (λk b P=>by simp [Value.ownBlock] at b;omega)
 .simp [Value.ownBlock] at b;omega
 .exact(p.block _ (by omega) (by omega)).trans ((i.block _ (by omega) (λl=>by have:=g _ l;omega)).trans y)
 .exact(p.block _ (by omega) (by omega)).trans ((i.block _ (by omega) (λl=>by have:=g _ l;omega)).trans ((b.block _ (by omega) (by omega)).trans h.res))
theorem UV.len(h:UV w F G ib vs last a cap cs f L m j tk wr):DA wr (w.heap.size+1)=j:=by
 obtain⟨d,c,b,_⟩:=h.pg;unfold DA;rw [ak wr _ 0 _ _ _ b];rfl
theorem Tryz.infoBool:(Tryz.prog.info? 4).map (λi=>(i.zero,i.size,i.bytes))=some (some (.bool false),1,1):=by kernel_rfl
theorem Tryz.infoVer:(Tryz.prog.info? 94).map (λi=>(i.zero,i.size,i.bytes))=some (some (.agg #[.string ⟨#[]⟩,.int .i64 0,.bool false,.int .i64 0]),4,40):=by kernel_rfl
theorem vG{P:Program}{fn:Func}{p u:Tmp}{ty:TypeId}(h:fn.results=#[.cell p ty,.tmp u])(tmps:Array Value)(w:World)(g:Nat)(t:TypeId)(cs:Array Value)(b:Nat×Nat)(c:TypeDesc)
 (d:tmps.getD p undef=.pointer (some ⟨g,0,none⟩)) (i:w.heap[g]? =some (.cells cs t b))
 (f:P.underlying ty=some c) (e:(match c with|.struct _|.array _ _=>true|_=>false)=true) (j:(P.info? ty).map (·.size)=some cs.size):
 (results fn tmps).run P w=.ok (.tuple #[.agg cs,tmps.getD u undef]) w:=by
 have a:tmps[p]?.getD undef=.pointer (some ⟨g,0,none⟩):=by simpa using d
 simp [results,h,a,asAddr,run_loadVar_row w g t ty cs b c i f e j]
theorem Wj(n k:Nat)(h:k=n):madeCells (Value.bool false).cells k=(YK n (λ_=>false)).toArray:=by
 subst h;apply Array.ext;.simp [madeCells,YK]
 .intro i a b;simp [madeCells,YK,Value.cells,Nat.mod_one]
theorem Wx(w:World)(a b c:Obj):(((w.alloc a).alloc b).alloc c).heap[w.heap.size]? =some a/\(((w.alloc a).alloc b).alloc c).heap[w.heap.size+1]? =some b/\(((w.alloc a).alloc b).alloc c).heap[w.heap.size+2]? =some c/\Kept (λ_=>False) w (((w.alloc a).alloc b).alloc c)/\(((w.alloc a).alloc b).alloc c).heap.size=w.heap.size+3:=by
 have k3:=Kept.alloc (λ_=>False) ((w.alloc a).alloc b) c;have k2:=Kept.alloc (λ_=>False) (w.alloc a) b;have g:(w.alloc a).heap.size=w.heap.size+1:=by simp
 have f:((w.alloc a).alloc b).heap.size=w.heap.size+2:=by simp
 have e:=heap_alloc_new (w.alloc a) b;have d:=heap_alloc_new ((w.alloc a).alloc b) c;rw [g] at e;rw [f] at d;exact⟨(k3.block _ (by omega) id).trans ((k2.block w.heap.size (by simp) id).trans (heap_alloc_new w _)),(k3.block _ (by omega) id).trans e,d,((Kept.alloc _ _ _).trans k2 iL).trans k3 iL,by simp⟩
def WE(w:World)(L:List zw)(m:Nat)(e:Ending)(w':World):Prop:=∃x more,e=.returned (.tuple #[.agg #[x,.bool more],.int .i64 0])/\uv w w' L m x more/\Kept (λ_=>False) w w'
theorem DB(w A:World)(L:List zw)(m j:Nat)(b:Bool)(c:Option Addr)(e:Nat)(a:Act)(i:L.take m=L.take j)(u:j<=L.length)(s:b=decide (m<L.length))(t:A.heap[w.heap.size]? =some (.cells #[.slice none 0 0,.bool false] 90 (0,0)))(r:A.ownsRow 0 94 4 (.slice c j e) j (zJ (L.take j)))(f:∀k,(Value.slice c j e).ownBlock=some k->w.heap.size+3<=k)(d:Kept (λk=>w.heap.size<=k) w A)(q:a.defers=[])(h:a.tmps.getD 10 undef=.pointer (some ⟨w.heap.size,0,none⟩))(l:a.tmps.getD 11 undef=.int .i64 0):
 bodyPost Tryz.prog Tryz.f108 (WE w L m) .ret a ((A.setCell ⟨w.heap.size,0,none⟩ (.slice c j e)).setCell ⟨w.heap.size,1,none⟩ (.bool b)):=by
 have n:=heap_setCell_same A w.heap.size 0 _ _ (.slice c j e) t;have o:=heap_setCell_same _ w.heap.size 1 _ _ (.bool b) n;have p:Kept (λj=>j=w.heap.size) A ((A.setCell ⟨w.heap.size,0,none⟩ (.slice c j e)).setCell ⟨w.heap.size,1,none⟩ (.bool b)):=(Kept.setCell (S:=λj=>j=w.heap.size) A ⟨w.heap.size,0,none⟩ _ rfl).trans (Kept.setCell (S:=λj=>j=w.heap.size) _ ⟨w.heap.size,1,none⟩ _ rfl) iL;generalize ((A.setCell ⟨w.heap.size,0,none⟩ (.slice c j e)).setCell ⟨w.heap.size,1,none⟩ (.bool b))=y at*;have g:(L.take m).length=j:=by rw [i,ay];omega
 refine bodyPost_ret (v:=.tuple #[.agg #[.slice c j e,.bool b],.int .i64 0]) ((vG Tryz.results108 _ _ w.heap.size 90 _ (0,0) _ h o Tryz.underlying90 rfl (by kernel_rfl)).trans (by rw [l];rfl)) q ⟨_,_,rfl,⟨s,c,e,by rw [g],?_,?_⟩,?_⟩
 .rw [g,i];exact p.owns r (λk d x=>by have:=f k d;omega)
 .rw [g];exact λk d=>by have:=f k d;omega
 .exact((Kept.refl (λ_=>False) w).trans d (λk d=>.inr d)).trans p (λk d=>.inr (by omega))
theorem DC(w:World)(F G:Nat->Prop)(ib:Nat)(vs:List zw)(last:Int)(h:qo w F G ib vs last)(hF:∀k,F k->k<w.heap.size)(a5:∀k,G k->k<w.heap.size)(hap:xt vs)(bC:vs.length<=6000)(ar:∀v∈vs,v.key.size<=9223372036854775807)(p k:ByteArray)(n:Int)(m:Nat)(bi:p.size<=maxLen)(x:k.size<=maxLen)(bh:qR p k n m=0)(bw:m<=1000)(L:List zw)(aV:qB vs p k n L):
 Calls Tryz.prog 108 #[.pointer (some ⟨ib,0,none⟩),.string p,.string k,.int .i64 n,.int .i64 (m:Int)] w (WE w L m):=by
 obtain⟨a,cap,cs,ac⟩:=h;have bL:=ac.lt;have a3:p.size<=9223372036854775807:=by unfold maxLen at bi;omega
 have a2:k.size<=9223372036854775807:=by unfold maxLen at x;omega
 obtain⟨f,aS⟩:∃f:zw->Bool,f=λv=>qT v p k n:=⟨_,rfl⟩;have an:Hid (UU vs f L (λ_=>false) 0):=⟨aV.sorted,by rw [aS];exact aV.perm,hap,ai _,λi bY=>by simp⟩;have bk:Hid (∀v,qT v p k n=f v):=λv=>by rw [aS]
 change Hid _ at ac hF a5 ar bh;clear hap aV aS;obtain⟨au,J,H,K,I⟩:=qU Tryz.infoVer;have T:Hid (Tryz.prog.info? 94=some au/\au.zero=some (.agg #[.string ⟨#[]⟩,.int .i64 0,.bool false,.int .i64 0])/\au.size=4/\au.bytes=40):=⟨J,H,K,I⟩;clear J H K I;obtain⟨bo,J,H,K,I⟩:=qU Tryz.infoBool
 have bJ:∀W:World,(Instr.makeSlice 39 (.int .i64 (vs.length:Int)) (.int .i64 (vs.length:Int))).run Tryz.prog W=.ok (.slice (some ⟨W.heap.size,0,none⟩) vs.length vs.length) (W.alloc (.cells (YK vs.length (λ_=>false)).toArray 4)):=λW=>by have:=run_make (P:=Tryz.prog) W 39 4 bo _ Tryz.underlying39 J H .i64 .i64 (vs.length:Int) (vs.length:Int) (by omega) (by omega) (by rw [I];omega) (by omega);rw [this,Wj vs.length _ (by rw [K];omega)];rfl
 clear J H K I;go_enter Tryz.func108,Tryz.ntmps108;have b1:=ac.c0;go_wp2_with (go_at_call 155;refine(gx _ p k bi x n m).mono ?_;rintro e af ⟨rfl,U⟩;rw [U,bh.out];clear U af);obtain⟨ba,bb,be,k3,bt⟩:=Wx w (.cells #[.slice none 0 0,.bool false] 90) (.cells #[.slice none 0 0,.bool false] 90) (.cells (YK vs.length (λ_=>false)).toArray 4);have bl:Hid (UV w F G ib vs last a cap cs f L m 0 (λ_=>false) (((w.alloc (.cells #[.slice none 0 0,.bool false] 90)).alloc (.cells #[.slice none 0 0,.bool false] 90)).alloc (.cells (YK vs.length (λ_=>false)).toArray 4))):=⟨an,ai _,ac.kept k3 nF nF,⟨none,0,bb,aP _ 0 94 4,λk x=>by cases x⟩,be,ba,k3.mono fE,by omega⟩;clear ba bb be k3 bt;generalize (((w.alloc (.cells #[.slice none 0 0,.bool false] 90)).alloc (.cells #[.slice none 0 0,.bool false] 90)).alloc (.cells (YK vs.length (λ_=>false)).toArray 4))=W at*;go_loopw [15] (λ_ wr=>∃j tk,UV w F G ib vs last a cap cs f L m j tk wr) (λ_ wr=>L.length-DA wr (w.heap.size+1))
 case atStart=>exact⟨0,_,bl⟩
 case round=>
  obtain⟨j,tk,aj⟩:=hrel;change Hid _ at aj;go_wp2_with fail;have bc:Hid _:=aj.len;go_loopw [15,16] (λb i bs=>∃(c:Nat) (z:Int),c<=vs.length/\i=.int .i64 c/\b=.int .i64 z/\vO vs f tk c z/\UV w F G ib vs last a cap cs f L m j tk bs) (λ_ i _=>vs.length-(intOf i).toNat)
  case atStart=>exact⟨0, -1,ai _,rfl,rfl,vO.start _ _ _,aj⟩
  case round=>
   obtain⟨c,z,a6,rfl,rfl,V,d⟩:=hrel;have B:Hid (vO vs f tk c z):=V;change Hid _ at d;clear V;have aX:=d.ref.c0;by_cases r:c<vs.length
   .obtain⟨g,rfl⟩:=d.ref.rowAt (by omega);obtain⟨aw,av,ay,ap,t,ax,_⟩:=d.ref.cells c r;have am:=ar.out _ (ag r);have bK:(c:Int)<(vs.length:Int):=by omega
    obtain⟨v,O⟩:∃v,v=vs[c]:=⟨_,rfl⟩;rw [<-O] at aw av ay ax am;have ah:Hid _:=O;clear O;go_wp2_with fail;refine(J3 _ v _ rfl am p k a3 a2 n).mono ?_;rintro e af ⟨rfl,aO⟩;rw [bk.out v];have q:Hid (UV w F G ib vs last (some ⟨g,0,none⟩) cap cs f L m j tk af):=d.kept0 aO;clear aO aw av ay ax aX;have ut:af.cell? ⟨w.heap.size+2,c,none⟩=some (.bool (tk c)):=by rw [ak af _ c _ _ _ q.tk];simpa using Dz r
    cases D:tk c with
    |true=>
     rw [D] at ut;have R:Hid (tk c=true):=D;clear D;go_wp2;go_roundw
     case rel=>exact⟨c+1,z,by omega,by go_num,rfl,B.skip r (.inl R),q⟩
     case measure=>simp [intOf];omega
    |false=>
     rw [D] at ut;have R:Hid _:=D;clear D
     cases ab:f v with
     |false=>
      have Z:Hid _:=ab;clear ab;go_wp2;go_roundw
      case rel=>exact⟨c+1,z,by omega,by go_num,rfl,B.skip r (.inr (by rw [<-ah.out];exact Z)),q⟩
      case measure=>simp [intOf];omega
     |true=>
      have Z:Hid (f vs[c]=true):=(by rw [<-ah.out];exact ab);clear ab;by_cases N:z<0
      .have Y:Hid (vO vs f tk (c+1) c):=by
        have aR:=B.out;rcases B.out with⟨rfl,_⟩|⟨_,_,rfl,_⟩;.exact aR.first r R Z.out
        .omega
       go_wp2;go_roundw
       case rel=>exact⟨c+1,c,by omega,by go_num,rfl,Y,q⟩
       case measure=>simp [intOf];omega
      .obtain⟨mb,l,rfl⟩:∃mb:Nat,mb<vs.length/\z=mb:=by
        rcases B.out with⟨rfl,_⟩|⟨mb,l,rfl,_⟩;.omega
        .exact⟨mb,l,rfl⟩
       have Y:Hid _:=vO.other an.apart B r l R Z.out;obtain⟨bm,bj,a1,br,a9,aZ,_⟩:=q.ref.cells c r;obtain⟨aX,bz,bv,bu,a4,bp,_⟩:=q.ref.cells mb l;have a8:=ar.out _ (ag l);have u0:=q.ref.c0;have bf:(mb:Int)<(vs.length:Int):=by omega
       have a0:=decide_eq_false N;have aC:=q.ref.lt;have s:=(q.ref.row.lt g rfl).2;rw [<-ah.out] at bm bj a1 aZ
       have aH:Hid (vO vs f tk (c+1) (if v.ahead vs[mb]=true then (c:Int) else (mb:Int))):=by have:=Y.out;rw [<-ah.out] at this;exact this
       clear Y;generalize vs[mb]=u at*;go_wp2_with fail;go_region_held3 (λw'=>w'.cell? ⟨ib,0,none⟩=some (.slice (some ⟨g,0,none⟩) vs.length cap)/\w'.cell? ⟨g,c*4,none⟩=some (.string v.key)/\w'.cell? ⟨g,c*4+1,none⟩=some (.int .i64 v.num)/\w'.cell? ⟨g,c*4+2,none⟩=some (.bool v.mark)/\w'.cell? ⟨g,c*4+3,none⟩=some (.slice br v.body.length a9)/\w'.cell? ⟨g,mb*4,none⟩=some (.string u.key)/\w'.cell? ⟨g,mb*4+1,none⟩=some (.int .i64 u.num)/\w'.cell? ⟨g,mb*4+2,none⟩=some (.bool u.mark)/\w'.cell? ⟨g,mb*4+3,none⟩=some (.slice bu u.body.length a4)) (go_keep) ((go_at_call 157;refine(V9 _ v u _ _ rfl rfl am a8).mono ?_;rintro e b6 ⟨rfl,aF⟩;have o:=(Kept.drew (λ_=>False) af).trans aF iL;have aK:Hid _:=q.kept0 o;have bO:=(o.cell (a:=⟨ib,0,none⟩) aC id).trans u0;have bX:=(o.cell (a:=⟨g,c*4,none⟩) s id).trans bm;have b3:=(o.cell (a:=⟨g,c*4+1,none⟩) s id).trans bj;have bU:=(o.cell (a:=⟨g,c*4+2,none⟩) s id).trans a1;have bN:=(o.cell (a:=⟨g,c*4+3,none⟩) s id).trans aZ;have bR:=(o.cell (a:=⟨g,mb*4,none⟩) s id).trans aX;have b5:=(o.cell (a:=⟨g,mb*4+1,none⟩) s id).trans bz;have bQ:=(o.cell (a:=⟨g,mb*4+2,none⟩) s id).trans bv;have bV:=(o.cell (a:=⟨g,mb*4+3,none⟩) s id).trans bp;clear aF o))
       cases aL:v.ahead u with
       |true=>
        go_wp2;go_roundw
        case rel=>exact⟨c+1,c,by omega,by go_num,rfl,by have:=aH.out;rw [aL] at this;exact this,aK⟩
        case measure=>simp [intOf];omega
       |false=>
        go_wp2;go_roundw
        case rel=>exact⟨c+1,mb,by omega,by go_num,rfl,by have:=aH.out;rw [aL] at this;exact this,aK⟩
        case measure=>simp [intOf];omega
   .have bd:c=vs.length:=by omega
    subst bd;obtain⟨M,Q,C,ad,y⟩:=d.pg;change Hid _ at C ad y;have bq:wr.cell? ⟨w.heap.size+1,0,none⟩=some (.slice M j Q):=cR C.out rfl;have b0:wr.cell? ⟨w.heap.size+1,1,none⟩=some (.bool false):=cR C.out rfl;have bZ:wr.cell? ⟨w.heap.size,0,none⟩=some (.slice none 0 0):=cR d.res rfl;have bS:wr.cell? ⟨w.heap.size,1,none⟩=some (.bool false):=cR d.res rfl;have b2:=aa wr (w.heap.size) 0 _ _ d.res;have bW:=aa wr (w.heap.size) 1 _ _ d.res;have b4:=aa wr (w.heap.size+1) 1 _ _ C.out;have aC:=d.size;by_cases N:z<0
    .have a0:=aG N
     have aT:Hid (L.length=j):=by
      have aR:=B.out;rcases B.out with⟨rfl,_⟩|⟨_,_,rfl,_⟩;.exact d.sel.end_ aR
      .omega
     go_wp2;exact DB w wr L m j false M Q _ (by rw [ao (by have:=d.jm;have:=aT.out;omega),ao (by have:=aT.out;omega)]) d.sel.le (by have:=d.jm;have:=aT.out;exact(decide_eq_false (by omega)).symm) d.res ad y d.kept rfl rfl rfl
    .obtain⟨mb,l,rfl⟩:∃mb:Nat,mb<vs.length/\z=mb:=by
      rcases B.out with⟨rfl,_⟩|⟨mb,l,rfl,_⟩;.omega
      .exact⟨mb,l,rfl⟩
     obtain⟨aM,aI,al⟩:=d.sel.next l B.out;change Hid _ at al aI;have bF:=d.jm;by_cases a7:j=m
     .subst a7;go_wp2;have aW:=Kept.setCell (S:=λk=>k=w.heap.size+1) wr ⟨w.heap.size+1,1,none⟩ (.bool true) rfl;exact DB w _ L j j true M Q _ rfl (by omega) (aG aM).symm ((aW.block _ (by omega) (by omega)).trans d.res) (aW.owns ad (λk x bn=>by have:=y.out k x;omega)) y (d.kept.trans aW (λk x=>.inl (by omega))) rfl rfl rfl
     .have bH:=beq_false_of_ne (by omega);obtain⟨g,rfl⟩:=d.ref.rowAt (by omega);obtain⟨aw,av,ay,ap,t,ax,_⟩:=d.ref.cells mb l;have bf:(mb:Int)<(vs.length:Int):=by omega
      obtain⟨v,O⟩:∃v,v=vs[mb]:=⟨_,rfl⟩;rw [<-O] at aw av ay ax;have ah:Hid _:=O;clear O;have ut:wr.cell? ⟨w.heap.size+2,mb,none⟩=some (.bool (tk mb)):=by rw [ak wr _ mb _ _ _ d.tk];simpa using Dz l
      have uf:=aa wr (w.heap.size+2) mb _ _ d.tk;have bE:=hF.out g (d.ref.foot2 g rfl);have bB:¬ib=w.heap.size+2:=by omega
      have bA:¬g=w.heap.size+2:=by omega
      have U:w.heap.size+1<wr.heap.size:=by omega
      have bD:¬w.heap.size+1=wr.heap.size:=by omega
      obtain⟨A,ae⟩:∃A,A=wr.setCell ⟨w.heap.size+1+1,mb,none⟩ (.bool true):=⟨_,rfl⟩;have aY:Kept (λk=>k=w.heap.size+2) wr A:=by rw [ae];exact Kept.setCell wr ⟨w.heap.size+1+1,mb,none⟩ (.bool true) rfl
      have aQ:A.heap[w.heap.size+2]? =some (.cells (YK vs.length (λc=>decide (c=mb)||tk c)).toArray 4 (0,0)):=by rw [ae,<-Bv];exact heap_setCell_same wr (w.heap.size+2) mb _ _ (.bool true) d.tk
      have aU:A.heap.size=wr.heap.size:=by rw [ae];simp
      have bI:(wr.setCell ⟨w.heap.size+1+1,mb,none⟩ (.bool true)).cell? ⟨w.heap.size+1,0,none⟩=some (.slice M j Q):=by rw [<-ae,aY.cell (a:=⟨w.heap.size+1,0,none⟩) U (by show ¬w.heap.size+1=w.heap.size+2;omega)];exact bq
      have E:Hid (Kept (λk=>k=w.heap.size+2) wr ((A.alloc (.cells #[.string v.key,.int .i64 v.num,.bool v.mark,.slice ap v.body.length t] 123)).alloc (.cells #[.string v.key,.int .i64 v.num,.bool v.mark,.int .i64 (v.body.length:Int)] 94))):=(aY.trans (Kept.alloc (λk=>k=w.heap.size+2) _ _) iL).trans (Kept.alloc (λk=>k=w.heap.size+2) _ _) iL;have aD:Hid (((A.alloc (.cells #[.string v.key,.int .i64 v.num,.bool v.mark,.slice ap v.body.length t] 123)).alloc (.cells #[.string v.key,.int .i64 v.num,.bool v.mark,.int .i64 (v.body.length:Int)] 94)).heap[w.heap.size+2]? =_):=(((Kept.alloc (λ_=>False) _ _).trans (Kept.alloc (λ_=>False) _ _) iL).block _ (by rw [aU];omega) id).trans aQ
      have aA:Hid (((A.alloc (.cells #[.string v.key,.int .i64 v.num,.bool v.mark,.slice ap v.body.length t] 123)).alloc (.cells #[.string v.key,.int .i64 v.num,.bool v.mark,.int .i64 (v.body.length:Int)] 94)).heap[wr.heap.size+1]? =some (.cells (Z8 v).toArray 94 (0,0))):=by have:=heap_alloc_new (A.alloc (.cells #[.string v.key,.int .i64 v.num,.bool v.mark,.slice ap v.body.length t] 123)) (.cells #[.string v.key,.int .i64 v.num,.bool v.mark,.int .i64 (v.body.length:Int)] 94);rw [World.size_alloc,aU] at this;exact this
      rw [ae] at E aD aA;clear ae aY aQ aU;have aE:=E.owns ad (λk x bn=>by have:=y.out k x;omega);change Hid _ at aE;go_wp2_with (refine wpList_append_lies _ rfl (.tmp 104) (.tmp 115) 44 rfl 0 94 au _ 4 40 Tryz.underlying44 T.1 T.2.1 T.2.2.1 T.2.2.2 rfl (by omega) (.slice M j Q) j (zJ (L.take j)) (by rfl) (by exact aE) ⟨wr.heap.size+1,0,none⟩ 1 1 (Z8 v) (by rfl) (by rfl) (by exact World.news_of_block aA) (by simp [Z8,Value.oneCell']) (by omega) (by unfold maxLen;omega) (by omega) (ai _) (wr.heap.size+1+1) (by simp) ?_;intro bP bT az aq X aJ bx;have aN:Hid _:=Kept.grown X (λk x=>x);have bg:Hid _:=d.more hF a5 (by omega) l aM (aI.trans ah.symm) al C y E aD aN aq aJ;have aB:Hid (az.heap[w.heap.size+1]? =some (.cells #[.slice M j Q,.bool false] 90 (0,0))):=(aN.block _ (by have:=E.size;omega) (λa6=>by have:=y.out _ a6;omega)).trans ((E.block _ (by omega) (by omega)).trans C);have bG:az.cell? ⟨w.heap.size+1,0,none⟩=some (.slice M j Q):=(cR aB.out rfl);have bM:az.frozen? ⟨w.heap.size+1,0,none⟩=false:=aa az (w.heap.size+1) 0 _ _ aB.out;change Hid _ at aq aJ;clear X);go_roundw
      case rel=>exact⟨j+1,_,bg⟩
      case measure=>
       rw [bg.len,bc.out];omega
theorem DE(w:World)(ib:Nat)(p k:ByteArray)(n m:Int)(f:p.size<=maxLen)(h:k.size<=maxLen)(b:¬qR p k n m=0):
 Calls Tryz.prog 108 #[.pointer (some ⟨ib,0,none⟩),.string p,.string k,.int .i64 n,.int .i64 m] w λe w'=>e=.returned (.tuple #[.agg #[.slice none 0 0,.bool false],.int .i64 (qR p k n m)])/\Kept (λ_=>False) w w':=by
 obtain⟨c,d⟩:∃c,c=qR p k n m:=⟨_,rfl⟩;have i:Hid (qR p k n m=c):=d.symm;rw [<-d] at b ⊢;have j:(c !=0)=true:=by simpa using b
 clear d b;go_enter Tryz.func108,Tryz.ntmps108;go_wp2_with (go_at_call 155;refine(gx _ p k f h n m).mono ?_;rintro e g ⟨rfl,a⟩;rw [a,i.out];clear a g);exact bodyPost_ret (v:=.tuple #[.agg #[.slice none 0 0,.bool false],.int .i64 c]) (vG Tryz.results108 _ _ w.heap.size 90 _ (0,0) _ rfl (heap_alloc_new w _) Tryz.underlying90 rfl (by kernel_rfl)) rfl ⟨rfl,Kept.alloc _ _ _⟩
theorem ZE{p k:ByteArray}{n m:Int}(h:qR p k n m=0):1<=m/\m<=50:=by
 unfold qR at h;split at h;.omega
 .split at h;.omega
  .omega
structure Jp (w w':World) (L:List zw) (m:Int) (x:Value) (more:Bool) (c:Int):Prop where
 kept:Kept (λ_=>False) w w'
 yes:c=0->uv w w' L m.toNat x more
 no:c≠0->x=.slice none 0 0/\more=false
theorem UE(w:World)(F G:Nat->Prop)(ib:Nat)(vs:List zw)(last:Int)(h:qo w F G ib vs last)(hF:∀k,F k->k<w.heap.size)(q:∀k,G k->k<w.heap.size)(hap:xt vs)(c:vs.length<=6000)(g:∀v∈vs,v.key.size<=9223372036854775807)(p k:ByteArray)(n m:Int)(f:p.size<=maxLen)(i:k.size<=maxLen)(L:List zw)(s:qB vs p k n L):
 Calls Tryz.prog 108 #[.pointer (some ⟨ib,0,none⟩),.string p,.string k,.int .i64 n,.int .i64 m] w λe w'=>∃x a,e=.returned (.tuple #[.agg #[x,.bool a],.int .i64 (qR p k n m)])/\Jp w w' L m x a (qR p k n m):=by
 by_cases b:qR p k n m=0
 .obtain⟨j,t⟩:=ZE b;obtain⟨o,rfl⟩:=lE (show 0<=m by omega);refine(DC w F G ib vs last h hF q hap c g p k n o f i b (by omega) L s).mono ?_;rintro e w' ⟨x,a,rfl,l,r⟩;exact⟨x,a,by rw [b],r,λ_=>l,λd=>absurd b d⟩
 .refine(DE w ib p k n m f i b).mono ?_;rintro e w' ⟨rfl,j⟩;exact⟨_,_,rfl,j,λd=>absurd d b,λ_=>⟨rfl,rfl⟩⟩
end law
namespace book
open Go.RowKit disk ref
theorem jh.pushV{w t:World}{f:Nat}{l:Value}{F J:Nat->Prop}{a b:Option Addr}{O p:Nat}{R vs:List js}(h:jh w f l F J a b O p R vs)(ab:vs.length<4398046511104)(e:js)(aa:e.ss.length=4)
 (Y:Xz w e.P e.g e.ss vs.length) (x:∀k,e.P k->¬F k/\¬J k/\k≠f/\k<w.heap.size) (A:¬F e.g/\¬J e.g/\e.g≠f/\e.g<w.heap.size)
 (ad:Obj) (m v:Nat) (y:t.ownsRow 0 129 1 (.slice (some ⟨m,0,none⟩) (vs.length+1) v) (vs.length+1) (vs.map js.val++[.slice (some ⟨e.g,0,none⟩) 4 4]))
 (E:(w.alloc ad).grownBy t (Value.slice b vs.length p).ownBlock) (H:(Value.slice b vs.length p).ownBlock=some m\/m=w.heap.size+1):
 jh (t.setCell ⟨f,2,none⟩ (.slice (some ⟨m,0,none⟩) (vs.length+1) v)) f l F (λk=>J k\/e.P k\/k=e.g\/k=m) a (some ⟨m,0,none⟩) O v R (vs++[e])/\
  Kept (λk=>(Value.slice b vs.length p).ownBlock=some k\/k=f) w (t.setCell ⟨f,2,none⟩ (.slice (some ⟨m,0,none⟩) (vs.length+1) v)):=by
 have V:=h.head.lt;have o:∀k,(Value.slice b vs.length p).ownBlock=some k->J k:=λk d=>h.rows.foot2 k d;have k1:Kept (λk=>(Value.slice b vs.length p).ownBlock=some k) w t:=(Kept.alloc _ w ad).trans (Kept.grown (S:=λk=>(Value.slice b vs.length p).ownBlock=some k) E (λk d=>d)) iL;have k2:=Kept.setCell (S:=λk=>k=f) t ⟨f,2,none⟩ (.slice (some ⟨m,0,none⟩) (vs.length+1) v) rfl;have u:Kept (λk=>(Value.slice b vs.length p).ownBlock=some k\/k=f) w (t.setCell ⟨f,2,none⟩ (.slice (some ⟨m,0,none⟩) (vs.length+1) v)):=(k1.mono iL).trans k2 (λ_ h=>.inl (.inr h));have r:(vs++[e]).length=vs.length+1:=by simp
 have C:J m\/w.heap.size<=m:=by
  rcases H with g|g;.exact .inl (o _ g)
  .exact .inr (by omega)
 have G:m≠f:=by
  rcases C with q|q;.exact λg=>h.hbp (by rw [<-g];exact q)
  .omega
 have s:∀i (j:i<(vs++[e]).length),(∃n:i<vs.length,(vs++[e])[i]=vs[i])\/(i=vs.length/\(vs++[e])[i]=e):=λi j=>by
  by_cases q:i<vs.length;.exact .inl ⟨q,ie q⟩
  .right;have g:i=vs.length:=by omega
   subst g;exact⟨rfl,by simp⟩
 have M:∀i (j:i<vs.length) k,vs[i].P k->¬((Value.slice b vs.length p).ownBlock=some k\/k=f):=λi j k d c=>by
  rcases c with c|c;.exact h.rows.row2 i j k d c
  .exact h.hbp (by rw [<-c];exact(h.rows.foot i j).2 k d)
 have L:∀i (j:i<vs.length),¬((Value.slice b vs.length p).ownBlock=some vs[i].g\/vs[i].g=f):=λi j c=>by
  rcases c with c|c
  .rcases h.rows.row.2 with⟨af,q⟩|⟨ag,X,ae,Z,_,T,_⟩;.omega
   .rw [Z] at c;simp [Value.ownBlock] at c;subst c;have:=(h.rows.vets i j).head;rw [T] at this;simp at this
  .exact h.hbp (by rw [<-c];exact(h.rows.foot i j).1)
 have N:∀k,e.P k->¬((Value.slice b vs.length p).ownBlock=some k\/k=f):=λk d c=>by
  rcases c with c|c;.exact(x k d).2.1 (o k c)
  .exact(x k d).2.2.1 c
 have I:¬((Value.slice b vs.length p).ownBlock=some e.g\/e.g=f):=λc=>by
  rcases c with c|c;.exact A.2.1 (o _ c)
  .exact A.2.2.1 c
 have B:=h.flt;have z:=h.hlt;have W:=u.size
 have D:m<(t.setCell ⟨f,2,none⟩ (.slice (some ⟨m,0,none⟩) (vs.length+1) v)).heap.size:=by have:=(y.lt m rfl).2;simpa using this
 have K:∀k,J k->k<w.heap.size->(k=m->(Value.slice b vs.length p).ownBlock=some k):=λk d ac g=>by
  rcases H with P|P;.rw [g];exact P
  .omega
 refine⟨⟨⟨?_⟩,h.bytes.kept u (λi j c=>?_),⟨?_,λi j=>?_,λi j=>?_,λk d=>?_,λi j k d=>?_⟩,h.fbp,λc=>?_,λk d c=>?_,h.few,by rw [r];omega,λk d=>by have:=B k d;omega,λk d=>?_⟩,u⟩
 .rw [r];have g:=(k1.block f V (λc=>h.hbp (o f c))).trans h.head.head;rw [heap_setCell_same t f 2 _ _ _ g];rfl
 .rcases c with c|c;.exact h.apart i j (o i c)
  .exact h.fbp (by rw [<-c];exact j)
 .rw [r,eh];have:=k2.owns y (λk d g=>by simp [Value.ownBlock] at d;omega);simpa [js.val,aa] using this
 .rcases s i j with⟨n,g⟩|⟨rfl,g⟩;.rw [g];exact(h.rows.vets i n).kept u (M i n) (L i n)
  .rw [g];exact Y.kept u N I
 .rcases s i j with⟨n,g⟩|⟨rfl,g⟩<;>rw [g]
  .exact⟨.inl (h.rows.foot i n).1,λk d=>.inl ((h.rows.foot i n).2 k d)⟩
  .exact⟨.inr (.inr (.inl rfl)),λk d=>.inr (.inl d)⟩
 .rw [r] at d;simp only [Value.ownBlock,iA] at d;exact .inr (.inr (.inr d.symm))
 .rw [r];simp only [Value.ownBlock,ne_eq,iA];intro U;rcases s i j with⟨n,g⟩|⟨rfl,g⟩<;>rw [g] at d
  .have Q:=(h.rows.foot i n).2 k d;exact h.rows.row2 i n k d (K k Q (z k Q) U.symm)
  .rcases C with q|q;.exact(x k d).2.1 (by rw [<-U];exact q)
   .have:=(x k d).2.2.2;omega
 .rcases c with c|c|c|c;.exact h.hbp c
  .exact(x f c).2.2.1 rfl
  .exact A.2.2.1 c.symm
  .exact G c.symm
 .rcases c with c|c|c|c;.exact h.apart k d c
  .exact(x k c).1 d
  .exact A.1 (by rw [<-c];exact d)
  .rcases C with q|q;.exact h.apart k d (by rw [c];exact q)
   .have:=B k d;omega
 .rcases d with d|d|d|d;.have:=z k d;omega
  .have:=(x k d).2.2.2;omega
  .have:=A.2.2.2;omega
  .rw [d];exact D
structure Vo (W:World) (ty:TypeId) (Pz:World->Value->Value->Value->World->Prop) (L:Nat->Bool) (x:Nat->Value) (w W1 w2:World) (v0 v1 c:Value):Prop where
 k1:Kept (λ_=>False) W W1
 post:Pz W1 v0 v1 c w2
 ge:W.heap.size<=w2.heap.size
 x12:x 12=.tuple #[.agg #[v0,v1],c]
 x13:L 13=true->x 13=.tuple #[.agg #[v0,v1],c]
 x14:L 14=true->x 14=.agg #[v0,v1]
 x15:L 15=true->x 15=c
 x18:L 18=true->x 18=c
 no:L 16=false->w=w2/\L 17=false
 yes:L 16=true->∃b,x 16=.pointer (some ⟨b,0,none⟩)/\W.heap.size<=b/\(b<W1.heap.size\/w2.heap.size<=b)/\Kept (λk=>k=b) w2 w/\∃u0 u1,w.heap[b]? =some (.cells #[u0,u1] ty (0,0))/\(L 17=true->u0=v0/\u1=v1)
structure ym (W:World) (ty:TypeId) (Z:Nat->Value) (Pz:World->Value->Value->Value->World->Prop) (L:Nat->Bool) (x:Nat->Value) (w:World):Prop where
 pv:∀i,i<12->L i=true->x i=Z i
 early:L 12=false->Kept (λ_=>False) W w/\L 13=false/\L 14=false/\L 15=false/\L 17=false/\L 18=false
 room:L 12=false->L 16=true->∃b,x 16=.pointer (some ⟨b,0,none⟩)/\W.heap.size<=b/\∃u0 u1,w.heap[b]? =some (.cells #[u0,u1] ty (0,0))
 late:L 12=true->∃W1 w2 v0 v1 c,Vo W ty Pz L x w W1 w2 v0 v1 c
 dep:L 12=true->L 3=true/\L 5=true/\L 7=true/\L 9=true/\L 11=true
section
variable {W:World} {ty:TypeId} {Z:Nat->Value} {Pz:World->Value->Value->Value->World->Prop} {L:Nat->Bool} {x:Nat->Value} {w:World}
theorem ym.start(x:Nat->Value):ym W ty Z Pz (λ_=>false) x W.drew:=⟨λ_ _ h=>(by cases h),λ_=>⟨Kept.drew _ W,rfl,rfl,rfl,rfl,rfl⟩,λ_ h=>(by cases h),λh=>(by cases h),λh=>(by cases h)⟩
theorem ym.l12(h:ym W ty Z Pz L x w){i:Nat}(d:L i=false)(g:i=3\/i=5\/i=7\/i=9\/i=11:=by decide):L 12=false:=by
 cases f:L 12 with
 |false=>rfl
 |true=>
  obtain⟨a,b,c,j,e⟩:=h.dep f;rcases g with rfl|rfl|rfl|rfl|rfl<;>first|cases a.symm.trans d|cases b.symm.trans d|cases c.symm.trans d|cases j.symm.trans d|cases e.symm.trans d
theorem ym.t12(h:ym W ty Z Pz L x w){i:Nat}(e:L i=true)(f:i=13\/i=14\/i=15:=by decide):L 12=true:=by
 cases d:L 12 with
 |true=>rfl
 |false=>
  obtain⟨_,a,b,c,_⟩:=h.early d;rcases f with rfl|rfl|rfl<;>first|cases a.symm.trans e|cases b.symm.trans e|cases c.symm.trans e
theorem ym.pure(h:ym W ty Z Pz L x w)(i:Nat)(o:i<12):ym W ty Z Pz (λj=>decide (j=i)||L j) (λj=>if j=i then Z i else x j) w:=by
 have a:∀j,12<=j->(decide (j=i)||L j)=L j/\(if j=i then Z i else x j)=x j:=λj d=>by
  have:¬j=i:=by omega
  simp [this]
 refine⟨λj d b=>?_,λb=>?_,λg f=>?_,λb=>?_,λb=>by simp only [(a 12 (by omega)).1] at b;simp [h.dep b]⟩
 .by_cases e:j=i;.subst e;simp
  .simp only [e,if_false];exact h.pv j d (by simpa [e] using b)
 .simp only [(a 12 (by omega)).1,(a 13 (by omega)).1,(a 14 (by omega)).1,(a 15 (by omega)).1,(a 17 (by omega)).1,(a 18 (by omega)).1] at b ⊢;exact h.early b
 .simp only [(a 12 (by omega)).1,(a 16 (by omega)).1,(a 16 (by omega)).2] at g f ⊢;exact h.room g f
 .simp only [(a 12 (by omega)).1] at b;obtain⟨n,m,l,k,c,q⟩:=h.late b;refine⟨n,m,l,k,c,q.k1,q.post,q.ge,?_,?_,?_,?_,?_,?_,?_⟩<;>simp only [(a 12 (by omega)).2,(a 13 (by omega)).1,(a 13 (by omega)).2,(a 14 (by omega)).1,(a 14 (by omega)).2,(a 15 (by omega)).1,(a 15 (by omega)).2,(a 16 (by omega)).1,(a 16 (by omega)).2,(a 17 (by omega)).1,(a 18 (by omega)).1,(a 18 (by omega)).2]
  .exact q.x12
  .exact q.x13
  .exact q.x14
  .exact q.x15
  .exact q.x18
  .exact q.no
  .exact q.yes
theorem ym.call(h:ym W ty Z Pz L x w)(a:L 12=false)(m l c:Value)(d:World)(T:Nat->Prop)(A:∀k,T k->k<W.heap.size)(r:Kept T w d)(u:Pz w m l c d)(v:L 3=true/\L 5=true/\L 7=true/\L 9=true/\L 11=true):ym W ty Z Pz (λj=>decide (j=12)||L j) (λj=>if j=12 then .tuple #[.agg #[m,l],c] else x j) d:=by
 obtain⟨k0,q,s,n,f,t⟩:=h.early a;refine⟨λj z a=>?_,λa=>?_,λi=>?_,λ_=>⟨w,d,m,l,c,k0,u,aF k0.size r.size,?_,?_,?_,?_,?_,?_,?_⟩,λ_=>by simp [v]⟩
 .have e:¬j=12:=by omega
  simp only [e,if_false];exact h.pv j z (by simpa [e] using a)
 .simp at a
 .simp at i
 .simp
 .simp [q]
 .simp [s]
 .simp [n]
 .simp [t]
 .intro g;simp [f]
 .intro g;obtain⟨b,i,y,u0,u1,o⟩:=h.room a (by simpa using g);have p:=(lT o);exact⟨b,by simpa using i,y,.inl p,Kept.refl _ _,u0,u1,(r.block b p (λB=>by have:=A b B;omega)).trans o,by simp [f]⟩
theorem ym.part13(h:ym W ty Z Pz L x w)(a:L 12=true)(l:L 13=false):ym W ty Z Pz (λj=>decide (j=13)||L j) (λj=>if j=13 then x 12 else x j) w:=by
 obtain⟨k,i,g,f,c,q⟩:=h.late a;refine⟨λj d a=>?_,λb=>?_,λb=>?_,λ_=>⟨k,i,g,f,c,q.k1,q.post,q.ge,?_,?_,?_,?_,?_,?_,?_⟩,λ_=>by simp [h.dep a]⟩
 .have e:¬j=13:=by omega
  simp only [e,if_false];exact h.pv j d (by simpa [e] using a)
 .simp [a] at b
 .simp [a] at b
 .simpa using q.x12
 .simpa using q.x12
 .simpa using q.x14
 .simpa using q.x15
 .simpa using q.x18
 .simpa using q.no
 .simpa using q.yes
theorem ym.part14(h:ym W ty Z Pz L x w)(a:L 12=true)(v:Value)(m:∀g f d b c,Vo W ty Pz L x w g f d b c->v=.agg #[d,b]):ym W ty Z Pz (λj=>decide (j=14)||L j) (λj=>if j=14 then v else x j) w:=by
 obtain⟨g,f,d,b,c,q⟩:=h.late a;have k:=m g f d b c q;refine⟨λj l a=>?_,λi=>?_,λi=>?_,λ_=>⟨g,f,d,b,c,q.k1,q.post,q.ge,?_,?_,?_,?_,?_,?_,?_⟩,λ_=>by simp [h.dep a]⟩
 .have e:¬j=14:=by omega
  simp only [e,if_false];exact h.pv j l (by simpa [e] using a)
 .simp [a] at i
 .simp [a] at i
 .simpa using q.x12
 .simpa using q.x13
 .simpa using k
 .simpa using q.x15
 .simpa using q.x18
 .simpa using q.no
 .simpa using q.yes
theorem ym.part15(h:ym W ty Z Pz L x w)(a:L 12=true)(v:Value)(m:∀g f d b c,Vo W ty Pz L x w g f d b c->v=c):ym W ty Z Pz (λj=>decide (j=15)||L j) (λj=>if j=15 then v else x j) w:=by
 obtain⟨g,f,d,b,c,q⟩:=h.late a;have k:=m g f d b c q;refine⟨λj l a=>?_,λi=>?_,λi=>?_,λ_=>⟨g,f,d,b,c,q.k1,q.post,q.ge,?_,?_,?_,?_,?_,?_,?_⟩,λ_=>by simp [h.dep a]⟩
 .have e:¬j=15:=by omega
  simp only [e,if_false];exact h.pv j l (by simpa [e] using a)
 .simp [a] at i
 .simp [a] at i
 .simpa using q.x12
 .simpa using q.x13
 .simpa using q.x14
 .simpa using k
 .simpa using q.x18
 .simpa using q.no
 .simpa using q.yes
theorem ym.part18(h:ym W ty Z Pz L x w)(a:L 12=true)(v:Value)(m:∀g f d b c,Vo W ty Pz L x w g f d b c->v=c):ym W ty Z Pz (λj=>decide (j=18)||L j) (λj=>if j=18 then v else x j) w:=by
 obtain⟨g,f,d,b,c,q⟩:=h.late a;have k:=m g f d b c q;refine⟨λj l a=>?_,λi=>?_,λi=>?_,λ_=>⟨g,f,d,b,c,q.k1,q.post,q.ge,?_,?_,?_,?_,?_,?_,?_⟩,λ_=>by simp [h.dep a]⟩
 .have e:¬j=18:=by omega
  simp only [e,if_false];exact h.pv j l (by simpa [e] using a)
 .simp [a] at i
 .simp [a] at i
 .simpa using q.x12
 .simpa using q.x13
 .simpa using q.x14
 .simpa using q.x15
 .simpa using k
 .simpa using q.no
 .simpa using q.yes
theorem ym.make(h:ym W ty Z Pz L x w)(i:L 16=false)(u0 u1:Value):ym W ty Z Pz (λj=>decide (j=16)||L j) (λj=>if j=16 then .pointer (some ⟨w.heap.size,0,none⟩) else x j) (w.alloc (.cells #[u0,u1] ty)):=by
 have b:∀j,j<12->(decide (j=16)||L j)=true->(if j=16 then Value.pointer (some ⟨w.heap.size,0,none⟩) else x j)=Z j:=λj k f=>by
  have e:¬j=16:=by omega
  simp only [e,if_false];exact h.pv j k (by simpa [e] using f)
 refine⟨b,λa=>?_,λa _=>?_,λa=>?_,λa=>by simp [h.dep (by simpa using a)]⟩
 .obtain⟨k0,l⟩:=h.early (by simpa using a);exact⟨k0.trans (Kept.alloc _ _ _) iL,by simpa using l⟩
 .obtain⟨k0,_⟩:=h.early (by simpa using a);exact⟨w.heap.size,by simp,k0.size,u0,u1,heap_alloc_new w _⟩
 .obtain⟨p,o,n,m,c,q⟩:=h.late (by simpa using a);obtain⟨e,d⟩:=q.no i;refine⟨p,o,n,m,c,q.k1,q.post,q.ge,by simpa using q.x12,by simpa using q.x13,by simpa using q.x14,by simpa using q.x15,by simpa using q.x18,λg=>by simp at g,λ_=>⟨w.heap.size,by simp,by rw [e];exact q.ge,.inr (by rw [e];exact aC _),by rw [e];exact Kept.alloc _ _ _,u0,u1,heap_alloc_new w _,by simp [d]⟩⟩
theorem ym.lay(h:ym W ty Z Pz L x w)(f:L 12=true)(m:L 16=true)(y:L 17=false):∃b d a,x 16=.pointer (some ⟨b,0,none⟩)/\(L 14=true->x 14=.agg #[d,a])/\(∃u0 u1,w.heap[b]? =some (.cells #[u0,u1] ty (0,0)))/\(∃l c i,Pz l d a c i)/\
 ∀u,ym W ty Z Pz (λj=>decide (j=17)||L j) (λj=>if j=17 then u else x j) ((w.setCell ⟨b,0,none⟩ d).setCell ⟨b,1,none⟩ a):=by
 obtain⟨l,i,d,a,c,q⟩:=h.late f;obtain⟨b,n,p,r,v,u0,u1,o,z⟩:=q.yes m;refine⟨b,d,a,n,q.x14,⟨u0,u1,o⟩,⟨l,c,i,q.post⟩,λu=>⟨λj t f=>?_,λg=>?_,λg=>?_,λ_=>⟨l,i,d,a,c,q.k1,q.post,q.ge,by simpa using q.x12,by simpa using q.x13,by simpa using q.x14,by simpa using q.x15,by simpa using q.x18,λg=>by simp [m] at g,λ_=>⟨b,by simpa using n,p,r,?_,d,a,?_,λ_=>⟨rfl,rfl⟩⟩⟩,λ_=>by simp [h.dep f]⟩⟩
 .have e:¬j=17:=by omega
  simp only [e,if_false];exact h.pv j t (by simpa [e] using f)
 .simp [f] at g
 .simp [f] at g
 .exact(v.trans (Kept.setCell (S:=λk=>k=b) w ⟨b,0,none⟩ d rfl) iL).trans (Kept.setCell (S:=λk=>k=b) _ ⟨b,1,none⟩ a rfl) iL
 .have s:=heap_setCell_same w b 0 _ _ d o;exact heap_setCell_same _ b 1 _ _ a s
end
end book
end Go.Proofs.YtcoengihaobddaaGreatDoor

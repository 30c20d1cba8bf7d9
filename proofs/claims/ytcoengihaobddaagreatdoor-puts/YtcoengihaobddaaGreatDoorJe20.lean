/- Part 20 of 50 of a proof: Law12, Law13 -/
import Derived.Test.YtcoengihaobddaaGreatDoorJe19
set_option maxHeartbeats 8000000
set_option linter.unusedVariables false
set_option linter.unusedSimpArgs false
set_option maxRecDepth 8000
namespace Go.Proofs.YtcoengihaobddaaGreatDoor
namespace law
open Go.ChangeShapes Go.WideShapes Go.ChangeAt Go.RowKit disk ref book
open keys (zg zd zq zl zh)
theorem qt.whole{M:za}{w w':World}{d m t:Nat}{c:List (Nat×(Nat->Prop))}{h:Option Addr}{f:Nat}{F q:Nat->Prop}{a b:Option Addr}{n g:Nat}{l vs:List js}(p:qt M w d m t c h f F q a b n g l vs)(r:jh w' m (.slice h c.length f) F q a b n g l vs)(k:Kept F w w'):qt M w' d m t c h f F q a b n g l vs:=
 ⟨k.owns p.row (λi e o=>(p.rowF i e).1 o),r,λi e=>(p.one i e).kept k (λj s o=>(p.sep i e j s).1 o),p.apart,p.sep,p.rsep,p.rowF,p.bX,p.bF,p.bH,p.bP,p.fewE,p.fewV,p.fewO⟩
theorem Kk(M:za)(w:World):ju M (w.alloc (.cells #[.slice none 0 0,.slice none 0 0,.slice none 0 0] 79)) w.heap.size w.heap.size 0:=by
 refine⟨[],none,0,λ_=>False,λ_=>False,none,none,0,0,[],[],aP _ _ _ _,⟨⟨heap_alloc_new w _⟩,⟨aP _ _ _ _,λi a=>by simp at a,λi a=>by simp at a,λi j a=>by simp at a,λi a=>by simp at a,λi a=>by simp at a,λk c=>by cases c⟩,⟨aP _ _ _ _,λi a=>by simp at a,λi a=>by simp at a,λk c=>(by cases c),λi a=>by simp at a⟩,λb=>b,λb=>b,λ_ b=>b.elim,by simp,by simp,λ_ b=>b.elim,λ_ b=>b.elim⟩,λi a=>by simp at a,λi j a=>by simp at a,λi a=>by simp at a,λi a=>by simp at a,λk c=>(by cases c),λi a=>by simp at a,λ_ b=>b.elim,λ_ b=>b.elim,aC _,aC _,aC _,aC _⟩
def Yq(M:za)(kl:List Int):Prop:=∀(w:World) (base bp t:Nat) (od:yC),ju M w base bp t->base<=w.heap.size->t<=2199023255552->od.Ok w (λk=>k<base)->od.kind∈kl->(od.kind=1->od.C<=0)->
 Calls Tryz.prog 37 #[.pointer (some ⟨bp,0,none⟩),.agg #[.int .i64 od.kind,.int .i64 od.A,.int .i64 od.B,.int .i64 od.C,.string od.S,.string od.P,.slice od.la od.l.length od.lc,.slice od.ka od.ks.length od.kc]] w λe w'=>e=.returned (.bool true)/\ju M w' base bp (t+1)/\Kept (λk=>base<=k) w w'
def BI(kl:List Int)(j:Nat)(k:Int):Bool:=(kl.take j).any λx=>k==x
theorem Da(a:List Int)(j:Nat)(h:j<a.length)(k:Int):BI a (j+1) k=(BI a j k||(k==a[j])):=by
 unfold BI;rw [ar h,List.any_append];simp
theorem Bo{a:List Int}{k:Int}(h:BI a a.length k=true):k∈a:=by
 unfold BI at h;rw [eX,List.any_eq_true] at h;obtain⟨d,c,b⟩:=h;have:k=d:=by simpa using b
 rw [this];exact c
theorem dE(M:za)(w:World)(Q:Nat->Prop)(J:∀k,Q k->k<w.heap.size)(a:Option Addr)(cap:Nat)(d:List yC)(h:jQ w Q a d)(Z:d.length<=1256584717449)(aa aJ:Nat)(r:List Int)(K:fH w aa r)(ak:∀k∈r,k≠8)(ar:r.length<=100)(L:Yq M r):
 Calls Tryz.prog 13 #[.slice a d.length cap,.slice (some ⟨aa,0,none⟩) r.length aJ] w λe w'=>e=.returned (.bool true)/\Kept (λ_=>False) w w':=by
 have aK:Hid _:=h;have ag:Hid _:=K;change Hid _ at ak J;clear h K;go_enter Tryz.func13,Tryz.ntmps13;go_wp2_with fail;refine(Kj _ Q a cap d aK Z aa aJ r ag ak ar).mono ?_;rintro e s ⟨bh,rfl,x,ah,ae,rfl,q,ad⟩;have W:∀g,(Value.slice ah d.length ae).ownBlock=some g->g<s.heap.size:=λg ab=>(World.ownsRow.lt q g ab).2;have al:Hid _:=q;have a1:=x.size;change Hid _ at x W;clear q ad;have N:=Kk M s;change Hid _ at N;have T:=Kept.alloc (λ_=>False) s (.cells #[.slice none 0 0,.slice none 0 0,.slice none 0 0] 79);change Hid _ at T;go_wp2;go_loopw [6] (λt wr=>∃k:Nat,k<=d.length/\t=.int .i64 k/\ju M wr s.heap.size s.heap.size k/\Kept (λk=>s.heap.size<=k) s wr) (λt _=>d.length-(intOf t).toNat)
 case atStart=>exact⟨0,ai _,rfl,N,T.mono fE⟩
 case round=>
  obtain⟨k,K,rfl,af,f⟩:=hrel;have au:=f.size;change Hid _ at af f;by_cases C:k<d.length
  .have q:wr.ownsRow 0 81 8 (.slice ah d.length ae) d.length ((d.map yC.spare).map yC.cells).flatten:=by
    have o:=f.owns al (λg ab I=>by have:=W.out g ab;omega);rw [eX] at o;exact o
   obtain⟨g,rfl⟩:∃g,ah=some ⟨g,0,none⟩:=by
    rcases q.2 with⟨a9,o⟩|⟨g,aS,a0,aQ,_⟩;.omega
    .cases aQ;exact⟨g,rfl⟩
   have O:∀c∈(d.map yC.spare).map yC.cells,c.length=8:=λc I=>by obtain⟨bg,_,rfl⟩:=av.1 I;rfl
   have A:((d.map yC.spare).map yC.cells).length=d.length:=by simp
   have m:=q9 (w:=wr) (e:= 81) (c:=8) (g:=g) (cap:=ae) (l:=(d.map yC.spare).map yC.cells) (by rw [A];exact q) O k (by rw [A];exact C);have S:((d.map yC.spare).map yC.cells)[k]'(by rw [A];exact C)=d[k].spare.cells:=by simp
   rw [S] at m
   have U:d[k].spare.Ok wr (λk=>k<s.heap.size):=by
    have o:=((aK.ok k C).spare.kept x nF).kept f (λi B I=>by have:=J.out i B;omega)
    exact⟨o.kind,o.A,o.B,o.C,o.S,o.P,o.l.mono (λi B _=>by have:=J.out i B;omega),o.len,o.klen,λj ao=>by
     obtain⟨X,aO,aX,aT,aY,aP⟩:=o.ks j ao
     exact⟨X,aO,aX,by have:=J.out X aT;omega,aY,aP⟩⟩
   have aq:d[k].spare.kind=1->d[k].spare.C<=0:=λo=>by
    unfold yC.spare at o ⊢;by_cases Y:d[k].kind=1;.rw [aB Y];exact eD _
    .rw [az Y] at o;exact absurd o Y
   have V:=(ag.kept x (λaW=>aW)).kept f (λI=>by have:=ag.lt;omega);generalize d[k].spare=p at*;have a7:wr.cell? ⟨g,k*8,none⟩=some (.int .i64 p.kind):=m 0 _ rfl;have a8:wr.cell? ⟨g,k*8+1,none⟩=some (.int .i64 p.A):=m 1 _ rfl;have be:wr.cell? ⟨g,k*8+2,none⟩=some (.int .i64 p.B):=m 2 _ rfl;have a5:wr.cell? ⟨g,k*8+3,none⟩=some (.int .i64 p.C):=m 3 _ rfl;have bb:wr.cell? ⟨g,k*8+4,none⟩=some (.string p.S):=m 4 _ rfl;have bd:wr.cell? ⟨g,k*8+5,none⟩=some (.string p.P):=m 5 _ rfl;have a6:wr.cell? ⟨g,k*8+6,none⟩=some (.slice p.la p.l.length p.lc):=m 6 _ rfl;have bc:wr.cell? ⟨g,k*8+7,none⟩=some (.slice p.ka p.ks.length p.kc):=m 7 _ rfl;change Hid _ at U aq V;clear q O A m S;go_wp2;go_loopw [7,8] (λb t aN=>∃j:Nat,j<=r.length/\t=.int .i64 j/\b=.bool (BI r j p.kind)/\∃n,aN=wr.drewN n) (λ_ t _=>r.length-(intOf t).toNat)
   case atStart=>exact⟨0,ai _,rfl,rfl,0,rfl⟩
   case round=>
    obtain⟨j,ao,rfl,rfl,n,rfl⟩:=hrel;by_cases G:j<r.length
    .have aZ:=V.cell j G;have aI:Hid _:=Da r j G p.kind;cases u:BI r j p.kind
     .have ac:Hid _:=u;clear u;go_wp2;go_quiet (fail);go_wp2;go_roundw
      case rel=>exact⟨j+1,by omega,by go_num,by rw [aI.out,ac.out,Bool.false_or],_,rfl⟩
      case measure=>simp [intOf];omega
     .have ac:Hid _:=u;clear u;go_wp2;go_quiet (fail);go_wp2;go_roundw
      case rel=>exact⟨j+1,by omega,by go_num,by rw [aI.out,ac.out,Bool.true_or],_,rfl⟩
      case measure=>simp [intOf];omega
    .have aE:j=r.length:=by omega
     have v:Kept (λ_=>False) wr (wr.drewN n):=kD;change Hid _ at v;cases u:BI r j p.kind
     .clear u;go_wp2;obtain⟨D,aG,aj,F,a3,ap,aH,ax,aD,aF,vs,y⟩:=af.out;have B9:=y.idle v.out;go_roundw
      case rel=>exact⟨k+1,by omega,by go_num,B9.1,f.trans B9.2 iL⟩
      case measure=>simp [intOf];omega
     .have H:=Bo (by rw [<-aE];exact u);change Hid _ at H;clear u aE;obtain⟨D,aG,aj,F,a3,ap,aH,ax,aD,aF,vs,y⟩:=af.out;have aw:Hid (ju M (wr.drewN n) s.heap.size s.heap.size k):=⟨D,aG,aj,F,a3,ap,aH,ax,aD,aF,vs,y.kept0 v⟩;clear y;go_wp2_with fail;refine(L _ _ _ _ p aw (by exact au) (by omega) (by exact U.kept v nF) H aq).mono ?_;rintro e bf ⟨rfl,aU,P⟩;obtain⟨aL,a2,a4,F',aR,aV,aM,ay,am,aA,an,z⟩:=aU;change Hid _ at z P;go_wp2_with fail;refine(Ub _ _ _ F' aR aV aM ay am aA an z.book).mono ?_;rintro e ba ⟨rfl,R,E⟩;have aC:Hid _:=z.whole R E;change Hid _ at E;clear R;go_wp2;go_roundw
      case rel=>exact⟨k+1,by omega,by go_num,⟨_,_,_,_,_,_,_,_,_,_,_,aC⟩,((f.trans v fE).trans P iL).trans E (λi B=>.inl (z.bF i B))⟩
      case measure=>simp [intOf];omega
  .go_wp2;go_ret;exact⟨rfl,x.trans f (λk K=>.inr (by omega))⟩
theorem XY(M:za)(z:zL M)(P:qx M)(y:jp M)(A:yU M)(s:∀f,M.Fu f->f≠0):Yq M [1,2,5,6]:=by
 intro w e q t o v d n h c x;obtain⟨g,l,i,F,u,a,b,r,j,m,vs,p⟩:=v;simp only [aq,eY,or_false] at c;rcases c with c|c|c|c;.exact Zo M z s w e q t g l i F u a b r j m vs p d n o _ h (λk c=>c) c (x c)
 .exact XU M P w e q t g l i F u a b r j m vs p d n o _ h (λk c=>c) c
 .exact XV M y w e q t g l i F u a b r j m vs p d n o _ h (λk c=>c) c
 .exact Vg M A w e q t g l i F u a b r j m vs p d n o _ h (λk c=>c) c
theorem Db(M:za)(q:zL M)(P:qx M)(o:jp M)(A:yU M)(g:∀f,M.Fu f->f≠0)(w:World)(Q:Nat->Prop)(i:∀k,Q k->k<w.heap.size)(a:Option Addr)(cap:Nat)(b:List yC)(h:jQ w Q a b)(d:b.length<=1256584717449):
 Calls Tryz.prog 3 #[.slice a b.length cap] w λe w'=>e=.returned (.bool true)/\Kept (λ_=>False) w w':=by
 have n:Hid _:=h;have m:Hid _:=i;have j:Hid _:=XY M q P o A g;clear h i;go_enter Tryz.func3,Tryz.ntmps3;go_wp2_with fail;refine(dE M _ Q (λk c=>by have:=m.out k c;simp;omega) a cap b (n.out.kept (Kept.alloc (λ_=>False) w _) nF) d w.heap.size 4 [1,2,5,6] ⟨heap_alloc_new w _⟩ (by decide) (by decide) j.out).mono ?_;rintro e p ⟨rfl,c⟩;have l:Hid _:=c;clear c;go_wp2;go_ret;exact⟨rfl,(Kept.alloc _ w _).trans l.out iL⟩
end law
end Go.Proofs.YtcoengihaobddaaGreatDoor

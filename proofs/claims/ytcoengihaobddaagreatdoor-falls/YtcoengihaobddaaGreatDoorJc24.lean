/- Part 24 of 36 of a proof: Sto2, Sto3, Lck, BGet1, Get1, Get2, At1 -/
import Derived.Test.YtcoengihaobddaaGreatDoorJc23
import Derived.Conc.RwLib
import Derived.Conc.MuLone
import Derived.Defers
set_option maxHeartbeats 8000000
set_option linter.unusedVariables false
set_option linter.unusedSimpArgs false
set_option maxRecDepth 8000
namespace Go.Proofs.YtcoengihaobddaaGreatDoor
open Go.ChangeShapes Go.WideShapes Go.ChangeAt Go.RowKit disk ref
namespace prog
open keys (zh ze zy zs)
attribute [local go_sem] Oper.semAt_some
def jc:Option En->List Value
 |some x=>qt x
 |none=>qz
structure ZV (w1:World) (bd:Nat) (S:Nat->Prop) (D:Dk) (r:Int) (pre:List En) (Q:Nat->Prop) (A:World):Prop where
 pre:pre=[]
 q:∀k,¬Q k
 disk:zg A bd S {D with reads:=r}
 kept:za (λk=>k=bd\/w1.heap.size<=k) w1 A
 rd:D.reads+1<=r
structure GH (w1:World) (bd:Nat) (S:Nat->Prop) (D:Dk) (b4 b5:Nat) (o:Option En) (c:Code) (r:Int) (A:World):Prop where
 c:c=.ret
 is:∃x,o=some x/\A.heap[b4]? =some (.cells (qt x).toArray 109 (0,0))/\A.heap[b5]? =some (.cells #[.bool true] 4 (0,0))
 disk:zg A bd S {D with reads:=r}
 kept:za (λk=>k=bd\/k=b4\/k=b5\/w1.heap.size<=k) w1 A
 rd:D.reads+1<=r/\r<=D.reads+14
theorem ZV.by{a:World}{bd:Nat}{S:Nat->Prop}{D:Dk}{r b:Int}{pre:List En}{Q j:Nat->Prop}{A B:World}(h:ZV a bd S D r pre Q A)(g:za j A B)(e:∀k,j k->k=bd\/a.heap.size<=k)(c:zg B bd S {D with reads:=b })(d:r<=b):ZV a bd S D b pre Q B:=
 ⟨h.pre,h.q,c,h.kept.trans g (λi f=>.inl (e i f)),lC h.rd d⟩
theorem gX{P:Program}{fn:Func}{p u:Tmp}{a f:TypeId}(h:fn.results=#[.cell p a,.cell u f])(tmps:Array Value)(w:World)(g e:Nat)(t s:TypeId)(b:Array Value)(k y:Nat×Nat)(d x:TypeDesc)(v:Value)
 (l:tmps.getD p undef=.pointer (some ⟨g,0,none⟩)) (o:w.heap[g]? =some (.cells b t k))
 (n:P.underlying a=some d) (m:(match d with|.struct _|.array _ _=>true|_=>false)=true) (q:(P.info? a).map (·.size)=some b.size)
 (j:tmps.getD u undef=.pointer (some ⟨e,0,none⟩)) (r:(loadVar f ⟨e,0,none⟩).run P w=.ok v w):
 (results fn tmps).run P w=.ok (.tuple #[.agg b,v]) w:=by
 have i:tmps[p]?.getD undef=.pointer (some ⟨g,0,none⟩):=by simpa using l
 have c:tmps[u]?.getD undef=.pointer (some ⟨e,0,none⟩):=by simpa using j
 simp [results,h,i,c,asAddr,run_loadVar_row w g t a b k d o n m q,r]
theorem gY(w:World)(g:Nat)(b:Bool)(h:w.heap[g]? =some (.cells #[.bool b] 4 (0,0))):(loadVar 4 ⟨g,0,none⟩).run Tryz.prog w=.ok (.bool b) w:=by
 have a:w.cell? ⟨g,0,none⟩=some (.bool b):=cR h rfl;simp [loadVar,isAgg,go_sem,a]
theorem Zf(w b A:World)(bs bd:Nat)(S:Nat->Prop)(D:Dk)(g:Option En)(r:Int)(a:Act)(B:bd<w.heap.size)(C:w.heap.size+3<=b.heap.size)(o:za (λi=>i=bd) w b)
 (p:A.heap[w.heap.size+1]? =some (.cells (jc g).toArray 109 (0,0))) (q:A.heap[w.heap.size+2]? =some (.cells #[.bool g.isSome] 4 (0,0))) (s:zg A bd S {D with reads:=r }) (y:∀j,S j->j<w.heap.size) (v:za (λk=>k=bd\/k=w.heap.size+1\/k=w.heap.size+2\/b.heap.size<=k) b A) (m:D.reads<=r/\r<=D.reads+14) (z:A.heap[b.heap.size]? =some (.deferred (some [])))
 (x:a.defers=[{target:=.collected b.heap.size,args:=#[] }]) (t:a.tmps.getD 4 undef=.pointer (some ⟨w.heap.size+1,0,none⟩)) (u:a.tmps.getD 5 undef=.pointer (some ⟨w.heap.size+2,0,none⟩)):
 Ye Tryz.prog Tryz.f66 (λe w'=>e=.returned (.tuple #[.agg (jc g).toArray,.bool g.isSome])/\(∃r:Int,D.reads<=r/\r<=D.reads+14/\zg w' bd S {D with reads:=r })/\za (λi=>i=bd) w w') .ret a A:=by
 have c:za (λk=>k=b.heap.size) A (A.putObj b.heap.size (.deferred none)):=za.putObj _ _ _ rfl;have l:=(c.block _ (lT p) (by omega)).trans p;have n:=(c.block _ (lT q) (by omega)).trans q;have f:(jc g).toArray.size=5:=by cases g<;>rfl
 refine jo x z (gX Tryz.results66 _ _ (w.heap.size+1) (w.heap.size+2) 109 4 _ (0,0) (0,0) _ (.int .i64) _ t l Tryz.underlying109 rfl (by rw [f];kernel_rfl) u (gY _ _ _ n)) ⟨rfl,⟨r,m.1,m.2,s.kept c (λj d e=>by have:=y j d;omega)⟩,?_⟩;exact(o.trans v (λj d=>by rcases d with h|h|h|h;exact .inl h;exact .inr (by omega);exact .inr (by omega);exact .inr (by omega))).trans c (λj d=>.inr (by omega))
theorem gZ(w:World)(bs bd:Nat)(S:Nat->Prop)(D:Dk)(k:Int)(al:zu w bs k (some bd))(y:zg w bd S D)(a5:¬S bs)(ax:0<=D.reads)(be:D.reads<=4611686018427360000)(u n:Nat)(ar:qV (D.look 1) u n)(p:Pl)(E:List En)(U:List Nat)(hF:q8 (λj=>D.look (j:Nat)) u E U)(am:U.length<=979)(hbs:∀j∈U,21<=j):
 Calls Tryz.prog 66 #[.pointer (some ⟨bs,0,none⟩),.agg #[.string p.key,.int .i64 p.num]] w λe w'=>e=.returned (.tuple #[.agg (jc (yS p E).head?).toArray,.bool (yS p E).head?.isSome])/\(∃r:Int,D.reads<=r/\r<=D.reads+14/\zg w' bd S {D with reads:=r })/\za (λi=>i=bd) w w':=by
 have a4:Hid _:=al;have a9:Hid (zg w bd S D):=y;have aZ:Hid _:=ar;have aW:Hid _:=hF;have aG:Hid _:=hbs;have hbs:=al.lt;have ab:=y.lt bd y.bdS;have H:Hid _:=y.lt;clear al y ar hF hbs;refine yC Tryz.func66 rfl ?_;simp only [Tryz.ntmps66,aq,ae,hO,Nat.reduceAdd,Nat.reduceSub,iN,iO,i5,iR,aK,aT];go_wp2_with fail;obtain⟨a8,aH,ao,k3,bj⟩:=vJ w (.cells #[.string p.key,.int .i64 p.num] 107) (.cells #[.string ⟨#[]⟩,.int .i64 0,.bool false,.int .i64 0,.int .i64 0] 109) (.cells #[.bool false] 4);have aC:Hid _:=aH;have aE:Hid _:=ao;have K:Hid _:=k3;clear a8 aH ao k3;generalize (((w.alloc (.cells #[.string p.key,.int .i64 p.num] 107)).alloc (.cells #[.string ⟨#[]⟩,.int .i64 0,.bool false,.int .i64 0,.int .i64 0] 109)).alloc (.cells #[.bool false] 4))=bh at*;refine(jh bh bs bd S D k (a4.out.kept K.out id) (a9.out.kept K.out nF) a5 ax (by omega) u n aZ.out p).mono ?_;rintro e s ⟨aj,ak,ah,rfl,M,bc,X,C⟩;have aA:Hid _:=M;have ag:Hid (zg s bd S {D with reads:=D.reads+1 }):=X;have aw:Hid _:=C;have a3:=C.size;have Z:Hid (s.heap[w.heap.size+1]? =_):=(C.block _ (by omega) (by omega)).trans aC.out;have Y:Hid (s.heap[w.heap.size+2]? =_):=(C.block _ (by omega) (by omega)).trans aE.out;clear M X C;go_wp2_with fail;have W:Hid (∀j,S j->j<s.heap.size):=ag.out.lt;have O:Hid _:=(K.out.mono fE).trans aw.out iL
 refine kj (α:=En) (gf:= 190) (lb:=#[.pointer (some ⟨aj,0,none⟩),.pointer (some ⟨ak,0,none⟩),.pointer (some ⟨ah,0,none⟩)]) rfl (enters_of Tryz.func190 (by kernel_rfl) rfl)
  (λa1 d bb=>Yj a1 bd S D aj ak ah u p (aA.out.kept d id id id) E U aW.out am aG.out (by omega) (D.reads+1) (by omega) (by omega))
  (λk d=>by rw [d];omega) (λ_=>rfl)
  (ZV s bd S D) (λc r pre A=>GH s bd S D (w.heap.size+1) (w.heap.size+2) (yS p E).head? c r A)
  (λr pre Q A h=>⟨h.disk,λk d=>(h.q k d).elim⟩)
  (λr bn pre Q A B h aF d f=>h.by d (λk d=>.inl d) f aF)
  (λr pre Q A B h d=>h.by d (λk d=>.inr (by omega)) (h.disk.kept d (λj o ai=>by have:=W.out j o;omega)) (eb _))
  (λc r pre A B h d=>⟨h.c,by
   obtain⟨m,I,h2,T⟩:=h.is
   exact⟨m,I,(d.block _ (lT h2) (by omega)).trans h2,(d.block _ (lT T) (by omega)).trans T⟩,h.disk.kept d (λj o ai=>by have:=W.out j o;omega),h.kept.trans d (λi f=>.inl (.inr (.inr (.inr (by omega))))),h.rd⟩)
  ⟨rfl,λ_ h=>h,ag.out,za.refl _ _,eb _⟩
  (λm au A=>∃t,s.heap.size+1<t/\A.heap[t]? =some (.cells (qt m).toArray 109 (0,0))/\au={tmps:=#[.pointer (some ⟨bs,0,none⟩),.agg #[.string p.key,.int .i64 p.num],undef,.pointer (some ⟨w.heap.size,0,none⟩),.pointer (some ⟨w.heap.size+1,0,none⟩),.pointer (some ⟨w.heap.size+1+1,0,none⟩),.pointer (some ⟨t,0,none⟩),.pointer (some ⟨bs,0,none⟩),.agg #[.string p.key,.int .i64 p.num],.func (.func 190) #[] #[.pointer (some ⟨aj,0,none⟩),.pointer (some ⟨ak,0,none⟩),.pointer (some ⟨ah,0,none⟩)],.agg (qt m).toArray,undef,undef],defers:=[] })
  (λm a A B h d=>by
   obtain⟨t,I,h2,T⟩:=h
   exact⟨t,I,(d.block _ (lT h2) (by omega)).trans h2,T⟩)
  (λr pre m A B h _=>h) ?assign ?body ?done ?stop
 case assign=>
  intro l r pre m Q A bp f P aB G;dsimp only [qt];gi_wp2;exact G _ _ (za.alloc _ _ _) (f.by (za.alloc (λ_=>False) _ _) (λ_ h=>h.elim) (f.disk.kept (za.alloc (λ_=>False) _ _) nF) (eb _)) P ⟨A.heap.size,by omega,ac A _,rfl⟩
 case body=>
  rintro l r pre m Q au A f P ⟨t,ba,af,rfl⟩ aB;have F:Hid _:=f;have a6:Hid _:=P;have v:Hid _:=af;have b:Hid (A.heap[w.heap.size+1]? =_):=(f.kept.block _ (by omega) (by omega)).trans Z.out;have q:Hid (A.heap[w.heap.size+2]? =_):=(f.kept.block _ (by omega) (by omega)).trans Y.out
  have ap:Hid ((yS p E).head? =some m):=by have I:=P.pre;rw [f.pre] at I;obtain⟨z,aO⟩:=I;show (yS p E).head? =some m;rw [<-aO];rfl
  clear f P af;have bl:A.cell? ⟨t,0,none⟩=some (.string m.pl.key):=cR v.out rfl;have bk:A.cell? ⟨t,1,none⟩=some (.int .i64 m.pl.num):=cR v.out rfl;have bi:A.cell? ⟨t,2,none⟩=some (.bool m.mark):=cR v.out rfl;have bg:A.cell? ⟨t,3,none⟩=some (.int .i64 (m.size:Int)):=cR v.out rfl;have bm:A.cell? ⟨t,4,none⟩=some (.int .i64 (m.at_:Int)):=cR v.out rfl;have aV:A.cell? ⟨w.heap.size+1,0,none⟩=some (.string ⟨#[]⟩):=cR b.out rfl;have a0:A.cell? ⟨w.heap.size+1,1,none⟩=some (.int .i64 0):=cR b.out rfl;have aS:A.cell? ⟨w.heap.size+1,2,none⟩=some (.bool false):=cR b.out rfl;have aM:A.cell? ⟨w.heap.size+1,3,none⟩=some (.int .i64 0):=cR b.out rfl;have a2:A.cell? ⟨w.heap.size+1,4,none⟩=some (.int .i64 0):=cR b.out rfl;have aX:=aa A (w.heap.size+1) 0 _ _ b.out;have aL:=aa A (w.heap.size+1) 1 _ _ b.out;have aQ:=aa A (w.heap.size+1) 2 _ _ b.out;have a7:=aa A (w.heap.size+1) 3 _ _ b.out;have aR:=aa A (w.heap.size+1) 4 _ _ b.out;have aN:A.cell? ⟨w.heap.size+1+1,0,none⟩=some (.bool false):=cR q.out rfl;have aP:A.frozen? ⟨w.heap.size+1+1,0,none⟩=false:=aa A (w.heap.size+2) 0 _ _ q.out;dsimp only [qt];gi_wp2;obtain⟨J,L⟩:=kJ A (w.heap.size+1) 109 _ _ _ _ _ (.string m.pl.key) (.int .i64 m.pl.num) (.bool m.mark) (.int .i64 (m.size:Int)) (.int .i64 (m.at_:Int)) b.out;have N:=(L.block (w.heap.size+2) (by omega) (by omega)).trans q.out;have x:=za.setCell (S:=λj=>j=w.heap.size+2) (((((A.setCell ⟨w.heap.size+1,0,none⟩ (.string m.pl.key)).setCell ⟨w.heap.size+1,1,none⟩ (.int .i64 m.pl.num)).setCell ⟨w.heap.size+1,2,none⟩ (.bool m.mark)).setCell ⟨w.heap.size+1,3,none⟩ (.int .i64 (m.size:Int))).setCell ⟨w.heap.size+1,4,none⟩ (.int .i64 (m.at_:Int))) ⟨w.heap.size+2,0,none⟩ (.bool true) rfl;have g:=(L.mono (S':=λj=>j=w.heap.size+1\/j=w.heap.size+2) iL).trans x (λ_ h=>.inl (.inr h));refine⟨g.mono (λj o=>.inl (by omega)),rfl,⟨m,ap.out,?_,?_⟩,F.out.disk.kept g (λj o ai=>by have:=H.out j o;omega),(F.out.kept.mono (S':=λk=>k=bd\/k=w.heap.size+1\/k=w.heap.size+2\/s.heap.size<=k) (λj o=>by omega)).trans g (λj o=>.inl (by omega)),F.out.rd,?_⟩;.exact(x.block _ (by simp [World.setCell];omega) (by omega)).trans J
  .exact heap_setCell_same _ (w.heap.size+2) 0 _ _ _ N
  .have:=a6.out.first F.out.pre;omega
 case done=>
  rintro aU r bo Q A R f rfl G;have ad:yS p E=[]:=by rw [<-R.1];exact f.pre
  have v:Hid _:=ad;have F:Hid _:=f;have bf:=R.2.2 f.pre;have V:Hid _:=G;have b:Hid (A.heap[w.heap.size+1]? =_):=(f.kept.block _ (by omega) (by omega)).trans Z.out;have q:Hid (A.heap[w.heap.size+2]? =_):=(f.kept.block _ (by omega) (by omega)).trans Y.out;have aY:=f.kept.size;clear ad f R G;have aV:A.cell? ⟨w.heap.size+1,0,none⟩=some (.string ⟨#[]⟩):=cR b.out rfl;have a0:A.cell? ⟨w.heap.size+1,1,none⟩=some (.int .i64 0):=cR b.out rfl;have aS:A.cell? ⟨w.heap.size+1,2,none⟩=some (.bool false):=cR b.out rfl;have aM:A.cell? ⟨w.heap.size+1,3,none⟩=some (.int .i64 0):=cR b.out rfl;have a2:A.cell? ⟨w.heap.size+1,4,none⟩=some (.int .i64 0):=cR b.out rfl;have aX:=aa A (w.heap.size+1) 0 _ _ b.out;have aL:=aa A (w.heap.size+1) 1 _ _ b.out;have aQ:=aa A (w.heap.size+1) 2 _ _ b.out;have a7:=aa A (w.heap.size+1) 3 _ _ b.out;have aR:=aa A (w.heap.size+1) 4 _ _ b.out;have aN:A.cell? ⟨w.heap.size+1+1,0,none⟩=some (.bool false):=cR q.out rfl;have aP:A.frozen? ⟨w.heap.size+1+1,0,none⟩=false:=aa A (w.heap.size+2) 0 _ _ q.out;dsimp only;go_wp2;obtain⟨J,L⟩:=kJ A (w.heap.size+1) 109 _ _ _ _ _ (.string ⟨#[]⟩) (.int .i64 0) (.bool false) (.int .i64 0) (.int .i64 0) b.out;have N:=(L.block (w.heap.size+2) (by omega) (by omega)).trans q.out;have x:=za.setCell (S:=λj=>j=w.heap.size+2) (((((A.setCell ⟨w.heap.size+1,0,none⟩ (.string ⟨#[]⟩)).setCell ⟨w.heap.size+1,1,none⟩ (.int .i64 0)).setCell ⟨w.heap.size+1,2,none⟩ (.bool false)).setCell ⟨w.heap.size+1,3,none⟩ (.int .i64 0)).setCell ⟨w.heap.size+1,4,none⟩ (.int .i64 0)) ⟨w.heap.size+2,0,none⟩ (.bool false) rfl;have g:=(L.mono (S':=λj=>j=w.heap.size+1\/j=w.heap.size+2) iL).trans x (λ_ h=>.inl (.inr h));rw [v.out];refine Zf w s _ bs bd S D none r _ ab (by omega) O.out ?_ ?_ (F.out.disk.kept g (λj o ai=>by have:=H.out j o;omega)) H.out ((F.out.kept.mono (S':=λk=>k=bd\/k=w.heap.size+1\/k=w.heap.size+2\/s.heap.size<=k) (λj o=>by omega)).trans g (λj o=>.inl (by omega))) ⟨by have:=F.out.rd;omega,by omega⟩ ((g.block _ (lT V.out) (by omega)).trans V.out) rfl rfl rfl;.exact(x.block _ (by simp [World.setCell];omega) (by omega)).trans J
  .exact heap_setCell_same _ (w.heap.size+2) 0 _ _ _ N
 case stop=>
  rintro aU c r pre A R f rfl G;obtain⟨rfl,⟨m,az,av,aD⟩,y,d,aF⟩:=f;have v:Hid _:=az;have aJ:Hid _:=av;have aI:Hid _:=aD;have an:Hid _:=y;have ay:Hid _:=d;have V:Hid _:=G;clear az av aD y d G R;dsimp only;go_wp2;rw [v.out];exact Zf w s A bs bd S D (some m) r _ ab (by omega) O.out aJ.out aI.out an.out H.out ay.out ⟨by omega,by omega⟩ V.out rfl rfl rfl
end prog
namespace prog
open keys (zh ze zy zs)
def xY(key:ByteArray):Option En->Bool
 |some x=>decide (x.pl.key=key)&& !x.mark
 |none=>false
theorem xn(w:World)(bs bd:Nat)(S:Nat->Prop)(D:Dk)(k:Int)(af:zu w bs k (some bd))(u:zg w bd S D)(al:¬S bs)(T:0<=D.reads)(W:D.reads<=4611686018427360000)(x n:Nat)(F:qV (D.look 1) x n)(c:ByteArray)(L:List En)(G:List Nat)(hF:q8 (λj=>D.look (j:Nat)) x L G)(N:G.length<=979)(hbs:∀j∈G,21<=j)(s:Option En)(R:(yS ⟨c,9223372036854775807⟩ L).head? =s):
 Calls Tryz.prog 50 #[.pointer (some ⟨bs,0,none⟩),.string c] w λe w'=>e=.returned (.tuple #[.agg (jc s).toArray,.bool (xY c s)])/\(∃r:Int,D.reads<=r/\r<=D.reads+14/\zg w' bd S {D with reads:=r })/\za (λi=>i=bd) w w':=by
 have ao:=u.lt bd u.bdS;have ab:Hid (∀j,S j->j<w.heap.size):=u.lt;have E:Hid (za (λ_=>False) w (w.alloc (.cells #[.string ⟨#[]⟩,.int .i64 0,.bool false,.int .i64 0,.int .i64 0] 109))):=za.alloc _ _ _;have O:Hid ((w.alloc (.cells #[.string ⟨#[]⟩,.int .i64 0,.bool false,.int .i64 0,.int .i64 0] 109)).heap[w.heap.size]? =some (.cells #[.string ⟨#[]⟩,.int .i64 0,.bool false,.int .i64 0,.int .i64 0] 109 (0,0))):=ac w _;have ap:(w.alloc (.cells #[.string ⟨#[]⟩,.int .i64 0,.bool false,.int .i64 0,.int .i64 0] 109)).heap.size=w.heap.size+1:=by simp
 have ae:Hid (Calls Tryz.prog 66 #[.pointer (some ⟨bs,0,none⟩),.agg #[.string c,.int .i64 9223372036854775807]] (w.alloc (.cells #[.string ⟨#[]⟩,.int .i64 0,.bool false,.int .i64 0,.int .i64 0] 109)) λe w'=>e=.returned (.tuple #[.agg (jc s).toArray,.bool s.isSome])/\(∃r:Int,D.reads<=r/\r<=D.reads+14/\zg w' bd S {D with reads:=r })/\za (λi=>i=bd) (w.alloc (.cells #[.string ⟨#[]⟩,.int .i64 0,.bool false,.int .i64 0,.int .i64 0] 109)) w'):=by have:=gZ (w.alloc (.cells #[.string ⟨#[]⟩,.int .i64 0,.bool false,.int .i64 0,.int .i64 0] 109)) bs bd S D k (af.kept E id) (u.kept E nF) al T W x n F ⟨c,9223372036854775807⟩ L G hF N hbs;rw [R] at this;exact this
 clear af u F hF hbs R;generalize Q:(w.alloc (.cells #[.string ⟨#[]⟩,.int .i64 0,.bool false,.int .i64 0,.int .i64 0] 109))=aq at*;go_enter Tryz.func50,Tryz.ntmps50;go_wp2_with fail;clear Q;refine ae.mono ?_;rintro e g ⟨rfl,⟨Z,P,ad,H⟩,y⟩;have ag:Hid (zg g bd S {D with reads:=Z }):=H;have ak:=y.size;have U:Hid (g.heap[w.heap.size]? =_):=(y.block _ (by omega) (by omega)).trans O.out;change Hid _ at y;clear H ae
 obtain⟨h,o,m,p,q,K,I⟩:∃(h:ByteArray) (o:Int) (m:Bool) (p q:Int),jc s=[.string h,.int .i64 o,.bool m,.int .i64 p,.int .i64 q]/\xY c s=(s.isSome&&(decide (h=c)&& !m)):=by
  cases s with
  |none=>exact⟨_,_,_,_,_,rfl,rfl⟩
  |some aJ=>exact⟨_,_,_,_,_,rfl,rfl⟩
 have B:Hid (xY c s=(s.isSome&&(decide (h=c)&& !m))):=I;rw [K];change Hid _ at K;clear I;generalize aG:s.isSome=f at*;have t:Hid ((g.alloc (.cells #[.string h,.int .i64 o,.bool m,.int .i64 p,.int .i64 q] 109)).heap[g.heap.size]? =some (.cells #[.string h,.int .i64 o,.bool m,.int .i64 p,.int .i64 q] 109 (0,0))):=ac g _;have C:Hid (za (λ_=>False) g (g.alloc (.cells #[.string h,.int .i64 o,.bool m,.int .i64 p,.int .i64 q] 109))):=za.alloc _ _ _;have an:(g.alloc (.cells #[.string h,.int .i64 o,.bool m,.int .i64 p,.int .i64 q] 109)).heap.size=g.heap.size+1:=by simp
 go_wp2_with fail;generalize (g.alloc (.cells #[.string h,.int .i64 o,.bool m,.int .i64 p,.int .i64 q] 109))=d at*;have l:Hid (d.heap[w.heap.size]? =_):=(C.block _ (by omega) id).trans U.out;have aB:d.cell? ⟨g.heap.size,0,none⟩=some (.string h):=cR t.out rfl;have az:d.cell? ⟨g.heap.size,1,none⟩=some (.int .i64 o):=cR t.out rfl;have aw:d.cell? ⟨g.heap.size,2,none⟩=some (.bool m):=cR t.out rfl;have ar:d.cell? ⟨g.heap.size,3,none⟩=some (.int .i64 p):=cR t.out rfl;have aD:d.cell? ⟨g.heap.size,4,none⟩=some (.int .i64 q):=cR t.out rfl;have aC:d.cell? ⟨w.heap.size,0,none⟩=some (.string ⟨#[]⟩):=cR l.out rfl;have aF:d.cell? ⟨w.heap.size,1,none⟩=some (.int .i64 0):=cR l.out rfl;have aA:d.cell? ⟨w.heap.size,2,none⟩=some (.bool false):=cR l.out rfl;have av:d.cell? ⟨w.heap.size,3,none⟩=some (.int .i64 0):=cR l.out rfl;have aH:d.cell? ⟨w.heap.size,4,none⟩=some (.int .i64 0):=cR l.out rfl;have aE:=aa d w.heap.size 0 _ _ l.out;have au:=aa d w.heap.size 1 _ _ l.out;have ax:=aa d w.heap.size 2 _ _ l.out;have aI:=aa d w.heap.size 3 _ _ l.out;have ay:=aa d w.heap.size 4 _ _ l.out;have am:¬w.heap.size=g.heap.size:=by omega
 have z:∀(J:World),J=(((((d.drew.setCell ⟨w.heap.size,0,none⟩ (.string h)).setCell ⟨w.heap.size,1,none⟩ (.int .i64 o)).setCell ⟨w.heap.size,2,none⟩ (.bool m)).setCell ⟨w.heap.size,3,none⟩ (.int .i64 p)).setCell ⟨w.heap.size,4,none⟩ (.int .i64 q))->∀(a:Act) (b:Bool),a.defers=[]->a.tmps.getD 4 undef=.pointer (some ⟨w.heap.size,0,none⟩)->a.tmps.getD 5 undef=.bool b->xY c s=b->
  bodyPost Tryz.prog Tryz.f50 (λe w'=>e=.returned (.tuple #[.agg (jc s).toArray,.bool (xY c s)])/\(∃r:Int,D.reads<=r/\r<=D.reads+14/\zg w' bd S {D with reads:=r })/\za (λi=>i=bd) w w') .ret a J:=by
  rintro J rfl a b u ah ai F;obtain⟨aj,Y⟩:=kJ d.drew w.heap.size 109 _ _ _ _ _ (.string h) (.int .i64 o) (.bool m) (.int .i64 p) (.int .i64 q) (((za.drew (λ_=>False) d).block _ (by omega) id).trans l);refine bodyPost_ret (v:=.tuple #[.agg (jc s).toArray,.bool (xY c s)]) ?_ u ⟨rfl,⟨Z,P,ad,?_⟩,?_⟩
  .have:=qK Tryz.results50 a.tmps _ w.heap.size 109 _ (0,0) _ ah aj Tryz.underlying109 rfl (by kernel_rfl);rw [ai] at this;rw [K.out,F];exact this
  .exact((ag.kept C nF).kept (za.drew (λ_=>False) d) nF).kept Y (λj X e=>by have:=ab.out j X;omega)
  .exact(((((E.mono fE).trans y iL).trans C fE).trans (za.drew (λ_=>False) d) fE)).trans Y (λj X=>.inr (by omega))
 change Hid _ at z
 cases f with
 |false=>
  go_region
  all_goals
   go_wp2;exact z _ rfl _ false rfl rfl rfl (by rw [B.out];rfl)
 |true=>
  by_cases A:h.toList=c.toList
  .have M:Hid (h=c):=qP.1 A;have V:(h.toList==c.toList)=true:=by simp [A]
   clear A;go_region_held3 (λw'=>w'.cell? ⟨g.heap.size,0,none⟩=some (.string h)/\w'.cell? ⟨g.heap.size,1,none⟩=some (.int .i64 o)/\w'.cell? ⟨g.heap.size,2,none⟩=some (.bool m)/\w'.cell? ⟨g.heap.size,3,none⟩=some (.int .i64 p)/\w'.cell? ⟨g.heap.size,4,none⟩=some (.int .i64 q)) (go_keep) (fail)
   all_goals
    go_wp2;exact z _ rfl _ (!m) rfl rfl rfl (by rw [B.out,M.out];simp)
  .have M:Hid (¬h=c):=mt qP.2 A;have V:(h.toList==c.toList)=false:=by simpa using A
   clear A
   go_region
   all_goals
    go_wp2;exact z _ rfl _ false rfl rfl rfl (by rw [B.out];simp [M.out])
end prog
namespace prog
open Go.MuLone
abbrev Tryz.muLink:Go.Conc.Locks.MuLink:={lock:= 47,unlock:= 48,ilock:= 69,iunlock:= 70,lockSlow:= 120,unlockSlow:= 123,disable:= 116,enable:= 118,acquire:= 119,relMerge:= 121,cas32:= 117,add32:= 122,tMutex:= 102,tIMutex:= 100,tPMutex:= 137,tPIMutex:= 185,tPI32:= 187,tUP:= 189,tNoCopy:= 97,tU32:= 98}
theorem Tryz.muLib:Go.Conc.Locks.MuLib Tryz.prog Tryz.muLink:=
 ⟨Tryz.func47,Tryz.func48,Tryz.func69,Tryz.func70,Tryz.func116,Tryz.func118,Tryz.func119,Tryz.func121,Tryz.func117,Tryz.func122,Tryz.underlying100,Tryz.runUnderlying100,Tryz.sizeOf100,Tryz.isAgg100,Tryz.zeroValue100,Tryz.underlying102,Tryz.runUnderlying102,Tryz.sizeOf102,Tryz.isAgg102,Tryz.zeroValue102,Tryz.underlying137,Tryz.runUnderlying137,Tryz.sizeOf137,Tryz.isAgg137,Tryz.zeroValue137,Tryz.underlying185,Tryz.runUnderlying185,Tryz.sizeOf185,Tryz.isAgg185,Tryz.zeroValue185,Tryz.underlying187,Tryz.runUnderlying187,Tryz.sizeOf187,Tryz.isAgg187,Tryz.zeroValue187,Tryz.underlying189,Tryz.runUnderlying189,Tryz.sizeOf189,Tryz.isAgg189,Tryz.zeroValue189,Tryz.underlying97,Tryz.runUnderlying97,Tryz.sizeOf97,Tryz.isAgg97,Tryz.zeroValue97,Tryz.underlying21,Tryz.runUnderlying21,Tryz.sizeOf21,Tryz.isAgg21,Tryz.zeroValue21,(by kernel_rfl)⟩
end prog
namespace prog
open keys (zh ze zy zs)
attribute [local go_sem] Oper.semAt_some
variable {pre:List BP}
theorem Zg(w:World)(T:TypeId)(a:Addr)(b:Nat):Calls Tryz.prog 72 #[.iface T (.pointer (some a)),.int .i64 b] w λe w'=>
 e=.returned (.func (.func 124) #[] #[.pointer (some ⟨w.heap.size+1,0,none⟩),.pointer (some ⟨w.heap.size,0,none⟩)])/\w'.heap[w.heap.size+1]? =some (.cells #[.int .i64 (b:Int)] 3 (0,0))/\w'.heap[w.heap.size]? =some (.cells #[.iface T (.pointer (some a))] 193 (0,0))/\za (λ_=>False) w w'/\w'.heap.size=w.heap.size+2:=by
 go_enter Tryz.func72,Tryz.ntmps72;go_wp2;go_ret;exact⟨rfl,eF w _ _,((za.alloc (λ_=>False) _ _).block w.heap.size (by simp) id).trans (ac w _),za.alloc2 _ _ _,by simp⟩
def cA(pre:List BP):List UInt8:=(pre.map λx=>x.p.l).flatten
theorem Yk(pre:List BP)(a:BP):cA (pre++[a])=cA pre++a.p.l:=by simp [cA]
theorem U2{ps:List zv}{a:BP}(h:(pre.map BP.p++[a.p])<+:ps):(cA pre).length+a.p.l.length<=((ps.map zv.l).flatten).length:=by
 obtain⟨z,rfl⟩:=h;have e:cA pre=((pre.map BP.p).map zv.l).flatten:=by simp [cA,ln];rfl
 rw [e];simp only [eh,eV,aO,ig,aU,lG,aM,ag];omega
theorem U3{ps:List zv}(h:pre.map BP.p=ps):cA pre=(ps.map zv.l).flatten:=by
 rw [<-h,ln];rfl
structure Jy (w1:World) (bd:Nat) (S:Nat->Prop) (D:Dk) (b2 b5 g cap:Nat) (r:Int) (pre:List BP) (Q:Nat->Prop) (A:World):Prop where
 q:∀k,¬Q k
 disk:zg A bd S {D with reads:=r}
 rd:D.reads<=r
 box:A.heap[b2]? =some (.cells #[.iface 29 (.pointer (some ⟨bd,0,none⟩))] 193 (0,0))
 sl:A.heap[b5]? =some (.cells #[.slice (some ⟨g,0,none⟩) (cA pre).length cap] 35 (0,0))
 row:A.ownsRow 0 5 1 (.slice (some ⟨g,0,none⟩) (cA pre).length cap) (cA pre).length ((cA pre).map qA)
 kept:za (λk=>k=bd\/k=b5\/k=g\/w1.heap.size<=k) w1 A
theorem Jy.by{a:World}{bd:Nat}{S:Nat->Prop}{D:Dk}{d c g l:Nat}{r m:Int}{Q s:Nat->Prop}{A B:World}(h:Jy a bd S D d c g l r pre Q A)(f:za s A B)(e:∀k,s k->k=bd\/a.heap.size<=k)(n:zg B bd S {D with reads:=m })(o:r<=m)(t:d<a.heap.size/\d≠bd)(u:c<a.heap.size/\c≠bd)(v:g<a.heap.size/\g≠bd):Jy a bd S D d c g l m pre Q B:=
 ⟨h.q,n,lC h.rd o,(f.block _ (lT h.box) (λb=>by have:=e _ b;omega)).trans h.box,(f.block _ (lT h.sl) (λb=>by have:=e _ b;omega)).trans h.sl,
  f.owns h.row (λj q b=>by simp [Value.ownBlock] at q;have:=e _ b;omega),h.kept.trans f (λi p=>.inl (by have:=e i p;omega))⟩
theorem Yl{A:World}{g next:Nat}{l:List UInt8}(h:qR A g (qp next l)):∀j u,(l.map qA)[j]? =some u->A.cell? (Addr.add ⟨g,4,none⟩ j)=some u:=by
 intro j u b;have a:j<l.length:=by have:=(et.1 b).1;simpa using this
 have e:(qp next l).bytes.drop 4=l++List.replicate (124-(qp next l).items.length*zk (qp next l).kind) 0:=by rw [Pg.behind];congr 1;exact gK l
 have i:=h.ok.len
 have d:4+j<(qp next l).bytes.length:=by have:=congrArg List.length e;simp at this;omega
 have:=h.bs.cell (4+j) d
 have k:(qp next l).bytes[4+j]=l[j]:=by
  have c:((qp next l).bytes.drop 4)[j]? =some l[j]:=by rw [e,io a,aH a]
  rw [lO,aH d] at c;simpa using c
 rw [k] at this;have f:Addr.add ⟨g,4,none⟩ j=⟨g,4+j,none⟩:=eO _ _ _;rw [f,this];rw [l0,aH a] at b;simpa [qA] using b
theorem Tryz.infoU8b:(Tryz.prog.info? 5).map (λi=>(i.zero,i.size,i.bytes))=some (some (.int .u8 0),1,1):=by kernel_rfl
theorem dD(w:World)(bs bd:Nat)(S:Nat->Prop)(D:Dk)(k:Int)(aA:zu w bs k (some bd))(O:zg w bd S D)(bf:¬S bs)(a8:0<=D.reads)(a9:D.reads<=4611686018427360000)(e:En)(ps:List zv)(z:y9 (λj=>D.look (j:Nat)) ps)(am:(ps.map zv.at_).Nodup)(Z:xw ps=e.at_)(l:List UInt8)(av:(ps.map zv.l).flatten=l)(y:l.length=e.size)(a6:e.size<=300)(aP:ps.length<=1000):
 Calls Tryz.prog 51 #[.pointer (some ⟨bs,0,none⟩),.agg (qt e).toArray] w λm w'=>(∃a K,m=.returned (.slice a l.length K)/\w'.ownsRow 0 5 1 (.slice a l.length K) l.length (l.map qA)/\∀j,(Value.slice a l.length K).ownBlock=some j->w.heap.size<=j)/\(∃r:Int,D.reads<=r/\r<=D.reads+ps.length/\zg w' bd S {D with reads:=r })/\za (λi=>i=bd) w w':=by
 have a5:Hid (zg w bd S D):=O;have al:=aA.c2;have hbs:=aA.lt;have ba:=O.lt bd O.bdS;have H:Hid _:=O.lt;change Hid _ at aA z am av Z;clear O;refine yC Tryz.func51 rfl ?_;simp only [Tryz.ntmps51,aq,ae,hO,Nat.reduceAdd,Nat.reduceSub,iN,iO,i5,iR,aK,aT];unfold qt;obtain⟨U,F,ad,I,Y⟩:=eZ Tryz.infoU8b
 obtain⟨u,ao,aS⟩:∃u:Array Value,u.size=e.size*1/\∀t:World,(Instr.makeSlice 35 (.int .i64 0) (.int .i64 (e.size:Int))).run Tryz.prog t=.ok (.slice (some ⟨t.heap.size,0,none⟩) 0 e.size) (t.alloc (.cells u 5)):=by refine⟨_,size_madeCells (Value.int .u8 0).cells (e.size*1),λt=>?_⟩;have:=run_make (P:=Tryz.prog) t 35 5 U _ Tryz.underlying35 F ad .i64 .i64 0 (e.size:Int) (by omega) (by omega) (by rw [Y];omega) (by omega);rw [I] at this;simpa using this
 have X:Hid (Tryz.prog.info? 5=some U/\U.size=1):=⟨F,I⟩;clear F ad I Y;go_wp2_with fail;obtain⟨aB,aC,ar,k3,aV⟩:=vJ w (.cells #[.string e.pl.key,.int .i64 e.pl.num,.bool e.mark,.int .i64 (e.size:Int),.int .i64 (e.at_:Int)] 109) (.cells u 5) (.cells #[.slice (some ⟨w.heap.size+1,0,none⟩) 0 e.size] 35);change Hid _ at aB aC ar k3 ao;clear aS;generalize (((w.alloc (.cells #[.string e.pl.key,.int .i64 e.pl.num,.bool e.mark,.int .i64 (e.size:Int),.int .i64 (e.at_:Int)] 109)).alloc (.cells u 5)).alloc (.cells #[.slice (some ⟨w.heap.size+1,0,none⟩) 0 e.size] 35))=t at*;have an:=(k3.cell (a:=⟨bs,2,none⟩) hbs id).trans al;have ah:t.cell? ⟨w.heap.size,4,none⟩=some (.int .i64 (e.at_:Int)):=cR aB.out rfl;have ax:bs<t.heap.size:=by omega
 have az:w.heap.size<t.heap.size:=by omega
 clear al;go_region_held3 (λw'=>w'.cell? ⟨bs,2,none⟩=some (.pointer (some ⟨bd,0,none⟩))/\w'.cell? ⟨w.heap.size,4,none⟩=some (.int .i64 (e.at_:Int))) (go_keep) ((go_at_call 72;refine(Zg _ 29 ⟨bd,0,none⟩ e.at_).mono ?_;rintro m n ⟨rfl,T,R,p,aL⟩;have aR:=(p.cell (a:=⟨bs,2,none⟩) ax id).trans an;have aJ:=(p.cell (a:=⟨w.heap.size,4,none⟩) az id).trans ah;change Hid _ at T R p));have aQ:t.drew.heap.size=t.heap.size:=rfl;rw [aQ,aV] at T R aL;have W:Hid (za (λ_=>False) w n):=(k3.trans (za.drew (λ_=>False) t) iL).trans p iL;have L:Hid _:=(za.drew (λ_=>False) t).trans p iL;have aU:Hid (zg n bd S D):=a5.kept W nF;have aE:Hid (n.heap[w.heap.size+2]? =_):=(L.block _ (by omega) id).trans ar.out;have aF:Hid (n.ownsRow 0 5 1 (.slice (some ⟨w.heap.size+1,0,none⟩) 0 e.size) 0 []):=⟨by simp,.inr ⟨w.heap.size+1,e.size,u,rfl,aj _,(L.block _ (by omega) id).trans aC,by omega,by unfold maxLen;omega,ao,by simp⟩⟩;clear an ah aR aJ aB aC ar;go_wp2_with fail;have aH:Hid _:=H.out
 have ap:Hid (∀M,za (λ_=>False) n M->M.heap.size=n.heap.size+2->vQ Tryz.prog 124 #[.pointer (some ⟨w.heap.size+3+1,0,none⟩),.pointer (some ⟨w.heap.size+3,0,none⟩)] Ku (λk=>k=bd) (λr _ A=>zg A bd S {D with reads:=r}/\A.heap[w.heap.size+3]? =some (.cells #[.iface 29 (.pointer (some ⟨bd,0,none⟩))] 193 (0,0))/\D.reads<=r) (λr pre m A=>Js (n.heap.size+2) ps pre m A/\r<=D.reads+pre.length+1) (λr ay=>ay.map BP.p=ps/\r<=D.reads+ps.length) (λ_ _=>True) D.reads M):=λM b y=>by
  have:=Zc M 29 81 ⟨bd,0,none⟩ (gJ _) (w.heap.size+3+1) (w.heap.size+3) ps (λj=>D.look (j:Nat)) z am (λk=>k=bd) (λr _ A=>zg A bd S {D with reads:=r}/\A.heap[w.heap.size+3]? =some (.cells #[.iface 29 (.pointer (some ⟨bd,0,none⟩))] 193 (0,0))/\D.reads<=r) D.reads (λk b=>by rw [b];omega)
   (by rw [Z.out];exact(b.block _ (by omega) id).trans T) (λr pre A h=>h.2.1)
   (λr pre A B h b=>⟨h.1.kept b nF,(b.block _ (lT h.2.1) id).trans h.2.1,h.2.2⟩)
   (λi f r pre A h a3 ak=>by
    refine(jr A bd S {D with reads:=r} h.1 _ (by have:=(z.ok _ (ai f)).at_;constructor<;>omega) (by show 0<=r;omega) (by show r<=_;omega)).mono ?_;rintro m be ⟨rfl,aY,h2⟩
    exact⟨rfl,h2,r+1,by omega,by omega,aY,(h2.block _ (lT h.2.1) (by omega)).trans h.2.1,by omega⟩)
  rw [y] at this;exact this
 refine kj (α:=BP) (gf:= 124) (lb:=#[.pointer (some ⟨w.heap.size+3+1,0,none⟩),.pointer (some ⟨w.heap.size+3,0,none⟩)]) rfl (enters_of Tryz.func124 (by kernel_rfl) rfl) ap.out
  (λk b=>by rw [b];omega) (λ_=>rfl)
  (Jy n bd S D (w.heap.size+3) (w.heap.size+2) (w.heap.size+1) e.size) (λc r pre A=>False)
  (λr pre Q A h=>⟨⟨h.disk,h.box,h.rd⟩,λk b=>(h.q k b).elim⟩)
  (λr bc pre Q A B h a0 b f=>h.by b (λk b=>.inl b) f.1 a0 (by omega) (by omega) (by omega))
  (λr pre Q A B h b=>h.by b (λk b=>.inr (by omega)) (h.disk.kept b (λj d aX=>by have:=aH.out j d;omega)) (eb _) (by omega) (by omega) (by omega))
  (λc r pre A B h b=>h)
  ⟨λ_ h=>h,aU,eb _,R,aE,aF,za.refl _ _⟩
  (λm aI A=>aI={tmps:=#[.pointer (some ⟨bs,0,none⟩),.agg #[.string e.pl.key,.int .i64 e.pl.num,.bool e.mark,.int .i64 (e.size:Int),.int .i64 (e.at_:Int)],undef,.pointer (some ⟨w.heap.size,0,none⟩),.slice none 0 0,.pointer (some ⟨w.heap.size+1+1,0,none⟩),undef,.slice (some ⟨m.g,4,none⟩) m.p.l.length 124,.pointer (some ⟨w.heap.size,3,none⟩),.int .i64 (e.size:Int),.slice (some ⟨w.heap.size+1,0,none⟩) 0 e.size,.pointer (some ⟨bs,0,none⟩),.pointer (some ⟨bs,0,none⟩),.pointer (some ⟨bs,2,none⟩),.pointer (some ⟨bd,0,none⟩),.iface 29 (.pointer (some ⟨bd,0,none⟩)),.pointer (some ⟨w.heap.size,4,none⟩),.int .i64 (e.at_:Int),.func (.func 124) #[] #[.pointer (some ⟨w.heap.size+3+1,0,none⟩),.pointer (some ⟨w.heap.size+3,0,none⟩)],.int .i64 (m.p.at_:Int),.slice (some ⟨m.g,4,none⟩) m.p.l.length 124,undef,undef,undef,undef],defers:=[] })
  (λm a A B h b=>h)
  (λr pre m A B h b=>⟨⟨h.1.pre,by obtain⟨aM,aP⟩:=h.1.pg;exact⟨aM,aP.kept b (by have:=h.1.ge;omega)⟩,h.1.ge⟩,h.2⟩) ?assign ?body ?done ?stop
 case assign=>
  intro a4 r pre m Q A bg f N aO J;dsimp only [Ku];gi_wp2;exact J _ _ (za.refl _ _) f N rfl
 case body=>
  rintro a4 r pre m Q aI A f N rfl aO;have g:Hid _:=f;obtain⟨aM,af⟩:=N.1.pg;have au:(cA pre).length+m.p.l.length<=e.size:=by have:=U2 N.1.pre;rw [av.out] at this;omega
  have a1:A.cell? ⟨w.heap.size+1+1,0,none⟩=some (.slice (some ⟨w.heap.size+1,0,none⟩) (cA pre).length e.size):=cR f.sl rfl;change Hid _ at af;clear f N;gi_wp2_with (gi_at_builtin;refine wpListIn_append_fits _ rfl _ _ 35 rfl 0 5 U 1 Tryz.underlying35 X.1 X.2 (w.heap.size+1) (cA pre).length e.size ((cA pre).map qA) rfl g.row ⟨m.g,4,none⟩ m.p.l.length 124 (m.p.l.map qA) rfl (by simp) (Yl af) (vv _) au ?_;intro v G s;have ab:Hid _:=za.grown s (λk b=>(eG b).symm);have C:Hid (v.heap[w.heap.size+2]? =_):=(ab.block _ (by omega) (by omega)).trans g.sl;have bb:v.cell? ⟨w.heap.size+1+1,0,none⟩=some (.slice (some ⟨w.heap.size+1,0,none⟩) (cA pre).length e.size):=(cR C.out rfl);have a7:v.frozen? ⟨w.heap.size+1+1,0,none⟩=false:=aa v (w.heap.size+2) 0 _ _ C.out;change Hid _ at G;clear s);have aN:=za.setCell (S:=λj=>j=w.heap.size+2) v ⟨w.heap.size+2,0,none⟩ (.slice (some ⟨w.heap.size+1,0,none⟩) ((cA pre).length+m.p.l.length) e.size) rfl;have aZ:=heap_setCell_same v (w.heap.size+2) 0 _ _ (.slice (some ⟨w.heap.size+1,0,none⟩) ((cA pre).length+m.p.l.length) e.size) C.out;have o:=(ab.mono (S':=λj=>j=w.heap.size+1\/j=w.heap.size+2) iL).trans aN (λ_ h=>.inl (.inr h));have x:(cA (pre++[m])).length=(cA pre).length+m.p.l.length:=by rw [Yk,ag]
  refine⟨o.mono (λj d=>.inl (by omega)),Q,⟨g.q,g.disk.kept o (λj d aX=>by have:=H.out j d;omega),g.rd,(o.block _ (lT g.box) (by omega)).trans g.box,?_,?_,g.kept.trans o (λj d=>.inl (by omega))⟩,λk b=>.inl b⟩;.rw [x];exact aZ
  .rw [x,Yk,eh];exact aN.owns G (λj d aD=>by simp [Value.ownBlock] at d;omega)
 case done=>
  rintro aW r ay Q A V f rfl J;have g:Hid _:=f;have q:=(U3 V.1).trans av.out;have ak:=V.2;have a2:Hid _:=J;have ac:(cA ay).length=l.length:=by rw [q]
  have a1:A.cell? ⟨w.heap.size+1+1,0,none⟩=some (.slice (some ⟨w.heap.size+1,0,none⟩) l.length e.size):=by rw [aG A _ 0 _ _ _ f.sl,ac];rfl
  change Hid _ at q;clear f V J ac;dsimp only;go_wp2;have aw:za (λk=>k=n.heap.size) A (A.putObj n.heap.size (.deferred none)):=za.putObj _ _ _ rfl;have E:=g.row;rw [q.out] at E;refine jo rfl a2 (results_tmp rfl _ _ _) ⟨⟨some ⟨w.heap.size+1,0,none⟩,e.size,by rw [y];rfl,aw.owns E (λj d aD=>by simp [Value.ownBlock] at d;omega),λj d=>by simp [Value.ownBlock] at d;omega⟩,⟨r,g.rd,ak,g.disk.kept aw (λj d aD=>by have:=H.out j d;omega)⟩,?_⟩
  exact((W.mono (S':=λi=>i=bd) fE).trans g.kept (λj d=>by
   rcases d with h|h|h|h;.exact .inl h
   .exact .inr (by omega)
   .exact .inr (by omega)
   .exact .inr (by omega))).trans aw (λj d=>.inr (by omega))
 case stop=>
  rintro aW c r pre A V f rfl J;exact f.elim
end prog
namespace prog
open Go.MuLone
open keys (zh ze zy zs zq)
theorem qc{w:World}{bs:Nat}{q:Option Nat}(h:zu w bs 1 q):CallsD Tryz.prog 48 #[.pointer (some ⟨bs,0,none⟩)] .returning w λe u' w'=>u'=.returning/\e=.returned (.tuple #[])/\zu w' bs 0 q/\za (λk=>k=bs) w w':=
 (unlock_deferred Tryz.muLib ⟨bs,0,none⟩ .returning w h.c0 (h.fz 0)).mono (by
  rintro e u' w' ⟨rfl,rfl,rfl⟩
  exact⟨rfl,rfl,h.set 0,za.setCell (S:=λk=>k=bs) w ⟨bs,0,none⟩ _ rfl⟩)
theorem qd{w:World}{bs:Nat}{q:Option Nat}(h:zu w bs 0 q):Calls Tryz.prog 47 #[.pointer (some ⟨bs,0,none⟩)] w λe w'=>e=.returned (.tuple #[])/\zu w' bs 1 q/\za (λk=>k=bs) w w':=
 (lock_free Tryz.muLib ⟨bs,0,none⟩ w h.c0 (h.fz 0)).mono (by
  rintro e w' ⟨rfl,rfl⟩
  exact⟨rfl,h.set 1,za.setCell (S:=λk=>k=bs) w ⟨bs,0,none⟩ _ rfl⟩)
theorem results_tmp3{P:Program}{fn:Func}{a b c:Tmp}(h:fn.results=#[.tmp a,.tmp b,.tmp c])(tmps:Array Value)(w:World):(results fn tmps).run P w=.ok (.tuple #[tmps.getD a undef,tmps.getD b undef,tmps.getD c undef]) w:=by
 simp [results,h]
theorem Jz(w:World)(bs:Nat)(q:Option Nat)(j:zu w bs 0 q)(a:ByteArray)(n:a.size<=maxLen)(b:zq a.data.toList=false):
 Calls Tryz.prog 26 #[.pointer (some ⟨bs,0,none⟩),.string a] w λe w'=>e=.returned (.tuple #[.slice none 0 0,.int .i64 0,.int .i64 2])/\zu w' bs 0 q/\za (λk=>k=bs) w w':=by
 change Hid _ at j b;go_enter_defers Tryz.func26,Tryz.ntmps26
 go_wp2_with (first
  |(go_at_call 47;refine(qd j).mono ?_;rintro e m ⟨rfl,c,d⟩;change Hid _ at c d)
  |(go_at_call 49;refine(keys.ql a m n).mono ?_;rintro e l ⟨rfl,g⟩;rw [g,b.out];clear g l))
 refine leaves_cons (f:= 48) (args:=#[.pointer (some ⟨bs,0,none⟩)]) (by simp) (by simp [go_sem]) ?_;refine(qc c).mono ?_;rintro e u' l ⟨rfl,rfl,i,h⟩;exact⟨_,results_tmp3 Tryz.results26 _ _,rfl,i,d.trans h iL⟩
theorem Ua(w:World)(bs:Nat)(j:zu w bs 0 none)(a:ByteArray)(n:a.size<=maxLen)(c:zq a.data.toList=true):
 Calls Tryz.prog 26 #[.pointer (some ⟨bs,0,none⟩),.string a] w λe w'=>e=.returned (.tuple #[.slice none 0 0,.int .i64 0,.int .i64 8])/\zu w' bs 0 none/\za (λk=>k=bs) w w':=by
 change Hid _ at j c;go_enter_defers Tryz.func26,Tryz.ntmps26
 go_wp2_with (first
  |(go_at_call 47;refine(qd j).mono ?_;rintro e m ⟨rfl,b,d⟩;have o:=b.c2;change Hid _ at b d)
  |(go_at_call 49;refine(keys.ql a m n).mono ?_;rintro e l ⟨rfl,g⟩;rw [g,c.out];clear g l))
 refine leaves_cons (f:= 48) (args:=#[.pointer (some ⟨bs,0,none⟩)]) (by simp) (by simp [go_sem]) ?_;refine(qc b).mono ?_;rintro e u' l ⟨rfl,rfl,i,h⟩;exact⟨_,results_tmp3 Tryz.results26 _ _,rfl,i,d.trans h iL⟩
structure Ds (w w':World) (x:Value) (l:List UInt8):Prop where
 at_:∃a cap,x=.slice a l.length cap/\w'.ownsRow 0 5 1 (.slice a l.length cap) l.length (l.map qA)/\∀k,(Value.slice a l.length cap).ownBlock=some k->w.heap.size<=k
theorem Ub(w:World)(bs bd:Nat)(S:Nat->Prop)(D:Dk)(Y:zu w bs 0 (some bd))(G:zg w bd S D)(J:¬S bs)(W:0<=D.reads)(ag:D.reads<=4611686018427350000)(b n:Nat)(T:qV (D.look 1) b n)(a:ByteArray)(ab:a.size<=maxLen)(g:zq a.data.toList=true)(I:List En)(q:List Nat)(hF:q8 (λj=>D.look (j:Nat)) b I q)(N:q.length<=979)(hbs:∀j∈q,21<=j)(p:Option En)(V:(yS ⟨a,9223372036854775807⟩ I).head? =p)(l:xY a p=false):
 Calls Tryz.prog 26 #[.pointer (some ⟨bs,0,none⟩),.string a] w λe w'=>e=.returned (.tuple #[.slice none 0 0,.int .i64 0,.int .i64 5])/\zu w' bs 0 (some bd)/\(∃r:Int,D.reads<=r/\r<=D.reads+14/\zg w' bd S {D with reads:=r })/\za (λk=>k=bd\/k=bs) w w':=by
 have af:Hid (zg w bd S D):=G;have Q:Hid (zq a.data.toList=true):=g;have H:Hid (xY a p=false):=l;have O:bs≠bd:=λe=>J (by rw [e];exact G.bdS);have X:Hid (∀j,S j->j≠bs):=λj ad e=>J (by rw [<-e];exact ad);have U:Hid (∀w',zu w' bs 1 (some bd)->zg w' bd S D->Calls Tryz.prog 50 #[.pointer (some ⟨bs,0,none⟩),.string a] w' λe E=>e=.returned (.tuple #[.agg (jc p).toArray,.bool (xY a p)])/\(∃r:Int,D.reads<=r/\r<=D.reads+14/\zg E bd S {D with reads:=r })/\za (λi=>i=bd) w' E):=λw' ac h2=>xn w' bs bd S D 1 ac h2 J W (by omega) b n T a I q hF N hbs p V
 obtain⟨v,s,t,o,u,aa⟩:∃(v:ByteArray) (s:Int) (t:Bool) (o u:Int),jc p=[.string v,.int .i64 s,.bool t,.int .i64 o,.int .i64 u]:=by
  cases p with
  |none=>exact⟨_,_,_,_,_,rfl⟩
  |some aj=>exact⟨_,_,_,_,_,rfl⟩
 have ae:Hid (jc p=[.string v,.int .i64 s,.bool t,.int .i64 o,.int .i64 u]):=aa;change Hid _ at Y;clear G T hF hbs V g aa l;go_enter_defers Tryz.func26,Tryz.ntmps26
 go_wp2_with (first
  |(go_at_call 47;refine(qd Y).mono ?_;rintro e d ⟨rfl,c,z⟩;have B:Hid (za (λk=>k=bs) w d):=z;have ai:d.cell? ⟨bs,2,none⟩=some (.pointer (some ⟨bd,0,none⟩)):=c.c2;change Hid _ at c;clear z)
  |(go_at_call 49;refine(keys.ql a d ab).mono ?_;rintro e m ⟨rfl,A⟩;rw [A,Q.out];clear A m)
  |(go_at_call 50;refine(U d c (af.kept B X)).mono ?_;rintro e m ⟨rfl,⟨Z,K,L,x⟩,y⟩;rw [ae.out,H.out];have R:Hid (zg m bd S {D with reads:=Z }):=x;have C:Hid (za (λi=>i=bd) d m):=y;clear x y))
 refine leaves_cons (f:= 48) (args:=#[.pointer (some ⟨bs,0,none⟩)]) (by simp) (by simp [go_sem]) ?_;have M:=za.alloc (λ_=>False) m (.cells #[.string v,.int .i64 s,.bool t,.int .i64 o,.int .i64 u] 109);refine(qc ((c.kept C O).kept M id)).mono ?_;rintro e u' ah ⟨rfl,rfl,P,F⟩;exact⟨_,results_tmp3 Tryz.results26 _ _,rfl,P,⟨Z,K,L,(R.kept M nF).kept F X⟩,(((B.mono (S':=λk=>k=bd\/k=bs) (λ_ h=>.inr h)).trans C (λ_ h=>.inl (.inl h))).trans M fE).trans F (λ_ h=>.inl (.inr h))⟩
theorem Uc(w:World)(bs bd:Nat)(S:Nat->Prop)(D:Dk)(ag:zu w bs 0 (some bd))(F:zg w bd S D)(L:¬S bs)(ar:0<=D.reads)(aR:D.reads<=4611686018427350000)(v n:Nat)(ao:qV (D.look 1) v n)(d:ByteArray)(aK:d.size<=maxLen)(z:zq d.data.toList=true)(af:List En)(K:List Nat)(hF:q8 (λj=>D.look (j:Nat)) v af K)(ai:K.length<=979)(hbs:∀j∈K,21<=j)(c:En)(aq:(yS ⟨d,9223372036854775807⟩ af).head? =some c)(J:xY d (some c)=true)
 (ps:List zv) (U:y9 (λj=>D.look (j:Nat)) ps) (Z:(ps.map zv.at_).Nodup) (R:xw ps=c.at_) (l:List UInt8) (au:(ps.map zv.l).flatten=l) (P:l.length=c.size) (aj:c.size<=300) (a2:ps.length<=10):
 Calls Tryz.prog 26 #[.pointer (some ⟨bs,0,none⟩),.string d] w λe w'=>(∃a o,e=.returned (.tuple #[.slice a l.length o,.int .i64 c.pl.num,.int .i64 0])/\w'.ownsRow 0 5 1 (.slice a l.length o) l.length (l.map qA)/\∀k,(Value.slice a l.length o).ownBlock=some k->w.heap.size<=k)/\zu w' bs 0 (some bd)/\(∃r:Int,D.reads<=r/\r<=D.reads+14+ps.length/\zg w' bd S {D with reads:=r })/\za (λk=>k=bd\/k=bs) w w':=by
 have aO:Hid (zg w bd S D):=F;have ak:Hid (zq d.data.toList=true):=z;have ab:Hid (xY d (some c)=true):=J;have aS:bd<w.heap.size:=F.lt bd F.bdS;have aP:=ag.lt;have N:bs≠bd:=λe=>L (by rw [e];exact F.bdS);have av:Hid (∀j,S j->j≠bs):=λj E e=>L (by rw [<-e];exact E);have an:Hid (∀w',zu w' bs 1 (some bd)->zg w' bd S D->Calls Tryz.prog 50 #[.pointer (some ⟨bs,0,none⟩),.string d] w' λe q=>e=.returned (.tuple #[.agg (jc (some c)).toArray,.bool (xY d (some c))])/\(∃r:Int,D.reads<=r/\r<=D.reads+14/\zg q bd S {D with reads:=r })/\za (λi=>i=bd) w' q):=λw' ae h2=>xn w' bs bd S D 1 ae h2 L ar (by omega) v n ao d af K hF ai hbs _ aq;have X:Hid (∀w' (r:Int),zu w' bs 1 (some bd)->zg w' bd S {D with reads:=r}->0<=r->r<=4611686018427360000->Calls Tryz.prog 51 #[.pointer (some ⟨bs,0,none⟩),.agg (qt c).toArray] w' λaZ q=>(∃a o,aZ=.returned (.slice a l.length o)/\q.ownsRow 0 5 1 (.slice a l.length o) l.length (l.map qA)/\∀j,(Value.slice a l.length o).ownBlock=some j->w'.heap.size<=j)/\(∃ad:Int,r<=ad/\ad<=r+ps.length/\zg q bd S {D with reads:=ad })/\za (λi=>i=bd) w' q):=λw' r ae h2 aD aB=>dD w' bs bd S {D with reads:=r} 1 ae h2 L aD aB c ps U Z R l au P aj (by omega);change Hid _ at ag;clear F ao hF hbs aq z J U Z R au P;have Q:jc (some c)=[.string c.pl.key,.int .i64 c.pl.num,.bool c.mark,.int .i64 (c.size:Int),.int .i64 (c.at_:Int)]:=rfl;have ap:Hid (jc (some c)=[.string c.pl.key,.int .i64 c.pl.num,.bool c.mark,.int .i64 (c.size:Int),.int .i64 (c.at_:Int)]):=Q;clear Q;go_enter_defers Tryz.func26,Tryz.ntmps26
 go_wp2_with (first
  |(go_at_call 47;refine(qd ag).mono ?_;rintro e G ⟨rfl,x,W⟩;have A:Hid (za (λk=>k=bs) w G):=W;have aY:G.cell? ⟨bs,2,none⟩=some (.pointer (some ⟨bd,0,none⟩)):=x.c2;change Hid _ at x;clear W)
  |(go_at_call 49;refine(keys.ql d G aK).mono ?_;rintro e b ⟨rfl,O⟩;rw [O,ak.out];clear O b)
  |(go_at_call 50;refine(an G x (aO.kept A av)).mono ?_;rintro e b ⟨rfl,⟨ah,aG,aM,M⟩,V⟩;rw [ap.out,ab.out];have al:Hid (zg b bd S {D with reads:=ah }):=M;have B:Hid (za (λi=>i=bd) G b):=V;clear M V))
 have C:Hid (za (λ_=>False) b (b.alloc (.cells #[.string c.pl.key,.int .i64 c.pl.num,.bool c.mark,.int .i64 (c.size:Int),.int .i64 (c.at_:Int)] 109))):=za.alloc _ _ _;have s:Hid ((b.alloc (.cells #[.string c.pl.key,.int .i64 c.pl.num,.bool c.mark,.int .i64 (c.size:Int),.int .i64 (c.at_:Int)] 109)).heap[b.heap.size]? =some (.cells #[.string c.pl.key,.int .i64 c.pl.num,.bool c.mark,.int .i64 (c.size:Int),.int .i64 (c.at_:Int)] 109 (0,0))):=ac b _;have aV:(b.alloc (.cells #[.string c.pl.key,.int .i64 c.pl.num,.bool c.mark,.int .i64 (c.size:Int),.int .i64 (c.at_:Int)] 109)).heap.size=b.heap.size+1:=by simp
 generalize (b.alloc (.cells #[.string c.pl.key,.int .i64 c.pl.num,.bool c.mark,.int .i64 (c.size:Int),.int .i64 (c.at_:Int)] 109))=g at*;have aU:=A.size;have aQ:=B.size;have aa:Hid (zu g bs 1 (some bd)):=(x.kept B N).kept C id;have am:Hid (zg g bd S {D with reads:=ah }):=al.kept C nF;have aI:g.cell? ⟨b.heap.size,0,none⟩=some (.string c.pl.key):=cR s.out rfl;have aH:g.cell? ⟨b.heap.size,1,none⟩=some (.int .i64 c.pl.num):=cR s.out rfl;have aF:g.cell? ⟨b.heap.size,2,none⟩=some (.bool c.mark):=cR s.out rfl;have aA:g.cell? ⟨b.heap.size,3,none⟩=some (.int .i64 (c.size:Int)):=cR s.out rfl;have aJ:g.cell? ⟨b.heap.size,4,none⟩=some (.int .i64 (c.at_:Int)):=cR s.out rfl;have t:b.heap.size<g.heap.size:=by omega
 have m:¬b.heap.size=bd:=by omega
 unfold qt at X;go_wp2_with fail;go_region_held3 (λw'=>w'.cell? ⟨b.heap.size,0,none⟩=some (.string c.pl.key)/\w'.cell? ⟨b.heap.size,1,none⟩=some (.int .i64 c.pl.num)/\w'.cell? ⟨b.heap.size,2,none⟩=some (.bool c.mark)/\w'.cell? ⟨b.heap.size,3,none⟩=some (.int .i64 (c.size:Int))/\w'.cell? ⟨b.heap.size,4,none⟩=some (.int .i64 (c.at_:Int))) (go_keep) ((go_at_call 51;refine(X _ ah (aa.kept (za.drew (λ_=>False) g) id) (am.kept (za.drew (λ_=>False) g) nF) (by omega) (by omega)).mono ?_;rintro e u ⟨⟨aL,aC,rfl,H,I⟩,⟨az,aN,aE,T⟩,p⟩;have aw:Hid (zg u bd S {D with reads:=az }):=T;have Y:Hid (za (λi=>i=bd) g.drew u):=p;have a0:u.cell? ⟨b.heap.size,0,none⟩=some (.string c.pl.key):=(p.cell (a:=⟨b.heap.size,0,none⟩) t m).trans aI;have a1:u.cell? ⟨b.heap.size,1,none⟩=some (.int .i64 c.pl.num):=(p.cell (a:=⟨b.heap.size,1,none⟩) t m).trans aH;have a5:u.cell? ⟨b.heap.size,2,none⟩=some (.bool c.mark):=(p.cell (a:=⟨b.heap.size,2,none⟩) t m).trans aF;have aX:u.cell? ⟨b.heap.size,3,none⟩=some (.int .i64 (c.size:Int)):=(p.cell (a:=⟨b.heap.size,3,none⟩) t m).trans aA;have a3:u.cell? ⟨b.heap.size,4,none⟩=some (.int .i64 (c.at_:Int)):=(p.cell (a:=⟨b.heap.size,4,none⟩) t m).trans aJ;change Hid _ at H I;clear T p))
 all_goals
  go_wp2;refine leaves_cons (f:= 48) (args:=#[.pointer (some ⟨bs,0,none⟩)]) (by simp) (by simp [go_sem]) ?_;have ax:=aa.kept (za.drew (λ_=>False) g) id;refine(qc (ax.kept Y N)).mono ?_;rintro e u' a4 ⟨rfl,rfl,ay,y⟩;have aT:g.drew.heap.size=g.heap.size:=rfl;refine⟨_,results_tmp3 Tryz.results26 _ _,⟨aL,aC,rfl,y.owns H (λj E aW=>by have:=I.out j E;omega),λj E=>by have:=I.out j E;omega⟩,ay,⟨az,by omega,by omega,aw.kept y av⟩,?_⟩;exact(((((A.mono (S':=λk=>k=bd\/k=bs) (λ_ h=>.inr h)).trans B (λ_ h=>.inl (.inl h))).trans C fE).trans (za.drew (λ_=>False) g) fE).trans Y (λ_ h=>.inl (.inl h))).trans y (λ_ h=>.inl (.inr h))
theorem Ud(w:World)(bs:Nat)(q:Option Nat)(j:zu w bs 0 q)(a:ByteArray)(l:Int)(o:a.size<=maxLen)(b:zq a.data.toList=false):
 Calls Tryz.prog 42 #[.pointer (some ⟨bs,0,none⟩),.string a,.int .i64 l] w λe w'=>e=.returned (.tuple #[.slice none 0 0,.int .i64 2])/\zu w' bs 0 q/\za (λk=>k=bs) w w':=by
 change Hid _ at j b;go_enter_defers Tryz.func42,Tryz.ntmps42
 go_wp2_with (first
  |(go_at_call 47;refine(qd j).mono ?_;rintro e n ⟨rfl,c,d⟩;change Hid _ at c d)
  |(go_at_call 49;refine(keys.ql a n o).mono ?_;rintro e m ⟨rfl,g⟩;rw [g,b.out];clear g m))
 refine leaves_cons (f:= 48) (args:=#[.pointer (some ⟨bs,0,none⟩)]) (by simp) (by simp [go_sem]) ?_;refine(qc c).mono ?_;rintro e u' m ⟨rfl,rfl,i,h⟩;exact⟨_,results_tmp2 rfl _ _ _,rfl,i,d.trans h iL⟩
theorem U4(w:World)(bs:Nat)(j:zu w bs 0 none)(a:ByteArray)(l:Int)(o:a.size<=maxLen)(c:zq a.data.toList=true):
 Calls Tryz.prog 42 #[.pointer (some ⟨bs,0,none⟩),.string a,.int .i64 l] w λe w'=>e=.returned (.tuple #[.slice none 0 0,.int .i64 8])/\zu w' bs 0 none/\za (λk=>k=bs) w w':=by
 change Hid _ at j c;go_enter_defers Tryz.func42,Tryz.ntmps42
 go_wp2_with (first
  |(go_at_call 47;refine(qd j).mono ?_;rintro e n ⟨rfl,b,d⟩;have p:=b.c2;change Hid _ at b d)
  |(go_at_call 49;refine(keys.ql a n o).mono ?_;rintro e m ⟨rfl,g⟩;rw [g,c.out];clear g m))
 refine leaves_cons (f:= 48) (args:=#[.pointer (some ⟨bs,0,none⟩)]) (by simp) (by simp [go_sem]) ?_;refine(qc b).mono ?_;rintro e u' m ⟨rfl,rfl,i,h⟩;exact⟨_,results_tmp2 rfl _ _ _,rfl,i,d.trans h iL⟩
def Gp(key:ByteArray)(num:Int):Option En->Bool
 |some x=>decide (x.pl.key=key)&&decide (x.pl.num=num)&& !x.mark
 |none=>false
theorem at_none(w:World)(bs bd:Nat)(S:Nat->Prop)(D:Dk)(ak:zu w bs 0 (some bd))(B:zg w bd S D)(T:¬S bs)(ae:0<=D.reads)(ay:D.reads<=4611686018427350000)(s n:Nat)(Z:qV (D.look 1) s n)(a:ByteArray)(b:Int)(ap:a.size<=maxLen)(y:zq a.data.toList=true)(R:List En)(H:List Nat)(hF:q8 (λj=>D.look (j:Nat)) s R H)(V:H.length<=979)(hbs:∀j∈H,21<=j)(x:Option En)(ad:(yS ⟨a,b⟩ R).head? =x)(E:Gp a b x=false):
 Calls Tryz.prog 42 #[.pointer (some ⟨bs,0,none⟩),.string a,.int .i64 b] w λe w'=>e=.returned (.tuple #[.slice none 0 0,.int .i64 5])/\zu w' bs 0 (some bd)/\(∃r:Int,D.reads<=r/\r<=D.reads+14/\zg w' bd S {D with reads:=r })/\za (λk=>k=bd\/k=bs) w w':=by
 have aw:Hid (zg w bd S D):=B;have az:=B.lt bd B.bdS;have W:bs≠bd:=λe=>T (by rw [e];exact B.bdS);have ag:Hid (∀j,S j->j≠bs):=λj ao e=>T (by rw [<-e];exact ao)
 have aa:Hid (∀w',zu w' bs 1 (some bd)->zg w' bd S D->Calls Tryz.prog 66 #[.pointer (some ⟨bs,0,none⟩),.agg #[.string a,.int .i64 b]] w' λe L=>e=.returned (.tuple #[.agg (jc x).toArray,.bool x.isSome])/\(∃r:Int,D.reads<=r/\r<=D.reads+14/\zg L bd S {D with reads:=r })/\za (λi=>i=bd) w' L):=λw' ar h2=>by have:=gZ w' bs bd S D 1 ar h2 T ae (by omega) s n Z ⟨a,b⟩ R H hF V hbs;rw [ad] at this;exact this
 obtain⟨l,g,m,C,F,ai,N⟩:∃(l:ByteArray) (g:Int) (m:Bool) (C F:Int),jc x=[.string l,.int .i64 g,.bool m,.int .i64 C,.int .i64 F]/\Gp a b x=(x.isSome&&(decide (l=a)&&decide (g=b)&& !m)):=by
  cases x with
  |none=>exact⟨_,_,_,_,_,rfl,rfl⟩
  |some aH=>exact⟨_,_,_,_,_,rfl,rfl⟩
 change Hid _ at N;change Hid _ at ak y E ai;clear B Z hF hbs ad;go_enter_defers Tryz.func42,Tryz.ntmps42
 go_wp2_with (first
  |(go_at_call 47;refine(qd ak).mono ?_;rintro e c ⟨rfl,t,M⟩;have z:Hid (za (λk=>k=bs) w c):=M;have aD:=t.c2;change Hid _ at t;clear M)
  |(go_at_call 49;refine(keys.ql a c ap).mono ?_;rintro e d ⟨rfl,J⟩;rw [J,y.out];clear J d))
 have u:Hid (za (λ_=>False) c (c.alloc (.cells #[.string a,.int .i64 b] 107))):=za.alloc _ _ _;have X:Hid ((c.alloc (.cells #[.string a,.int .i64 b] 107)).heap[c.heap.size]? =some (.cells #[.string a,.int .i64 b] 107 (0,0))):=ac c _;have aA:(c.alloc (.cells #[.string a,.int .i64 b] 107)).heap.size=c.heap.size+1:=by simp
 generalize (c.alloc (.cells #[.string a,.int .i64 b] 107))=au at*;have aB:=z.size;refine(aa au (t.kept u id) ((aw.kept z ag).kept u nF)).mono ?_;rintro e d ⟨rfl,⟨al,Q,U,I⟩,p⟩;have Y:Hid (zg d bd S {D with reads:=al }):=I;have ax:=p.size;have O:Hid (d.heap[c.heap.size]? =_):=(p.block _ (by omega) (by omega)).trans X.out;change Hid _ at p;clear I;rw [ai.out]
 have G:Hid ((x.isSome&&(decide (l=a)&&decide (g=b)&& !m))=false):=by show (x.isSome&&(decide (l=a)&&decide (g=b)&& !m))=false;rw [<-N.out];exact E.out
 generalize x.isSome=f at*;have A:Hid (za (λ_=>False) d (d.alloc (.cells #[.string l,.int .i64 g,.bool m,.int .i64 C,.int .i64 F] 109))):=za.alloc _ _ _;have aC:(d.alloc (.cells #[.string l,.int .i64 g,.bool m,.int .i64 C,.int .i64 F] 109)).heap.size=d.heap.size+1:=by simp
 have aE:d.cell? ⟨c.heap.size,0,none⟩=some (.string a):=cR O.out rfl;have aF:d.cell? ⟨c.heap.size,1,none⟩=some (.int .i64 b):=cR O.out rfl;have an:c.heap.size<d.heap.size:=by omega
 have v:Hid (∀P:World,P=(d.alloc (.cells #[.string l,.int .i64 g,.bool m,.int .i64 C,.int .i64 F] 109))->∀tmps:Array Value,tmps.getD 6 undef=.slice none 0 0->tmps.getD 7 undef=.int .i64 5->bodyPostD Tryz.prog Tryz.f42 (λe w'=>e=.returned (.tuple #[.slice none 0 0,.int .i64 5])/\zu w' bs 0 (some bd)/\(∃r:Int,D.reads<=r/\r<=D.reads+14/\zg w' bd S {D with reads:=r })/\za (λk=>k=bd\/k=bs) w w') .ret {tmps:=tmps,defers:=[{target:=.fn (.func 48) #[],args:=#[.pointer (some ⟨bs,0,none⟩)] }]} P):=by
  rintro P rfl tmps av aq;refine leaves_cons (f:= 48) (args:=#[.pointer (some ⟨bs,0,none⟩)]) (by simp) (by simp [go_sem]) ?_;refine(qc (((t.kept u id).kept p W).kept A id)).mono ?_;rintro e u' aG ⟨rfl,rfl,aj,K⟩;refine⟨_,results_tmp2 rfl _ _ _,?_,aj,⟨al,Q,U,(Y.kept A nF).kept K ag⟩,?_⟩;.rw [av,aq]
  .exact((((z.mono (S':=λk=>k=bd\/k=bs) (λ_ h=>.inr h)).trans u fE).trans p (λ_ h=>.inl (.inl h))).trans A fE).trans K (λ_ h=>.inl (.inr h))
 cases f with
 |false=>
  go_wp2;exact v _ rfl _ rfl rfl
 |true=>
  by_cases q:l.toList=a.toList
  .have ah:(l.toList==a.toList)=true:=by simp [q]
   have af:Hid _:=qP.1 q;clear q;by_cases o:g=b
   .have am:(g==b)=true:=by simp [o]
    have ab:m=true:=by
     have:=G.out;rw [af.out,o] at this;cases m;.simp at this
     .rfl
    subst ab;clear o;go_wp2;exact v _ rfl _ rfl rfl
   .have am:(g==b)=false:=by simpa using o
    clear o;go_wp2;exact v _ rfl _ rfl rfl
  .have ah:(l.toList==a.toList)=false:=by simpa using q
   clear q;go_wp2;exact v _ rfl _ rfl rfl
end prog
end Go.Proofs.YtcoengihaobddaaGreatDoor
